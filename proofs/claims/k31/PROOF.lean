import PyProof.Rows.All
import Wide.All
import OpenK.AllK
import Wide.FinOn
import Lean
import PyProof.EqAt
import PyProof.EqKinds
import PyProof.TupleCall
import KE.KDictLaws
import KE.KDictList
import KE.KDictSum
import KE.KIsAll
import KE.KSortTup
import KE.KUnpack
import KE.KUnpackStar
import PyProof.AttrMissSeq
import PyProof.Conv_int_bool
import PyProof.DictItems
import PyProof.DictIter
import PyProof.DictList
import PyProof.EnumFor
import PyProof.EnumMake
import PyProof.EnumStmt
import PyProof.ExcArgsOwn
import PyProof.ExcAttrAll.ValueError
import PyProof.ExcBaseAll.ValueError
import PyProof.NeKinds
import PyProof.NsDelKeeps
import PyProof.Rows.CatchOwn
import PyProof.Rows.CountFlat
import PyProof.Rows.EnumRows
import PyProof.Rows.FStr
import PyProof.Rows.SortRev
import PyProof.Rows.StrSplitJoin
import PyProof.Rows.StrWeight2
import PyProof.Rows.TupDisplay
import PyProof.RulesTry
import PyProof.SetNew
import PyProof.SetRoads
import PyProof.StationsW
import PyProof.WalkInts
import PyProof.ZipIter
import PySem.Challenge.RW_threewebs_k31_each_tie_twice
set_option Elab.async false
set_option linter.all false
set_option maxRecDepth 100000
namespace L2
open PySem PySem.Spec PyProof.Rows
noncomputable abbrev Key := Sum Int Str
noncomputable def keyIs : Key → Value → Bool
 | .inl k, v => Value.isInt k v
 | .inr x, v => Value.isStrOf x v
noncomputable def keyH (w : World) : Key → Int
 | .inl k => hashInt k
 | .inr x => hashStr w x
theorem keyIs_shape : ∀ {k : Key} {v : Value}, keyIs k v = true → (∃ i t, k = Sum.inl i ∧ v = Value.int i t) ∨ (∃ x t, k = Sum.inr x ∧ v = Value.str x t)
 | .inl i, v, h => by
  obtain ⟨t, e⟩ := Value.isInt_shape (k := i) (v := v) h
  exact .inl ⟨i, t, rfl, e⟩
 | .inr x, v, h => by
  obtain ⟨t, e⟩ := Value.isStrOf_shape (x := x) (v := v) h
  exact .inr ⟨x, t, rfl, e⟩
theorem keyIs_int (i : Int) (t : Tok) : keyIs (.inl i) (.int i t) = true := by simp [keyIs, Value.isInt]
theorem keyIs_str (x : Str) (t : Tok) : keyIs (.inr x) (.str x t) = true := by simp [keyIs, Value.isStrOf]
theorem key_ll (a b : Int) : decide ((Sum.inl a : Key) = Sum.inl b) = (a == b) := by
 by_cases e : a = b
 ·subst e; simp
 ·have h : ¬ (Sum.inl a : Key) = Sum.inl b := fun q => e (Sum.inl.inj q)
  rw [decide_eq_false h]
  exact (beq_eq_false_iff_ne.mpr e).symm
theorem key_rr (a b : Str) : decide ((Sum.inr a : Key) = Sum.inr b) = decide (a = b) := by
 by_cases e : a = b
 ·subst e; simp
 ·have h : ¬ (Sum.inr a : Key) = Sum.inr b := fun q => e (Sum.inr.inj q)
  rw [decide_eq_false h, decide_eq_false e]
theorem key_lr (a : Int) (b : Str) : decide ((Sum.inl a : Key) = Sum.inr b) = false := decide_eq_false (fun q => nomatch q)
theorem key_rl (a : Str) (b : Int) : decide ((Sum.inr a : Key) = Sum.inl b) = false := decide_eq_false (fun q => nomatch q)
noncomputable def mixKind (prog : Program) (w : World) : PySem.KeyKind prog w Key where
 is := keyIs
 hash := keyH w
 inj := fun v a b ha hb => by
  rcases keyIs_shape ha with ⟨i, t, rfl, rfl⟩ | ⟨x, t, rfl, rfl⟩
  ·rcases keyIs_shape hb with ⟨j, u, rfl, e⟩ | ⟨y, u, rfl, e⟩
   ·injection e with e1 _; rw [e1]
   ·exact nomatch e
  ·rcases keyIs_shape hb with ⟨j, u, rfl, e⟩ | ⟨y, u, rfl, e⟩
   ·exact nomatch e
   ·injection e with e1 _; rw [e1]
 byValue := fun k v h => by
  rcases keyIs_shape h with ⟨i, t, rfl, rfl⟩ | ⟨x, t, rfl, rfl⟩ <;> rfl
 pyHash := fun hv h => by
  rcases keyIs_shape hv with ⟨i, t, rfl, rfl⟩ | ⟨x, t, rfl, rfl⟩
  ·exact wpAny_pyHash_int h
  ·exact wpAny_pyHash_str h
 eqBool := fun hu hv h => by
  rcases keyIs_shape hu with ⟨i, t, rfl, rfl⟩ | ⟨x, t, rfl, rfl⟩
  ·rcases keyIs_shape hv with ⟨j, u, rfl, rfl⟩ | ⟨y, u, rfl, rfl⟩
   ·rw [key_ll] at h; exact wpAny_eqBool_int h
   ·rw [key_lr] at h; exact SeqAt.EqAt.int_str i t y u _ _ _ _ h
  ·rcases keyIs_shape hv with ⟨j, u, rfl, rfl⟩ | ⟨y, u, rfl, rfl⟩
   ·rw [key_rl] at h; exact SeqAt.EqAt.str_int x t j u _ _ _ _ h
   ·rw [key_rr] at h; exact wpAny_eqBool_str h
 «strs» := fun k x t v h => by
  rcases keyIs_shape h with ⟨i, u, rfl, e⟩ | ⟨y, u, rfl, e⟩
  ·exact nomatch e
  ·injection e with e1 _
   subst e1
   cases v <;> rfl
theorem mixKind_int (prog : Program) (w : World) (i : Int) (t : Tok) : (mixKind prog w).is (.inl i) (.int i t) = true := keyIs_int i t
theorem mixKind_str (prog : Program) (w : World) (x : Str) (t : Tok) : (mixKind prog w).is (.inr x) (.str x t) = true := keyIs_str x t
end L2
namespace L2
open PySem PySem.Spec PyProof.Rows
inductive V where
 | non | bl (b : Bool) | int (i : Int) | str (x : Str) | byt (b : Array UInt8) | flt (b : UInt64) | ref (a : Addr) | ty (n : String)
 deriving DecidableEq
noncomputable def RelV : V → Value → Prop
 | .non, u => u = Value.none
 | .bl b, u => u = Value.bool b
 | .int i, u => ∃ t, u = Value.int i t
 | .str x, u => ∃ t, u = Value.str x t
 | .byt b, u => ∃ t, u = Value.bytes b t
 | .flt b, u => ∃ t, u = Value.float b t
 | .ref a, u => u = Value.ref a
 | .ty n, u => u = Value.type n
noncomputable abbrev Vals : List V → List Value → Prop := Paired RelV
theorem Vals.length {xs : List V} {us : List Value} (r : Vals xs us) : xs.length = us.length := Paired.length r
theorem Vals.get : ∀ {xs : List V} {us : List Value} {i : Nat} {x : V}, Vals xs us → xs[i]? = some x → ∃ u, us[i]? = some u ∧ RelV x u
 | _, _, _, _, .nil, e => by simp at e
 | _, _, 0, _, .cons r _, e => by simp at e; subst e; exact ⟨_, rfl, r⟩
 | _, _, i + 1, x, .cons _ t, e => by
  obtain ⟨u, h1, h2⟩ := Vals.get (i := i) (x := x) t (by simpa using e)
  exact ⟨u, by simpa using h1, h2⟩
theorem Vals.set {x : V} {u : Value} (r : RelV x u) : ∀ {xs : List V} {us : List Value} (i : Nat), Vals xs us → Vals (xs.set i x) (us.set i u)
 | _, _, _, .nil => .nil
 | _, _, 0, .cons _ t => .cons r t
 | _, _, i + 1, .cons q t => .cons q (Vals.set r i t)
theorem Vals.append : ∀ {xs ys : List V} {us ws : List Value}, Vals xs us → Vals ys ws → Vals (xs ++ ys) (us ++ ws)
 | _, _, _, _, .nil, s => s
 | _, _, _, _, .cons r t, s => .cons r (Vals.append t s)
theorem Vals.take : ∀ {xs : List V} {us : List Value} (n : Nat), Vals xs us → Vals (xs.take n) (us.take n)
 | _, _, 0, _ => .nil
 | _, _, _ + 1, .nil => .nil
 | _, _, n + 1, .cons r t => .cons r (Vals.take n t)
theorem Vals.drop : ∀ {xs : List V} {us : List Value} (n : Nat), Vals xs us → Vals (xs.drop n) (us.drop n)
 | _, _, 0, r => r
 | _, _, _ + 1, .nil => .nil
 | _, _, n + 1, .cons _ t => Vals.drop n t
noncomputable def RelO : Option V → Option Value → Prop
 | some v, some u => RelV v u
 | none, none => True
 | _, _ => False
noncomputable def KV {κ : Type} : List (κ × V) → List (κ × Value) → Prop := Paired fun (p : κ × V) (q : κ × Value) => p.1 = q.1 ∧ RelV p.2 q.2
noncomputable def kV : Key → V
 | .inl i => .int i
 | .inr x => .str x
inductive HO where
 | lst (xs : List V)
 | tup (xs : List V)
 | dK (kvs : List (Key × V)) | dT (kvs : List (List Key × V))
 | set (S : Int → Bool) (n : Nat)
 | ins (C dx : Addr) (fs : List (Str × V))
 | own (x : Addr)
 | xd (fs : List (Str × V))
 | met (f x : Addr)
 | rng (lo hi : Int)
 | frz (o : Obj) (u : HO)
 | tbl (ps : Array Value)
 | ext (φ : Heap → Prop)
noncomputable abbrev Hp := Addr → Option HO
noncomputable def upd (H : Hp) (a : Addr) (o : HO) : Hp := fun b => if b = a then some o else H b
theorem upd_same {H : Hp} {a : Addr} {o : HO} : upd H a o a = some o := by unfold upd; rw [if_pos rfl]
theorem upd_ne {H : Hp} {a b : Addr} {o : HO} (h : b ≠ a) : upd H a o b = H b := by unfold upd; rw [if_neg h]
theorem upd_upd {H : Hp} {a : Addr} {o u : HO} : upd (upd H a o) a u = upd H a u := by
 funext b; unfold upd; split <;> rfl
theorem ne_of {H : Hp} {a b : Addr} {o u : HO} (h : H a = some o) (h' : H b = some u) (d : o ≠ u) : a ≠ b := by
 intro e; subst e; rw [h] at h'; exact d (Option.some.inj h')
theorem ne_of_none {H : Hp} {a b : Addr} {o : HO} (h : H a = some o) (h' : H b = none) : a ≠ b := by
 intro e; subst e; rw [h] at h'; cases h'
section
variable (P : Program) (w : World)
noncomputable def ObjOk (H : Hp) (h : Heap) (a : Addr) : HO → Prop
 | .lst xs => xs.length ≤ sizeLine ∧ ∃ (its : List Value) (n : Nat), Vals xs its ∧ h.get? a = some { cls := .type "list", data := .seq its.toArray n }
 | .tup xs => xs.length ≤ sizeLine ∧ ∃ its : List Value, Vals xs its ∧ IsTup h a its.toArray
 | .dK kvs => kvs.length ≤ sizeLine ∧ (a == sysModules) = false ∧ ∃ vs, KV kvs vs ∧ h.DictOf (mixKind P w) a vs
 | .dT kvs => kvs.length ≤ sizeLine ∧ (a == sysModules) = false ∧ ∃ xs : List (List Key × Addr × Value),
   Paired (fun (p : List Key × V) (q : List Key × Addr × Value) => p.1 = q.1 ∧ H q.2.1 = some (.tup (p.1.map kV)) ∧ RelV p.2 q.2.2) kvs xs ∧
   ∃ o es ep, h.get? a = some o ∧ o.ExactDict ∧ o.data = .dict es ep ∧ es.toList = xs.map (entryOfKey (tupleKind (mixKind P w))) ∧ (xs.map (·.1)).Nodup
 | .set S n => h.SetOf (intKind P w) a S n
 | .ins C dx fs => H dx = some (.own a) ∧ fs.length ≤ 1000 ∧ dx ≠ a ∧ h.get? a = some (PySem.W.instObj C dx) ∧
   ∃ mA, h.Ns1 dx mA ∧ (∀ f, RelO (fs.lookup f) (mA f)) ∧ PySem.Within mA (fs.map (·.1))
 | .own _ => ∃ o, h.get? a = some o
 | .xd fs => ∃ mA, h.Ns1 a mA ∧ ∀ f, RelO (fs.lookup f) (mA f)
 | .rng lo hi => ∃ t u v, h.get? a = some { cls := .type "range", data := .fields #[.int lo t, .int hi u, .int 1 v] }
 | .frz o u => h.get? a = some o ∧ ObjOk H h a u
 | .tbl ps => h.get? a = some { cls := .none, data := .fields ps }
 | .met f x => h.get? a = some (PySem.W.methodObj (.ref f) (.ref x))
 | .ext φ => φ h ∧ (∃ o, h.get? a = some o) ∧ ∀ h1 h2 : Heap, φ h1 → (∀ o, h1.get? a = some o → h2.get? a = some o) → φ h2
noncomputable def HOk (H : Hp) (h : Heap) : Prop := ∀ a o, H a = some o → ObjOk P w H h a o
end
section
variable {P : Program} {w : World} {H H' : Hp} {h h' : Heap} {a : Addr} {o : HO}
theorem ObjOk.lt (x : ObjOk P w H h a o) : a < h.objs.size := by
 cases o with
 | lst xs => obtain ⟨_, _, _, _, e⟩ := x; exact Heap.lt_size e
 | tup xs => obtain ⟨_, _, _, p⟩ := x; exact p.lt
 | dK kvs => obtain ⟨_, _, _, _, o, _, _, e, _⟩ := x; exact Heap.lt_size e
 | dT kvs => obtain ⟨_, _, _, _, o, _, _, e, _⟩ := x; exact Heap.lt_size e
 | set S n => obtain ⟨o, _, _, _, e, _⟩ := x; exact Heap.lt_size e
 | ins C dx fs => obtain ⟨_, _, _, e, _⟩ := x; exact Heap.lt_size e
 | own y => obtain ⟨_, e⟩ := x; exact Heap.lt_size e
 | xd fs => obtain ⟨_, ⟨_, _, _, e, _⟩, _⟩ := x; exact Heap.lt_size e
 | rng lo hi => obtain ⟨_, _, _, e⟩ := x; exact Heap.lt_size e
 | frz ob u => obtain ⟨e, _⟩ := x; exact Heap.lt_size e
 | tbl ps => exact Heap.lt_size (show h.get? a = some _ from x)
 | met f y => exact Heap.lt_size (show h.get? a = some _ from x)
 | ext φ => obtain ⟨_, ⟨_, e⟩, _⟩ := x; exact Heap.lt_size e
theorem Paired.mapP {α β : Type} {F G : α → β → Prop} : ∀ {l₁ : List α} {l₂ : List β}, Paired F l₁ l₂ → (∀ a b, F a b → G a b) → Paired G l₁ l₂
 | _, _, .nil, _ => .nil
 | _, _, .cons r t, f => .cons (f _ _ r) (Paired.mapP t f)
theorem ObjOk.stay (x : ObjOk P w H h a o) (k : ∀ b u, (b = a ∨ H b = some (.own a)) → h.get? b = some u → h'.get? b = some u)
  (ho : ∀ b, H b = some (.own a) → H' b = some (.own a)) (ht : ∀ b xs, H b = some (.tup xs) → H' b = some (.tup xs)) : ObjOk P w H' h' a o := by
 induction o with
 | lst xs => obtain ⟨z, its, n, r, e⟩ := x; exact ⟨z, its, n, r, k _ _ (.inl rfl) e⟩
 | tup xs => obtain ⟨z, its, r, ob, e, c⟩ := x; exact ⟨z, its, r, ob, k _ _ (.inl rfl) e, c⟩
 | dK kvs => obtain ⟨z, y, vs, r, ob, es, ep, e, c⟩ := x; exact ⟨z, y, vs, r, ob, es, ep, k _ _ (.inl rfl) e, c⟩
 | dT kvs =>
  obtain ⟨z, y, xs, r, ob, es, ep, e, c⟩ := x
  exact ⟨z, y, xs, Paired.mapP r fun p q z => ⟨z.1, ht _ _ z.2.1, z.2.2⟩, ob, es, ep, k _ _ (.inl rfl) e, c⟩
 | set S n => obtain ⟨ob, es, ep, t, e, c⟩ := x; exact ⟨ob, es, ep, t, k _ _ (.inl rfl) e, c⟩
 | ins C dx fs =>
  obtain ⟨d, z, ne, e, mA, ⟨od, es, ep, e2, c⟩, r⟩ := x
  exact ⟨ho _ d, z, ne, k _ _ (.inl rfl) e, mA, ⟨od, es, ep, k _ _ (.inr d) e2, c⟩, r⟩
 | own y => obtain ⟨ob, e⟩ := x; exact ⟨ob, k _ _ (.inl rfl) e⟩
 | xd fs => obtain ⟨mA, ⟨od, es, ep, e, c⟩, r⟩ := x; exact ⟨mA, ⟨od, es, ep, k _ _ (.inl rfl) e, c⟩, r⟩
 | rng lo hi => obtain ⟨t, u, v, e⟩ := x; exact ⟨t, u, v, k _ _ (.inl rfl) e⟩
 | frz ob u ih => obtain ⟨e, q⟩ := x; exact ⟨k _ _ (.inl rfl) e, ih q⟩
 | tbl ps =>
  have e : h.get? a = some { cls := .none, data := .fields ps } := x
  show h'.get? a = some { cls := .none, data := .fields ps }
  exact k a _ (.inl rfl) e
 | met f y =>
  have e : h.get? a = some (PySem.W.methodObj (.ref f) (.ref y)) := x
  show h'.get? a = some (PySem.W.methodObj (.ref f) (.ref y))
  exact k a _ (.inl rfl) e
 | ext φ => obtain ⟨p, ⟨o, e⟩, st⟩ := x; exact ⟨st _ _ p fun o q => k _ _ (.inl rfl) q, ⟨o, k _ _ (.inl rfl) e⟩, st⟩
theorem HOk.lt (x : HOk P w H h) (e : H a = some o) : a < h.objs.size := (x a o e).lt
theorem HOk.fresh (x : HOk P w H h) (e : h.objs.size ≤ a) : H a = none := by
 cases q : H a with
 | none => rfl
 | some u => exact absurd (Nat.lt_of_lt_of_le (x.lt q) e) (Nat.lt_irrefl _)
theorem HOk.kept (x : HOk P w H h) (k : ∀ b u, h.get? b = some u → h'.get? b = some u) : HOk P w H h' := fun a o e =>
 (x a o e).stay (fun b u _ q => k b u q) (fun _ q => q) fun _ _ q => q
theorem HOk.laid (x : HOk P w H h) (k : ∀ b u, h.get? b = some u → h'.get? b = some u) (hp : h.objs.size ≤ a) (new : ObjOk P w (upd H a o) h' a o) : HOk P w (upd H a o) h' := fun b u e => by
 have hn := x.fresh hp
 by_cases hb : b = a
 ·subst hb; rw [upd_same] at e; cases e; exact new
 ·rw [upd_ne hb] at e
  exact (x b u e).stay (fun c v _ q => k c v q) (fun c q => by rw [upd_ne (ne_of_none q hn)]; exact q) fun c xs q => by rw [upd_ne (ne_of_none q hn)]; exact q
end
noncomputable def Rd (H : Hp) (a : Addr) (u : HO) : Prop := H a = some u ∨ ∃ o, H a = some (.frz o u)
theorem Rd.ok {P : Program} {w : World} {H : Hp} {h : Heap} {a : Addr} {u : HO} (r : Rd H a u) (x : HOk P w H h) : ObjOk P w H h a u := by
 rcases r with r | ⟨o, r⟩
 ·exact x a u r
 ·obtain ⟨_, q⟩ := x a _ r
  exact q
noncomputable def Mut : Option HO → Prop
 | some (.lst _) => True
 | some (.dK _) => True
 | some (.dT _) => True
 | some (.set _ _) => True
 | some (.ins _ _ _) => True
 | some (.ext _) => True
 | _ => False
section
variable {P : Program} {w : World} {H : Hp} {h h' : Heap} {x e : Addr} {o' : HO}
theorem HOk.write (ok : HOk P w H h) (mu : Mut (H x)) (he : e = x ∨ H e = some (.own x)) (k : ∀ b u, b ≠ e → h.get? b = some u → h'.get? b = some u) (heo : ∃ u, h'.get? e = some u)
  (new : ObjOk P w (upd H x o') h' x o') : HOk P w (upd H x o') h' := fun b u q => by
 have nown : ∀ c y, H c = some (.own y) → c ≠ x := fun c y r z => by subst z; rw [r] at mu; exact mu
 have ntup : ∀ c xs, H c = some (.tup xs) → c ≠ x := fun c xs r z => by subst z; rw [r] at mu; exact mu
 by_cases hb : b = x
 ·subst hb; rw [upd_same] at q; cases q; exact new
 ·rw [upd_ne hb] at q
  by_cases hbe : b = e
  ·have q' : H b = some (.own x) := by
    rcases he with z | z
    ·exact absurd (hbe.trans z) hb
    ·rw [hbe]; exact z
   rw [q] at q'; cases q'
   obtain ⟨v, hv⟩ := heo
   exact ⟨v, by rw [hbe]; exact hv⟩
  ·refine (ok b u q).stay (fun c v hc r => k c v ?_ r) (fun c r => by rw [upd_ne (nown c b r)]; exact r) fun c xs r => by rw [upd_ne (ntup c xs r)]; exact r
   rcases hc with rfl | hc
   ·exact hbe
   ·rintro rfl
    rcases he with z | z
    ·exact nown c b hc z
    ·rw [hc] at z; cases z; exact hb rfl
end
structure Un (fs ex : List Addr) (H H' : Hp) (h h' : Heap) : Prop where
 keep : ∀ b o, h.get? b = some o → H b = none → b ∉ fs → b ∉ ex → h'.get? b = some o
 slot : ∀ b o, h.get? b = some o → H b = none → b ∈ fs → b ∉ ex → ∃ sl, h'.get? b = some { o with slots := sl }
 free : ∀ b o, h.get? b = some o → H b = none → b ∉ ex → H' b = none
 there : ∀ b o, h.get? b = some o → b ∉ ex → ∃ o', h'.get? b = some o'
 tups : ∀ b xs, H b = some (.tup xs) → H' b = some (.tup xs)
 frzs : ∀ b o u, H b = some (.frz o u) → H' b = some (.frz o u)
 tbls : ∀ b ps, H b = some (.tbl ps) → ∃ more, H' b = some (.tbl (ps ++ more))
section
variable {fs fs' ex ex' : List Addr} {H H1 H2 : Hp} {h h1 h2 h' : Heap} {a x e : Addr} {o : HO}
theorem Un.any (u : Un fs ex H H1 h h1) {b : Addr} {ob : Obj} (q : h.get? b = some ob) (n : H b = none) (hx : b ∉ ex) : ∃ sl, h1.get? b = some { ob with slots := sl } := by
 by_cases hb : b ∈ fs
 ·exact u.slot b ob q n hb hx
 ·exact ⟨ob.slots, u.keep b ob q n hb hx⟩
theorem Un.kept (k : ∀ b u, h.get? b = some u → h'.get? b = some u) : Un fs ex H H h h' :=
 ⟨fun b ob q _ _ _ => k b ob q, fun b ob q _ _ _ => ⟨ob.slots, k b ob q⟩, fun _ _ _ n _ => n, fun b ob q _ => ⟨ob, k b ob q⟩, fun _ _ q => q, fun _ _ _ q => q, fun _ ps q => ⟨#[], by rw [q]; simp⟩⟩
theorem Un.refl : Un fs ex H H h h := Un.kept fun _ _ q => q
theorem Un.laid (k : ∀ b u, h.get? b = some u → h'.get? b = some u) (hp : h.objs.size ≤ a) (hn : H a = none) : Un fs ex H (upd H a o) h h' where
 keep := fun b u q _ _ _ => k b u q
 slot := fun b u q _ _ _ => ⟨u.slots, k b u q⟩
 free := fun b u q n _ => by rw [upd_ne (Nat.ne_of_lt (Nat.lt_of_lt_of_le (Heap.lt_size q) hp))]; exact n
 there := fun b u q _ => ⟨u, k b u q⟩
 tups := fun b xs q => by rw [upd_ne (ne_of_none q hn)]; exact q
 frzs := fun b u xs q => by rw [upd_ne (ne_of_none q hn)]; exact q
 tbls := fun b ps q => ⟨#[], by rw [upd_ne (ne_of_none q hn), q]; simp⟩
theorem Un.write (mu : Mut (H x)) (he : e = x ∨ H e = some (.own x)) (k : ∀ b u, b ≠ e → h.get? b = some u → h'.get? b = some u) (heo : ∃ u, h'.get? e = some u) : Un fs ex H (upd H x o) h h' := by
 have hx : ∀ b, H b = none → b ≠ x := fun b n z => by subst z; rw [n] at mu; exact mu
 have hb : ∀ b, H b = none → b ≠ e := fun b n z => by
  subst z
  rcases he with r | r
  ·exact hx b n r
  ·rw [n] at r; cases r
 have hm : ∀ b u, H b = some u → ¬ Mut (some u) → b ≠ x := fun b u q nm z => by subst z; rw [q] at mu; exact nm mu
 refine ⟨fun b u q n _ _ => k b u (hb b n) q, fun b u q n _ _ => ⟨u.slots, k b u (hb b n) q⟩, fun b u q n _ => by rw [upd_ne (hx b n)]; exact n, fun b u q _ => ?_,
  fun b xs q => by rw [upd_ne (hm b _ q fun z => z)]; exact q, fun b u xs q => by rw [upd_ne (hm b _ q fun z => z)]; exact q, fun b ps q => ⟨#[], by rw [upd_ne (hm b _ q fun z => z), q]; simp⟩⟩
 by_cases hbe : b = e
 ·subst hbe; exact heo
 ·exact ⟨u, k b u hbe q⟩
end
noncomputable def trk (h : Heap) (H : Hp) : List Addr := (List.range h.objs.size).filter fun a => (H a).isSome
noncomputable def hidT (h : Heap) (H : Hp) : Heap := PySem.W.hideAll h (trk h H)
theorem hidT_size (h : Heap) (H : Hp) : (hidT h H).objs.size = h.objs.size := PySem.W.hideAll_size _ _
theorem hidT_get {h : Heap} {H : Hp} {b : Addr} {o : Obj} (e : h.get? b = some o) (n : H b = none) : (hidT h H).get? b = some o :=
 PySem.W.hideAll_get _ e fun hm => by
  have q : (H b).isSome = true := (List.mem_filter.mp hm).2
  rw [n] at q; simp at q
theorem of_hidT {h : Heap} {H : Hp} {b : Addr} {o : Obj} (e : (hidT h H).get? b = some o) : h.get? b = some o ∧ H b = none := by
 have e' : h.get? b = some o := PySem.W.of_hideAll (trk h H) e
 refine ⟨e', ?_⟩
 cases q : H b with
 | none => rfl
 | some x =>
  have hm : b ∈ trk h H := List.mem_filter.mpr ⟨List.mem_range.mpr (Heap.lt_size e'), by simp [q]⟩
  have z : (hidT h H).get? b = none := PySem.W.hideAll_none (trk h H) hm
  rw [z] at e; cases e
end L2
namespace L2
open PySem PySem.Spec PyProof.Rows
structure Mod (K : PySem.W.Frag) (mg : Str → Option Value) (base : Heap) : Prop where
 kin : K.In base
 glob : base.Ns mainGlobals mg
 blt : ∃ mb, base.Ns builtinsNs mb ∧ ∀ x : Str, x ≠ "__name__" → mb x = bootBuiltins x
 nolimit : base.NoLimit
structure Cx where
 prog : Program
 w : World
 K : PySem.W.Frag
 mg : Str → Option Value
 base : Heap
 A : Around
 N : List Str
 s₀ : Shared
 H₀ : Hp
 env : Env
 outer : List Env
 stack : List Env
 ex : List Addr
 fn : Str → Bool
 calm : Bool
 pn : List (Addr × Obj)
 xe : Value → Shared → Prop
noncomputable def frs (l : List Env) : List Addr := l.filterMap (·.frame)
noncomputable abbrev Cx.fs (X : Cx) : List Addr := frs X.outer
noncomputable def Vis (sc : Scope) (x : Str) : Prop := sc.names.lookup x = some .local ∨ sc.names.lookup x = some .cell ∨ sc.names.lookup x = some .free
noncomputable def Loc (sc : Scope) (x : Str) : Prop := sc.names.lookup x = some .local ∨ sc.names.lookup x = some .cell
noncomputable def Look (env : Env) (h : Heap) (m : Str → Option Value) (x : Str) (u : Value) : Prop :=
 (env.kindOf x = some .local ∧ m x = some u) ∨ ((env.kindOf x = some .cell ∨ env.kindOf x = some .free) ∧ ∃ c, env.cells.lookup x = some c ∧ h.IsCell c (some u))
structure Cx.Ok (X : Cx) : Prop where
 mod : Mod X.K X.mg X.base
 kind : X.env.scope.kind = .function
 glob : X.env.globals = mainGlobals
 blt : X.env.builtins = builtinsNs
 above : X.s₀.heap.objs.size ≤ X.env.locals
 inj : ∀ x y c, X.env.cells.lookup x = some c → X.env.cells.lookup y = some c → x = y
 has : ∀ x, (X.env.kindOf x = some .cell ∨ X.env.kindOf x = some .free) → ∃ c, X.env.cells.lookup x = some c
 cab : ∀ x c, X.fn x = true → X.env.cells.lookup x = some c → X.s₀.heap.objs.size ≤ c
 hd : X.calm = true → X.A.handled = none
 frames : X.A.frames = some X.stack
 stk : X.stack = X.outer ∨ (X.stack = X.env :: X.outer ∧ X.env.frame = some X.env.locals)
 exf : ∀ b ∈ X.ex, b ≠ X.env.locals ∧ ∀ x c, X.env.cells.lookup x = some c → c ≠ b
 bs : ∀ b o, X.base.get? b = some o → X.s₀.heap.get? b = some o ∧ X.H₀ b = none
 bsz : X.base.objs.size ≤ X.s₀.heap.objs.size
 noex : ∀ b o, X.base.get? b = some o → b ∉ X.ex
 exfs : ∀ b ∈ X.ex, b ∉ X.fs
 funs : X.s₀.heap.FunFrames X.base X.outer
 frf : ∀ b ∈ X.fs, X.H₀ b = none
structure Inv (X : Cx) (pins : List (Addr × Obj)) (σ : List (Option V)) (H : Hp) (s : Shared) : Prop where
 ok : X.Ok
 os : s.os = X.s₀.os
 bare : AllBare s.gens
 base : Un X.fs X.ex X.H₀ H X.s₀.heap s.heap
 loc : ∃ m, s.heap.Ns X.env.locals m ∧ ∀ (i : Nat) (x : Str) (v : V), X.N[i]? = some x → σ[i]? = some (some v) → Vis X.env.scope x → ∃ u, RelV v u ∧ Look X.env s.heap m x u
 cell : ∀ x c, X.env.cells.lookup x = some c → ∃ v, s.heap.IsCell c v
 free : H X.env.locals = none
 freeC : ∀ x c, X.env.cells.lookup x = some c → H c = none
 pin : ∀ p ∈ X.pn ++ pins, s.heap.get? p.1 = some p.2 ∧ H p.1 = none ∧ p.1 ≠ X.env.locals ∧ p.1 ∉ X.fs ∧ ∀ v, p.2.data ≠ .cell v
 hok : HOk X.prog X.w H s.heap
 len : σ.length = X.N.length
section
variable {X : Cx} {pins : List (Addr × Obj)} {σ : List (Option V)} {H H' : Hp} {s : Shared} {h' : Heap}
theorem Cx.Ok.nofr (ok : X.Ok) {b : Addr} {o : Obj} (e : X.base.get? b = some o) : b ∉ X.fs := fun hb => by
 have := (ok.funs.mem hb).1
 rw [e] at this; cases this
theorem Inv.bs (I : Inv X pins σ H s) : ∀ b o, X.base.get? b = some o → s.heap.get? b = some o ∧ H b = none := fun b o e =>
 ⟨I.base.keep b o (I.ok.bs b o e).1 (I.ok.bs b o e).2 (I.ok.nofr e) (I.ok.noex b o e), I.base.free b o (I.ok.bs b o e).1 (I.ok.bs b o e).2 (I.ok.noex b o e)⟩
theorem Inv.bk (I : Inv X pins σ H s) : ∀ b o, X.base.get? b = some o → s.heap.get? b = some o := fun b o e => (I.bs b o e).1
theorem Inv.mod (I : Inv X pins σ H s) : Mod X.K X.mg X.base := I.ok.mod
theorem Inv.kIn (I : Inv X pins σ H s) : X.K.In s.heap := I.ok.mod.kin.keeps I.bk
theorem Inv.lt (I : Inv X pins σ H s) : X.env.locals < s.heap.objs.size := let ⟨_, hn, _⟩ := I.loc; hn.lt
theorem Inv.sz (I : Inv X pins σ H s) : X.s₀.heap.objs.size ≤ s.heap.objs.size := Nat.le_trans I.ok.above (Nat.le_of_lt I.lt)
theorem Inv.nofs (I : Inv X pins σ H s) {a : Addr} (h : s.heap.objs.size ≤ a) : a ∉ X.fs := fun hb => by
 obtain ⟨_, o, ho, _⟩ := I.ok.funs.mem hb
 exact absurd (Nat.lt_of_lt_of_le (Heap.lt_size ho) (Nat.le_trans I.sz h)) (Nat.lt_irrefl _)
theorem Inv.cne (I : Inv X pins σ H s) : ∀ x c, X.env.cells.lookup x = some c → c ≠ X.env.locals := fun x c e z => by
 obtain ⟨v, o, ho, hd⟩ := I.cell x c e
 obtain ⟨m, ⟨o', es, ep, ho', hd', _⟩, _⟩ := I.loc
 rw [z, ho'] at ho; cases ho; rw [hd'] at hd; cases hd
theorem Inv.funs (I : Inv X pins σ H s) : s.heap.FunFrames X.base X.outer := by
 have all : ∀ (l : List Env), (∀ b ∈ frs l, b ∈ X.fs) → X.s₀.heap.FunFrames X.base l → s.heap.FunFrames X.base l := by
  intro l
  induction l with
  | nil => intro _ _; trivial
  | cons env r ih =>
   intro hs hl
   obtain ⟨hk, ⟨L, o, hf, hn, ho, hd⟩, hr⟩ := hl
   have hL : L ∈ X.fs := hs L (by unfold frs; rw [List.filterMap_cons, hf]; exact List.mem_cons_self)
   obtain ⟨sl, e⟩ := I.base.slot L o ho (I.ok.frf L hL) hL fun z => I.ok.exfs L z hL
   exact ⟨hk, ⟨L, _, hf, hn, e, hd⟩, ih (fun b hb => hs b (by unfold frs; rw [List.filterMap_cons, hf]; exact List.mem_cons_of_mem _ hb)) hr⟩
 exact all X.outer (fun _ hb => hb) I.ok.funs
theorem Inv.stack (I : Inv X pins σ H s) : s.heap.FunFrames X.base X.stack := by
 rcases I.ok.stk with e | ⟨e, hf⟩
 ·rw [e]; exact I.funs
 ·rw [e]
  obtain ⟨m, hn, _⟩ := I.loc
  refine .cons (by rw [I.ok.kind]; decide) hf hn ?_ I.funs
  exact Heap.get?_none_of_le (Nat.le_trans I.ok.bsz I.ok.above)
theorem Inv.stkSub (I : Inv X pins σ H s) : ∀ b ∈ frs X.stack, b ∈ X.env.locals :: X.fs := fun b hb => by
 rcases I.ok.stk with e | ⟨e, hf⟩
 ·rw [e] at hb; exact List.mem_cons_of_mem _ hb
 ·rw [e] at hb
  unfold frs at hb
  rw [List.filterMap_cons, hf] at hb
  exact hb
theorem Inv.stkFree (I : Inv X pins σ H s) : ∀ b ∈ frs X.stack, H b = none := fun b hb => by
 rcases List.mem_cons.mp (I.stkSub b hb) with e | hb
 ·rw [e]; exact I.free
 ·obtain ⟨_, o, ho, _⟩ := I.ok.funs.mem hb
  exact I.base.free b o ho (I.ok.frf b hb) fun z => I.ok.exfs b z hb
theorem Inv.step {g' : Array GenState} {t' : Nat} {d' : Drawn} {ch : List Addr} (I : Inv X pins σ H s)
  (hch : ∀ b ∈ ch, (b ∈ X.ex ∨ X.s₀.heap.objs.size ≤ b) ∧ b ≠ X.env.locals ∧ (∀ x c, X.env.cells.lookup x = some c → c ≠ b) ∧ ∀ p ∈ X.pn ++ pins, p.1 ≠ b)
  (keep : ∀ b o, b ≠ X.env.locals → b ∉ X.fs → b ∉ ch → s.heap.get? b = some o → H b = none → h'.get? b = some o)
  (slot : ∀ b o, b ≠ X.env.locals → b ∈ X.fs → b ∉ ch → s.heap.get? b = some o → H b = none → ∃ sl, h'.get? b = some { o with slots := sl }) (free : ∀ b o, b ∉ ch → s.heap.get? b = some o → H b = none → H' b = none)
  (there : ∀ b o, b ∉ ch → s.heap.get? b = some o → ∃ o', h'.get? b = some o')
  (tups : ∀ b xs, H b = some (.tup xs) → H' b = some (.tup xs)) (frzs : ∀ b o u, H b = some (.frz o u) → H' b = some (.frz o u)) (tbls : ∀ b ps, H b = some (.tbl ps) → ∃ more, H' b = some (.tbl (ps ++ more)))
  (ns : ∀ m, s.heap.Ns X.env.locals m → h'.Ns X.env.locals m) (hok : HOk X.prog X.w H' h') (hg : AllBare g') :
  Inv X pins σ H' { s with heap := h', gens := g', drawn := d', toks := t' } := by
 have neL : ∀ b o, X.s₀.heap.get? b = some o → b ≠ X.env.locals := fun b o e => Nat.ne_of_lt (Nat.lt_of_lt_of_le (Heap.lt_size e) I.ok.above)
 have neC : ∀ b o, X.s₀.heap.get? b = some o → b ∉ X.ex → b ∉ ch := fun b o e hx hb => by
  rcases (hch b hb).1 with z | z
  ·exact hx z
  ·exact absurd (Nat.lt_of_lt_of_le (Heap.lt_size e) z) (Nat.lt_irrefl _)
 have cellK : ∀ x c, X.env.cells.lookup x = some c → ∀ v, s.heap.IsCell c v → h'.IsCell c v := fun x c e v ⟨o, ho, hd⟩ => by
  have nch : c ∉ ch := fun z => (hch c z).2.2.1 x c e rfl
  by_cases hc : c ∈ X.fs
  ·obtain ⟨sl, q⟩ := slot c o (I.cne x c e) hc nch ho (I.freeC x c e)
   exact ⟨_, q, hd⟩
  ·exact ⟨o, keep c o (I.cne x c e) hc nch ho (I.freeC x c e), hd⟩
 refine ⟨I.ok, I.os, hg, ⟨fun b o e n hb hx => ?_, fun b o e n hb hx => ?_, fun b o e n hx => ?_, fun b o e hx => ?_, fun b xs e => tups b xs (I.base.tups b xs e), fun b o xs e => frzs b o xs (I.base.frzs b o xs e), fun b ps e => ?_⟩, ?_, fun x c e => ?_, ?_, fun x c e => ?_, fun p hp => ?_, hok, I.len⟩
 ·exact keep b o (neL b o e) hb (neC b o e hx) (I.base.keep b o e n hb hx) (I.base.free b o e n hx)
 ·obtain ⟨sl, e1⟩ := I.base.slot b o e n hb hx
  obtain ⟨sl', e2⟩ := slot b _ (neL b o e) hb (neC b o e hx) e1 (I.base.free b o e n hx)
  exact ⟨sl', e2⟩
 ·obtain ⟨o', e1⟩ := I.base.there b o e hx
  exact free b o' (neC b o e hx) e1 (I.base.free b o e n hx)
 ·obtain ⟨o', e1⟩ := I.base.there b o e hx
  exact there b o' (neC b o e hx) e1
 ·obtain ⟨m1, e1⟩ := I.base.tbls b ps e
  obtain ⟨m2, e2⟩ := tbls b _ e1
  exact ⟨m1 ++ m2, by rw [e2, Array.append_assoc]⟩
 ·obtain ⟨m, hn, hl⟩ := I.loc
  refine ⟨m, ns m hn, fun i x v e1 e2 e3 => ?_⟩
  obtain ⟨u, r, l⟩ := hl i x v e1 e2 e3
  refine ⟨u, r, ?_⟩
  rcases l with l | ⟨k, c, e, z⟩
  ·exact .inl l
  ·exact .inr ⟨k, c, e, cellK x c e _ z⟩
 ·obtain ⟨v, z⟩ := I.cell x c e
  exact ⟨v, cellK x c e v z⟩
 ·obtain ⟨m, ⟨o, _, _, ho, _⟩, _⟩ := I.loc
  exact free _ o (fun z => (hch _ z).2.1 rfl) ho I.free
 ·obtain ⟨v, o, ho, hd⟩ := I.cell x c e
  exact free c o (fun z => (hch c z).2.2.1 x c e rfl) ho (I.freeC x c e)
 ·obtain ⟨e, n, ne, nf, d⟩ := I.pin p hp
  have nch : p.1 ∉ ch := fun z => (hch p.1 z).2.2.2 p hp rfl
  exact ⟨keep p.1 p.2 ne nf nch e n, free p.1 p.2 nch e n, ne, nf, d⟩
theorem Inv.un {t' : Nat} (I : Inv X pins σ H s) (u : Un X.fs [] H H' s.heap h') (hok : HOk X.prog X.w H' h') : Inv X pins σ H' { s with heap := h', toks := t' } := by
 obtain ⟨m, ⟨o, es, ep, ho, r⟩, _⟩ := id I.loc
 obtain ⟨sl, hL⟩ := u.any ho I.free (by simp)
 exact I.step (g' := s.gens) (d' := s.drawn) (ch := []) (fun _ z => nomatch z) (fun b o _ hb _ e n => u.keep b o e n hb (by simp)) (fun b o _ hb _ e n => u.slot b o e n hb (by simp)) (fun b o _ e n => u.free b o e n (by simp)) (fun b o _ e => u.there b o e (by simp)) u.tups u.frzs u.tbls (fun m' hm => by
  obtain ⟨o', es', ep', ho', r'⟩ := hm
  rw [ho] at ho'; cases ho'
  exact ⟨_, es', ep', hL, r'⟩) hok I.bare
theorem Inv.call {g' : Array GenState} {t' : Nat} {d' : Drawn} {ch : List Addr} (I : Inv X pins σ H s) (u : Un (frs X.stack) ch H H' s.heap h') (hok : HOk X.prog X.w H' h') (hg : AllBare g')
  (hch : ∀ b ∈ ch, (b ∈ X.ex ∨ X.s₀.heap.objs.size ≤ b) ∧ b ≠ X.env.locals ∧ (∀ x c, X.env.cells.lookup x = some c → c ≠ b) ∧ ∀ p ∈ X.pn ++ pins, p.1 ≠ b) :
  Inv X pins σ H' { s with heap := h', gens := g', drawn := d', toks := t' } := by
 obtain ⟨m, ⟨o, es, ep, ho, r⟩, _⟩ := id I.loc
 obtain ⟨sl, hL⟩ := u.any ho I.free fun z => (hch _ z).2.1 rfl
 exact I.step (ch := ch) hch (fun b o hL hb hc e n => u.keep b o e n (fun z => (List.mem_cons.mp (I.stkSub b z)).elim hL hb) hc) (fun b o _ _ hc e n => u.any e n hc) (fun b o hc e n => u.free b o e n hc) (fun b o hc e => u.there b o e hc) u.tups u.frzs u.tbls (fun m' hm => by
  obtain ⟨o', es', ep', ho', r'⟩ := hm
  rw [ho] at ho'; cases ho'
  exact ⟨_, es', ep', hL, r'⟩) hok hg
theorem Inv.turned {t' : Nat} {it : Addr} (I : Inv X pins σ H s) (k : ∀ b o, b ≠ it → s.heap.get? b = some o → h'.get? b = some o) (hn : H it = none) (hL : it ≠ X.env.locals)
  (h1 : it ∈ X.ex ∨ X.s₀.heap.objs.size ≤ it) (h2 : ∀ x c, X.env.cells.lookup x = some c → c ≠ it) (h3 : ∀ p ∈ X.pn ++ pins, p.1 ≠ it) : Inv X pins σ H { s with heap := h', toks := t' } := by
 have nit : ∀ b u, H b = some u → b ≠ it := fun b u e z => by rw [z, hn] at e; cases e
 refine I.step (g' := s.gens) (d' := s.drawn) (ch := [it]) (fun b hb => ?_) (fun b o _ _ hc e _ => k b o (fun z => hc (by simp [z])) e) (fun b o _ _ hc e _ => ⟨o.slots, k b o (fun z => hc (by simp [z])) e⟩) (fun _ _ _ _ n => n)
  (fun b o hc e => ⟨o, k b o (fun z => hc (by simp [z])) e⟩) (fun _ _ e => e) (fun _ _ _ e => e) (fun b ps e => ⟨#[], by rw [e]; simp⟩) (fun m hm => ?_) (fun b u e => ?_) I.bare
 ·have e : b = it := by simpa using hb
  subst e
  exact ⟨h1, hL, h2, h3⟩
 ·obtain ⟨o, es, ep, ho, r⟩ := hm
  exact ⟨o, es, ep, k _ o (Ne.symm hL) ho, r⟩
 ·refine (I.hok b u e).stay (fun c v hc q => k c v ?_ q) (fun _ q => q) fun _ _ q => q
  rcases hc with z | z
  ·rw [z]; exact nit b u e
  ·exact nit c _ z
theorem Inv.tok (I : Inv X pins σ H s) (t : Nat) : Inv X pins σ H { s with toks := t } := I.un (h' := s.heap) (t' := t) Un.refl I.hok
theorem Inv.kept {t' : Nat} (I : Inv X pins σ H s) (k : ∀ b u, s.heap.get? b = some u → h'.get? b = some u) : Inv X pins σ H { s with heap := h', toks := t' } := I.un (Un.kept k) (I.hok.kept k)
theorem Inv.laid {a : Addr} {o : HO} {t' : Nat} (I : Inv X pins σ H s) (k : ∀ b u, s.heap.get? b = some u → h'.get? b = some u) (hp : s.heap.objs.size ≤ a) (new : ObjOk X.prog X.w (upd H a o) h' a o) :
  Inv X pins σ (upd H a o) { s with heap := h', toks := t' } := I.un (Un.laid k hp (I.hok.fresh hp)) (I.hok.laid k hp new)
theorem Inv.write {x e : Addr} {o : HO} {t' : Nat} (I : Inv X pins σ H s) (mu : Mut (H x)) (he : e = x ∨ H e = some (.own x)) (k : ∀ b u, b ≠ e → s.heap.get? b = some u → h'.get? b = some u) (heo : ∃ u, h'.get? e = some u)
  (new : ObjOk X.prog X.w (upd H x o) h' x o) : Inv X pins σ (upd H x o) { s with heap := h', toks := t' } := I.un (Un.write mu he k heo) (I.hok.write mu he k heo new)
theorem Inv.pins_of {pins' : List (Addr × Obj)} (I : Inv X pins σ H s) (h : ∀ p ∈ pins', s.heap.get? p.1 = some p.2 ∧ H p.1 = none ∧ p.1 ≠ X.env.locals ∧ p.1 ∉ X.fs ∧ ∀ v, p.2.data ≠ .cell v) : Inv X pins' σ H s :=
 ⟨I.ok, I.os, I.bare, I.base, I.loc, I.cell, I.free, I.freeC, fun p hp => (List.mem_append.mp hp).elim (fun z => I.pin p (List.mem_append_left _ z)) (h p), I.hok, I.len⟩
theorem nodup_ix {N : List Str} (hN : N.Nodup) {i j : Nat} {x : Str} (a : N[i]? = some x) (b : N[j]? = some x) : i = j := by
 obtain ⟨h1, e1⟩ := List.getElem?_eq_some_iff.mp a
 obtain ⟨h2, e2⟩ := List.getElem?_eq_some_iff.mp b
 exact (List.getElem_inj hN).mp (e1.trans e2.symm)
theorem store_ok2 {M : Model} {A : Around} {E : Value → Shared → Prop} {i : Nat} {x : Str} {v : V} {u : Value} {Q : Unit → Shared → Prop} (I : Inv X pins σ H s) (hN : X.N.Nodup) (hi : X.N[i]? = some x) (hx : Loc X.env.scope x) (r : RelV v u)
  (h : ∀ s', Inv X pins (σ.set i (some v)) H s' → (∃ a, Heap.SameBut a s.heap s'.heap ∧ (a = X.env.locals ∨ X.env.cells.lookup x = some a)) → Q () s') (hf : X.fn x = true ∨ X.env.scope.names.lookup x = some .local := by first | exact .inl rfl | exact .inr rfl | assumption) : wpAny M A (storeName X.env x u) Q E s := by
 obtain ⟨m, hn, hl⟩ := id I.loc
 have hcls : (X.env.scope.kind == .class || (X.env.scope.kind == .module && X.env.locals != X.env.globals)) = false := by rw [I.ok.kind]; rfl
 have hiσ : i < σ.length := by rw [I.len]; exact (List.getElem?_eq_some_iff.mp hi).1
 have cne := I.cne
 have tracked : ∀ {a : Addr} {h' : Heap}, (∃ o, s.heap.get? a = some o ∧ H a = none) → Heap.SameBut a s.heap h' → HOk X.prog X.w H h' := fun {a h'} ha hs b ob e => by
  obtain ⟨_, _, hfree⟩ := ha
  refine (I.hok b ob e).stay (fun c w' hc q => (hs.2 c ?_).trans q) (fun _ q => q) fun _ _ q => q
  rintro rfl
  rcases hc with rfl | hc
  ·rw [hfree] at e; cases e
  ·rw [hfree] at hc; cases hc
 rcases hx with hk | hk
 ·refine wpAny_storeName_local hk hn (fun h' hn' hs => ?_) hcls
  obtain ⟨oL, _, _, hoL, _⟩ := id hn
  refine h _ ⟨I.ok, I.os, I.bare, ⟨fun b o e n hb hx => ?_, fun b o e n hb hx => ?_, I.base.free, fun b o e hx => ?_, I.base.tups, I.base.frzs, I.base.tbls⟩, ⟨_, hn', fun j y v' e1 e2 e3 => ?_⟩, fun y c e => ?_, I.free, I.freeC, fun p hp => ?_, tracked ⟨oL, hoL, I.free⟩ hs, by simpa using I.len⟩ ⟨_, hs, .inl rfl⟩
  ·exact (hs.2 b (Nat.ne_of_lt (Nat.lt_of_lt_of_le (Heap.lt_size e) I.ok.above))).trans (I.base.keep b o e n hb hx)
  ·obtain ⟨sl, e1⟩ := I.base.slot b o e n hb hx
   exact ⟨sl, (hs.2 b (Nat.ne_of_lt (Nat.lt_of_lt_of_le (Heap.lt_size e) I.ok.above))).trans e1⟩
  ·obtain ⟨o', e1⟩ := I.base.there b o e hx
   exact ⟨o', (hs.2 b (Nat.ne_of_lt (Nat.lt_of_lt_of_le (Heap.lt_size e) I.ok.above))).trans e1⟩
  ·by_cases hj : j = i
   ·subst hj
    rw [hi] at e1; cases e1
    rw [List.getElem?_set_self hiσ] at e2
    cases e2
    exact ⟨u, r, .inl ⟨hk, by simp⟩⟩
   ·rw [List.getElem?_set_ne (Ne.symm hj)] at e2
    obtain ⟨u', r', q⟩ := hl j y v' e1 e2 e3
    refine ⟨u', r', ?_⟩
    rcases q with ⟨k, e⟩ | ⟨k, c, e, z⟩
    ·refine .inl ⟨k, ?_⟩
     have : y ≠ x := fun e => hj (nodup_ix hN e1 (e ▸ hi))
     simp [this, e]
    ·exact .inr ⟨k, c, e, z.sameBut hs (cne y c e)⟩
  ·obtain ⟨w', z⟩ := I.cell y c e
   exact ⟨w', z.sameBut hs (cne y c e)⟩
  ·obtain ⟨e, n, ne, nf, d⟩ := I.pin p hp
   exact ⟨(hs.2 p.1 ne).trans e, n, ne, nf, d⟩
 ·have hfn : X.fn x = true := by
   rcases hf with z | z
   ·exact z
   ·rw [z] at hk; cases hk
  obtain ⟨c, hc⟩ := I.ok.has x (.inl hk)
  obtain ⟨w', z⟩ := I.cell x c hc
  refine wpAny_storeName_cell I.ok.kind hk hc z (fun h' hc' hs => ?_)
  obtain ⟨oc, hoc, hocd⟩ := id z
  refine h { s with heap := h' } ⟨I.ok, I.os, I.bare, ⟨fun b o e n hb hx => ?_, fun b o e n hb hx => ?_, I.base.free, fun b o e hx => ?_, I.base.tups, I.base.frzs, I.base.tbls⟩, ⟨m, hn.sameBut hs (Ne.symm (cne x c hc)), fun j y v' e1 e2 e3 => ?_⟩, fun y c' e => ?_, I.free, I.freeC, fun p hp => ?_, tracked ⟨oc, hoc, I.freeC x c hc⟩ hs, by simpa using I.len⟩ ⟨c, hs, .inr hc⟩
  ·exact (hs.2 b (Nat.ne_of_lt (Nat.lt_of_lt_of_le (Heap.lt_size e) (I.ok.cab x c hfn hc)))).trans (I.base.keep b o e n hb hx)
  ·obtain ⟨sl, e1⟩ := I.base.slot b o e n hb hx
   exact ⟨sl, (hs.2 b (Nat.ne_of_lt (Nat.lt_of_lt_of_le (Heap.lt_size e) (I.ok.cab x c hfn hc)))).trans e1⟩
  ·obtain ⟨o', e1⟩ := I.base.there b o e hx
   exact ⟨o', (hs.2 b (Nat.ne_of_lt (Nat.lt_of_lt_of_le (Heap.lt_size e) (I.ok.cab x c hfn hc)))).trans e1⟩
  ·by_cases hj : j = i
   ·subst hj
    rw [hi] at e1; cases e1
    rw [List.getElem?_set_self hiσ] at e2
    cases e2
    exact ⟨u, r, .inr ⟨.inl hk, c, hc, hc'⟩⟩
   ·rw [List.getElem?_set_ne (Ne.symm hj)] at e2
    obtain ⟨u', r', q⟩ := hl j y v' e1 e2 e3
    refine ⟨u', r', ?_⟩
    rcases q with q | ⟨k, c', e, z'⟩
    ·exact .inl q
    ·refine .inr ⟨k, c', e, z'.sameBut hs ?_⟩
     rintro rfl
     exact hj (nodup_ix hN e1 (I.ok.inj _ _ _ e hc ▸ hi))
  ·by_cases hcc : c' = c
   ·subst hcc; exact ⟨_, hc'⟩
   ·obtain ⟨w2, z2⟩ := I.cell y c' e
    exact ⟨w2, z2.sameBut hs hcc⟩
  ·obtain ⟨e, n, ne, nf, d⟩ := I.pin p hp
   refine ⟨(hs.2 p.1 ?_).trans e, n, ne, nf, d⟩
   intro q
   rw [q, hoc] at e
   have q' : oc = p.2 := Option.some.inj e
   exact d w' (by rw [← q']; exact hocd)
theorem store_ok {M : Model} {A : Around} {E : Value → Shared → Prop} {i : Nat} {x : Str} {v : V} {u : Value} {Q : Unit → Shared → Prop} (I : Inv X pins σ H s) (hN : X.N.Nodup) (hi : X.N[i]? = some x) (hx : Loc X.env.scope x) (r : RelV v u)
  (h : ∀ s', Inv X pins (σ.set i (some v)) H s' → Q () s') (hf : X.fn x = true ∨ X.env.scope.names.lookup x = some .local := by first | exact .inl rfl | exact .inr rfl | assumption) : wpAny M A (storeName X.env x u) Q E s :=
 store_ok2 I hN hi hx r (fun s' I' _ => h s' I') hf
theorem Inv.call' {s' : Shared} {ch : List Addr} (I : Inv X pins σ H s) (ho : s'.os = s.os) (u : Un (frs X.stack) ch H H' s.heap s'.heap) (hok : HOk X.prog X.w H' s'.heap) (hg : AllBare s'.gens)
  (hch : ∀ b ∈ ch, (b ∈ X.ex ∨ X.s₀.heap.objs.size ≤ b) ∧ b ≠ X.env.locals ∧ (∀ x c, X.env.cells.lookup x = some c → c ≠ b) ∧ ∀ p ∈ X.pn ++ pins, p.1 ≠ b) : Inv X pins σ H' s' := by
 obtain ⟨h', g', d', t', o'⟩ := s'
 have e : o' = s.os := ho
 subst e
 exact I.call (g' := g') (t' := t') (d' := d') u hok hg hch
end
noncomputable abbrev XK := Value → Option Addr → Hp → Prop
noncomputable abbrev St := List (Option V)
noncomputable abbrev VK := V → Hp → Prop
noncomputable abbrev TE := St → Hp → VK → Prop
noncomputable abbrev TT := St → Hp → (Bool → Hp → Prop) → Prop
noncomputable abbrev TA := St → Hp → (List V → Hp → Prop) → Prop
structure Ends where
 nx : St → Hp → Prop
 rt : VK
 bk : St → Hp → Prop := fun _ _ => False
 ct : St → Hp → Prop := fun _ _ => False
noncomputable abbrev TS := Ends → St → Hp → Prop
noncomputable def EP (X : Cx) (pins : List (Addr × Obj)) (σ : St) (Q : VK) (u : Value) (s' : Shared) : Prop := ∃ v H', Inv X pins σ H' s' ∧ RelV v u ∧ Q v H'
noncomputable def TP (X : Cx) (pins : List (Addr × Obj)) (σ : St) (Q : Bool → Hp → Prop) (b : Bool) (s' : Shared) : Prop := ∃ H', Inv X pins σ H' s' ∧ Q b H'
noncomputable def AP (X : Cx) (pins : List (Addr × Obj)) (σ : St) (Q : List V → Hp → Prop) (us : List Value) (s' : Shared) : Prop := ∃ vs H', Inv X pins σ H' s' ∧ Vals vs us ∧ Q vs H'
noncomputable def SP (X : Cx) (pins : List (Addr × Obj)) (D : Ends) (f : Flow) (s' : Shared) : Prop :=
 match f with
 | .next => ∃ σ' H', Inv X pins σ' H' s' ∧ D.nx σ' H'
 | .brk => ∃ σ' H', Inv X pins σ' H' s' ∧ D.bk σ' H'
 | .cont => ∃ σ' H', Inv X pins σ' H' s' ∧ D.ct σ' H'
 | .ret u => ∃ v σ' H', Inv X pins σ' H' s' ∧ RelV v u ∧ D.rt v H'
noncomputable def PE (X : Cx) (e : Expr) (t : TE) : Prop :=
 ∀ (pins : List (Addr × Obj)) (s : Shared) (σ : St) (H : Hp) (Q : VK), Inv X pins σ H s → t σ H Q → wpAny (model X.prog X.w) X.A (eval e X.env) (EP X pins σ Q) X.xe s
noncomputable def PT (X : Cx) (e : Expr) (t : TT) : Prop :=
 ∀ (pins : List (Addr × Obj)) (s : Shared) (σ : St) (H : Hp) (Q : Bool → Hp → Prop), Inv X pins σ H s → t σ H Q → wpAny (model X.prog X.w) X.A (isTrue e X.env (eval e X.env)) (TP X pins σ Q) X.xe s
noncomputable def PW (X : Cx) (e : Expr) (t : TT) : Prop :=
 ∀ (whole : Sem Value) (pins : List (Addr × Obj)) (s : Shared) (σ : St) (H : Hp) (Q : Bool → Hp → Prop), Inv X pins σ H s → t σ H Q → wpAny (model X.prog X.w) X.A (isTrue e X.env whole) (TP X pins σ Q) X.xe s
noncomputable def PA (X : Cx) (es : List Expr) (t : TA) : Prop :=
 ∀ (pos : Pos) (pins : List (Addr × Obj)) (s : Shared) (σ : St) (H : Hp) (Q : List V → Hp → Prop), Inv X pins σ H s → t σ H Q → wpAny (model X.prog X.w) X.A (spliced (backTo pos (starEach es X.env))) (AP X pins σ Q) X.xe s
noncomputable def PS (X : Cx) (st : Stmt) (t : TS) : Prop :=
 ∀ (pins : List (Addr × Obj)) (s : Shared) (σ : St) (H : Hp) (D : Ends), Inv X pins σ H s → t D σ H → wpAny (model X.prog X.w) X.A (exec st X.env) (SP X pins D) X.xe s
noncomputable def PSs (X : Cx) (st : List Stmt) (t : TS) : Prop :=
 ∀ (pins : List (Addr × Obj)) (s : Shared) (σ : St) (H : Hp) (D : Ends), Inv X pins σ H s → t D σ H → wpAny (model X.prog X.w) X.A (execs st X.env) (SP X pins D) X.xe s
theorem thn {α : Type} {t : Sem α} {Q Q' : α → Shared → Prop} {M : Model} {A : Around} {E : Value → Shared → Prop} {s : Shared} (h : wpAny M A t Q E s) (hQ : ∀ a s, Q a s → Q' a s) : wpAny M A t Q' E s := wpAny_mono h hQ fun _ _ x => x
end L2
namespace L2
open PySem PySem.Spec PyProof.Rows
section
variable {X : Cx}
theorem bin {a b : Expr} {ta tb : TE} (ha : PE X a ta) (hb : PE X b tb) {pins : List (Addr × Obj)} {s : Shared} {σ : St} {H : Hp} {R : V → V → Hp → Prop} (I : Inv X pins σ H s) (h : ta σ H fun x H1 => tb σ H1 fun y H2 => R x y H2)
  {α : Type} {Q : α → Shared → Prop} {f : Value → Value → Sem α}
  (hf : ∀ v u s2 x y H2, Inv X pins σ H2 s2 → RelV x v → RelV y u → R x y H2 → wpAny (model X.prog X.w) X.A (f v u) Q X.xe s2) :
  wpAny (model X.prog X.w) X.A (eval a X.env) (fun v s₁ => wpAny (model X.prog X.w) X.A (eval b X.env) (fun u s₂ => wpAny (model X.prog X.w) X.A (f v u) Q X.xe s₂) X.xe s₁) X.xe s := by
 refine thn (ha pins s σ H _ I h) fun v s1 ⟨x, H1, I1, r1, q1⟩ => ?_
 refine thn (hb pins s1 σ H1 _ I1 q1) fun u s2 ⟨y, H2, I2, r2, q2⟩ => ?_
 exact hf v u s2 x y H2 I2 r1 r2 q2
noncomputable def tVar (i : Nat) : TE := fun σ H Q => ∃ v, σ[i]? = some (some v) ∧ Q v H
noncomputable def tC (v : V) : TE := fun _ H Q => Q v H
theorem pe_var {i : Nat} {x : Str} {pos : Pos} (hN : X.N[i]? = some x) (hv : Vis X.env.scope x) (hd : (x == ("__debug__" : Str)) = false := by decide) (hcd : (x == ("__classdict__" : Str)) = false := by decide) : PE X (.Name x pos) (tVar i) := by
 intro pins s σ H Q I h
 obtain ⟨v, e, h⟩ := h
 obtain ⟨m, hn, hl⟩ := I.loc
 obtain ⟨u, r, l⟩ := hl i x v hN e hv
 have fin : EP X pins σ Q u s := ⟨v, H, I, r, h⟩
 rcases l with ⟨hk, hm⟩ | ⟨hk, c, hc, hcell⟩
 ·exact wpAny_Name (wpAny_loadName_local I.ok.kind hk hn hm fin) hd
 ·rcases hk with hk | hk
  ·exact wpAny_Name (wpAny_loadName_cell I.ok.kind hk hc hcell fin) hd
  ·exact wpAny_Name (wpAny_loadName_free I.ok.kind hk hc hcell fin hcd) hd
theorem pe_int {i j pos} : PE X (.Constant (.int i) j pos) (tC (.int i)) := fun _ _ _ H _ I h => wpAny_Constant_int ⟨.int i, H, I.tok _, ⟨_, rfl⟩, h⟩
theorem pe_non {j pos} : PE X (.Constant .none j pos) (tC .non) := fun _ _ _ H _ I h => Constant_none ⟨.non, H, I, rfl, h⟩
theorem pe_str {x j pos} : PE X (.Constant (.str x) j pos) (tC (.str x)) := fun _ _ _ H _ I h => Calls.Constant_str ⟨.str x, H, I.tok _, ⟨_, rfl⟩, h⟩
noncomputable def Gl (X : Cx) (x : Str) : Prop := X.env.kindOf x = some .globalImplicit
theorem ld_glob {E : Value → Shared → Prop} {pins : List (Addr × Obj)} {s : Shared} {σ : St} {H : Hp} {x : Str} {u : Value} {pos : Pos} {Q : Value → Shared → Prop} (I : Inv X pins σ H s) (hg : Gl X x) (hm : X.mg x = some u) (h : Q u s)
  (hd : (x == ("__debug__" : Str)) = false := by decide) : wpAny (model X.prog X.w) X.A (eval (.Name x pos) X.env) Q E s :=
 Calls.Name_function_global I.ok.kind hg (Calls.loadGlobal_global (by rw [I.ok.glob]; exact I.mod.glob.keeps I.bk) hm h) hd
theorem ld_blt {E : Value → Shared → Prop} {pins : List (Addr × Obj)} {s : Shared} {σ : St} {H : Hp} {x : Str} {u : Value} {pos : Pos} {Q : Value → Shared → Prop} (I : Inv X pins σ H s) (hg : Gl X x) (hm : X.mg x = none) (hv : bootBuiltins x = some u) (h : Q u s)
  (hn : x ≠ "__name__" := by decide) (hd : (x == ("__debug__" : Str)) = false := by decide) : wpAny (model X.prog X.w) X.A (eval (.Name x pos) X.env) Q E s := by
 obtain ⟨mb, h1, h2⟩ := I.mod.blt
 exact Calls.Name_function_global I.ok.kind hg (Calls.loadGlobal_builtin (by rw [I.ok.glob]; exact I.mod.glob.keeps I.bk) hm (by rw [I.ok.blt]; exact h1.keeps I.bk) ((h2 x hn).trans hv) h) hd
theorem pe_glob {x : Str} {v : V} {u : Value} {pos : Pos} (hg : Gl X x) (hm : X.mg x = some u) (r : RelV v u) (hd : (x == ("__debug__" : Str)) = false := by decide) : PE X (.Name x pos) (tC v) :=
 fun _ _ _ H _ I h => ld_glob I hg hm ⟨v, H, I, r, h⟩ hd
theorem pe_bltn {x : Str} {v : V} {u : Value} {pos : Pos} (hg : Gl X x) (hm : X.mg x = none) (hv : bootBuiltins x = some u) (r : RelV v u) (hn : x ≠ "__name__" := by decide) (hd : (x == ("__debug__" : Str)) = false := by decide) : PE X (.Name x pos) (tC v) :=
 fun _ _ _ H _ I h => ld_blt I hg hm hv ⟨v, H, I, r, h⟩ hn hd
variable {a b : Expr} {ta tb : TE} {pos : Pos}
noncomputable def PC (X : Cx) (op : CmpOp) (a b : Expr) (t : TE) : Prop :=
 ∀ (pins : List (Addr × Obj)) (s : Shared) (σ : St) (H : Hp) (Q : VK), Inv X pins σ H s → t σ H Q →
  wpAny (model X.prog X.w) X.A (eval a X.env) (fun v s₁ => wpAny (model X.prog X.w) X.A (eval b X.env) (fun u s₂ => wpAny (model X.prog X.w) X.A (compareOp op v u) (EP X pins σ Q) X.xe s₂) X.xe s₁) X.xe s
noncomputable def tB (t : TE) : TT := fun σ H Q => t σ H fun x H1 => ∃ c, x = .bl c ∧ Q c H1
theorem pt_cmp {op : CmpOp} {t : TE} (h : PC X op a b t) (h1 : behindInMarks op b = false := by first | exact nobehind _ (by decide) (by decide) | rfl) : PT X (.Compare a [op] [b] pos) (tB t) := by
 intro pins s σ H Q I hw
 refine wpAny_isTrue_Compare1 (thn (h pins s σ H _ I hw) fun v s1 h1 => thn h1 fun u s2 h2 => thn h2 fun c s3 ⟨x, H1, I1, r1, q1⟩ => ?_) h1
 obtain ⟨d, rfl, q⟩ := q1
 cases r1
 exact wpAny_truthy_bool ⟨H1, I1, q⟩
theorem pt_val {e : Expr} {t : TE} (h : PE X e t) (he : ∀ whole, isTrue e X.env whole = (do let v ← whole; standAt e.pos; holding [v] (truthy v)) := by intro _; rfl) : PT X e (tB t) := by
 intro pins s σ H Q I hw
 refine isTrue_plain (thn (h pins s σ H _ I hw) fun v s1 ⟨x, H1, I1, r1, q1⟩ => ?_) (he _)
 obtain ⟨d, rfl, q⟩ := q1
 cases r1
 exact wpAny_truthy_bool ⟨H1, I1, q⟩
variable {tA tB' : TT} {rest : List Expr}
noncomputable def tAnd (t u : TT) : TT := fun σ H Q => t σ H fun c H1 => if c = true then u σ H1 Q else Q false H1
noncomputable def tOr (t u : TT) : TT := fun σ H Q => t σ H fun c H1 => if c = true then Q true H1 else u σ H1 Q
noncomputable def tNot (t : TT) : TT := fun σ H Q => t σ H fun c H1 => Q (!c) H1
theorem pw_and1 (ha : PT X a tA) : PW X (.BoolOp .And [a] pos) tA := by
 intro wh pins s σ H Q I h
 refine isTrue_and (thn (ha pins s σ H Q I h) fun c s1 e => ?_)
 cases c with
 | true => exact isTrue_and_nil e
 | false => exact e
theorem pw_or1 (ha : PT X a tA) : PW X (.BoolOp .Or [a] pos) tA := by
 intro wh pins s σ H Q I h
 refine isTrue_or (thn (ha pins s σ H Q I h) fun c s1 e => ?_)
 cases c with
 | false => exact isTrue_or_nil e
 | true => exact e
theorem pw_and (ha : PT X a tA) (hb : PW X (.BoolOp .And (b :: rest) pos) tB') : PW X (.BoolOp .And (a :: b :: rest) pos) (tAnd tA tB') := by
 intro wh pins s σ H Q I h
 refine isTrue_and (thn (ha pins s σ H _ I h) fun c s1 ⟨H1, I1, q1⟩ => ?_)
 cases c with
 | true => exact hb wh pins s1 σ H1 Q I1 q1
 | false => exact ⟨H1, I1, q1⟩
theorem pw_or (ha : PT X a tA) (hb : PW X (.BoolOp .Or (b :: rest) pos) tB') : PW X (.BoolOp .Or (a :: b :: rest) pos) (tOr tA tB') := by
 intro wh pins s σ H Q I h
 refine isTrue_or (thn (ha pins s σ H _ I h) fun c s1 ⟨H1, I1, q1⟩ => ?_)
 cases c with
 | true => exact ⟨H1, I1, q1⟩
 | false => exact hb wh pins s1 σ H1 Q I1 q1
theorem pt_not (ha : PT X a tA) : PT X (.UnaryOp .Not a pos) (tNot tA) := by
 intro pins s σ H Q I h
 exact isTrue_not (ha pins s σ H (fun c H1 => Q (!c) H1) I h)
noncomputable def tAndV (ta tb : TE) : TE := fun σ H Q => ta σ H fun x H1 => ∃ c, x = .bl c ∧ if c = true then tb σ H1 Q else Q (.bl false) H1
noncomputable def tNotV (ta : TE) : TE := fun σ H Q => ta σ H fun x H1 => ∃ c, x = .bl c ∧ Q (.bl (!c)) H1
theorem pe_one {op} {t : TE} (h : PE X a t) : PE X (.BoolOp op [a] pos) t := fun pins s σ H Q I hw => BoolOp_one (h pins s σ H Q I hw)
theorem pe_and (ha : PE X a ta) (hb : PE X (.BoolOp .And (b :: rest) pos) tb) : PE X (.BoolOp .And (a :: b :: rest) pos) (tAndV ta tb) := by
 intro pins s σ H Q I h
 refine BoolOp_and (thn (ha pins s σ H _ I h) fun v s1 ⟨x, H1, I1, r1, q1⟩ => ?_)
 obtain ⟨c, rfl, q1⟩ := q1
 cases r1
 refine wpAny_truthy_bool ?_
 cases c with
 | true => exact hb pins s1 σ H1 Q I1 q1
 | false => exact ⟨.bl false, H1, I1, rfl, q1⟩
theorem pe_not (ha : PE X a ta) : PE X (.UnaryOp .Not a pos) (tNotV ta) := by
 intro pins s σ H Q I h
 refine UnaryOp_ (thn (ha pins s σ H _ I h) fun v s1 ⟨x, H1, I1, r1, q1⟩ => ?_)
 obtain ⟨c, rfl, q1⟩ := q1
 cases r1
 exact not_of (wpAny_truthy_bool ⟨.bl (!c), H1, I1, rfl, q1⟩)
end
end L2
namespace L2
open PySem PySem.Spec PyProof.Rows
noncomputable def SqL (K : PySem.W.Frag) (H : Hp) (a : Addr) (xs : List V) : Prop :=
 Rd H a (.lst xs) ∨
  ∃ (o : Obj) (its : Array Value) (n : Nat), K.lookup a = some o ∧ o.cls = .type "list" ∧ o.dict = none ∧ o.data = .seq its n ∧ its.size ≤ sizeLine ∧ Vals xs its.toList
noncomputable def SqT (K : PySem.W.Frag) (H : Hp) (a : Addr) (xs : List V) : Prop :=
 Rd H a (.tup xs) ∨
  ∃ (o : Obj) (its : Array Value) (n : Nat), K.lookup a = some o ∧ o.cls = .type "tuple" ∧ o.data = .seq its n ∧ its.size ≤ sizeLine ∧ Vals xs its.toList
noncomputable def absV : Value → Option V
 | .none => some .non
 | .bool b => some (.bl b)
 | .int i _ => some (.int i)
 | .str x _ => some (.str x)
 | .bytes b _ => some (.byt b)
 | .float b _ => some (.flt b)
 | .ref a => some (.ref a)
 | .type n => some (.ty n)
 | _ => none
theorem RelV.abs {x : V} {u : Value} (r : RelV x u) : absV u = some x := by
 cases x with
 | non => cases r; rfl
 | bl _ => cases r; rfl
 | int _ => obtain ⟨t, rfl⟩ := r; rfl
 | str _ => obtain ⟨t, rfl⟩ := r; rfl
 | byt _ => obtain ⟨t, rfl⟩ := r; rfl
 | flt _ => obtain ⟨t, rfl⟩ := r; rfl
 | ref _ => cases r; rfl
 | ty _ => cases r; rfl
theorem RelV.inj {x y : V} {u : Value} (r : RelV x u) (q : RelV y u) : x = y := Option.some.inj (r.abs.symm.trans q.abs)
theorem Vals.inj : ∀ {xs ys : List V} {us : List Value}, Vals xs us → Vals ys us → xs = ys
 | _, _, _, .nil, .nil => rfl
 | _, _, _, .cons r t, .cons r' t' => by rw [r.inj r', Vals.inj t t']
section
variable {X : Cx} {pins : List (Addr × Obj)} {σ : St} {H : Hp} {s : Shared} {a : Addr} {xs ys : List V}
theorem SqL.of {K : PySem.W.Frag} (h : H a = some (.lst xs)) : SqL K H a xs := .inl (.inl h)
theorem SqT.of {K : PySem.W.Frag} (h : H a = some (.tup xs)) : SqT K H a xs := .inl (.inl h)
theorem Inv.list (I : Inv X pins σ H s) (h : SqL X.K H a xs) : ∃ its : List Value, Vals xs its ∧ PlainL s.heap a its.toArray ∧ xs.length ≤ sizeLine := by
 rcases h with h | ⟨o, its, n, hk, hc, hd, hs, hz, r⟩
 ·obtain ⟨z, its, n, r, e⟩ := h.ok I.hok
  exact ⟨its, r, ⟨_, n, e, rfl, rfl, rfl⟩, z⟩
 ·refine ⟨its.toList, r, ⟨o, n, I.kIn a o hk, hc, hd, by simpa using hs⟩, ?_⟩
  have e := r.length
  simp only [Array.length_toList] at e
  omega
theorem Inv.tuple (I : Inv X pins σ H s) (h : SqT X.K H a xs) : ∃ its : List Value, Vals xs its ∧ IsTup s.heap a its.toArray ∧ xs.length ≤ sizeLine := by
 rcases h with h | ⟨o, its, n, hk, hc, hs, hz, r⟩
 ·obtain ⟨z, its, r, p⟩ := h.ok I.hok
  exact ⟨its, r, p, z⟩
 ·refine ⟨its.toList, r, ⟨o, I.kIn a o hk, hc, n, by simpa using hs⟩, ?_⟩
  have e := r.length
  simp only [Array.length_toList] at e
  omega
theorem Inv.list_inj (I : Inv X pins σ H s) (h : SqL X.K H a xs) (h' : SqL X.K H a ys) : xs = ys := by
 obtain ⟨its, r, ⟨o, n, e, _, _, d⟩, _⟩ := I.list h
 obtain ⟨its', r', ⟨o', n', e', _, _, d'⟩, _⟩ := I.list h'
 rw [e] at e'; cases e'
 rw [d] at d'
 injection d' with d1 _
 have : its = its' := by simpa using congrArg Array.toList d1
 subst this
 exact r.inj r'
theorem Inv.tuple_inj (I : Inv X pins σ H s) (h : SqT X.K H a xs) (h' : SqT X.K H a ys) : xs = ys := by
 obtain ⟨its, r, ⟨o, e, _, n, d⟩, _⟩ := I.tuple h
 obtain ⟨its', r', ⟨o', e', _, n', d'⟩, _⟩ := I.tuple h'
 rw [e] at e'; cases e'
 rw [d] at d'
 injection d' with d1 _
 have : its = its' := by simpa using congrArg Array.toList d1
 subst this
 exact r.inj r'
end
noncomputable abbrev Cx.wish (X : Cx) (E : Value → Shared → Prop) : Cx := { X with xe := E }
noncomputable abbrev Cx.nox (X : Cx) : Cx := X.wish fun _ _ => False
theorem Cx.Ok.wish {X : Cx} (ok : X.Ok) (E : Value → Shared → Prop) : (X.wish E).Ok :=
 ⟨ok.mod, ok.kind, ok.glob, ok.blt, ok.above, ok.inj, ok.has, ok.cab, ok.hd, ok.frames, ok.stk, ok.exf, ok.bs, ok.bsz, ok.noex, ok.exfs, ok.funs, ok.frf⟩
theorem Cx.Ok.unwish {X : Cx} {E : Value → Shared → Prop} (ok : (X.wish E).Ok) : X.Ok :=
 ⟨ok.mod, ok.kind, ok.glob, ok.blt, ok.above, ok.inj, ok.has, ok.cab, ok.hd, ok.frames, ok.stk, ok.exf, ok.bs, ok.bsz, ok.noex, ok.exfs, ok.funs, ok.frf⟩
section
variable {X : Cx} {pins : List (Addr × Obj)} {σ : St} {H : Hp} {s : Shared} {E : Value → Shared → Prop}
theorem Inv.wish (I : Inv X pins σ H s) (E : Value → Shared → Prop) : Inv (X.wish E) pins σ H s := ⟨I.ok.wish E, I.os, I.bare, I.base, I.loc, I.cell, I.free, I.freeC, I.pin, I.hok, I.len⟩
theorem Inv.unwish (I : Inv (X.wish E) pins σ H s) : Inv X pins σ H s := ⟨I.ok.unwish, I.os, I.bare, I.base, I.loc, I.cell, I.free, I.freeC, I.pin, I.hok, I.len⟩
theorem SP.unwish {D : Ends} {f : Flow} {s' : Shared} (h : SP (X.wish E) pins D f s') : SP X pins D f s' := by
 cases f with
 | next => obtain ⟨σ', H', I, q⟩ := h; exact ⟨σ', H', I.unwish, q⟩
 | brk => obtain ⟨σ', H', I, q⟩ := h; exact ⟨σ', H', I.unwish, q⟩
 | cont => obtain ⟨σ', H', I, q⟩ := h; exact ⟨σ', H', I.unwish, q⟩
 | ret u => obtain ⟨v, σ', H', I, r, q⟩ := h; exact ⟨v, σ', H', I.unwish, r, q⟩
theorem PSs.nox {st : List Stmt} {t : TS} (h : PSs X.nox st t) : PSs X st t := fun pins s σ H D I hw =>
 wpAny_mono (h pins s σ H D (I.wish _) hw) (fun _ _ q => q.unwish) fun _ _ z => False.elim z
end
section
variable {X : Cx} {st : Stmt} {rest : List Stmt} {t u : TS} {e : Expr} {te : TE} {pos : Pos}
noncomputable def tNext : TS := fun D σ H => D.nx σ H
noncomputable def tSeq (t u : TS) : TS := fun D σ H => t { D with nx := u D } σ H
theorem pss_nil : PSs X [] tNext := fun _ _ σ H _ I h => wpAny_execs_nil ⟨σ, H, I, h⟩
theorem pss_cons (h1 : PS X st t) (h2 : PSs X rest u) : PSs X (st :: rest) (tSeq t u) := by
 intro pins s σ H D I h
 refine wpAny_execs_cons (thn (h1 pins s σ H { D with nx := u D } I h) fun f s1 q => ?_)
 cases f with
 | next =>
  obtain ⟨σ', H', I', q⟩ := q
  exact h2 pins s1 σ' H' D I' q
 | ret v => exact q
 | brk => exact q
 | cont => exact q
theorem Inv.quiet {pins : List (Addr × Obj)} {σ : St} {H : Hp} {s : Shared} (I : Inv X pins σ H s) : interactive X.env = false := by simp [interactive, I.ok.kind]
noncomputable def tDrop (te : TE) : TS := fun D σ H => te σ H fun _ H1 => D.nx σ H1
theorem ps_expr (he : PE X e te) (hs : swapsWith e none pos.line X.env = pure false := by rfl) : PS X (.Expr e pos) (tDrop te) := by
 intro pins s σ H D I h
 exact wpAny_Expr_any (thn (he pins s σ H _ I h) fun v s1 ⟨x, H1, I1, r1, q1⟩ => ⟨σ, H1, I1, q1⟩) I.quiet hs
noncomputable def tRet (te : TE) : TS := fun D σ H => te σ H D.rt
theorem ps_ret (he : PE X e te) : PS X (.Return (some e) pos) (tRet te) := by
 intro pins s σ H D I h
 exact wpAny_Return_some (thn (he pins s σ H _ I h) fun v s1 ⟨x, H1, I1, r1, q1⟩ => ⟨x, σ, H1, I1, r1, q1⟩)
noncomputable def tIfS (c : TT) (t u : TS) : TS := fun D σ H => c σ H fun b H1 => if b = true then t D σ H1 else u D σ H1
theorem ps_if {c : Expr} {a b : List Stmt} {tc : TT} (hc : PT X c tc) (ha : PSs X a t) (hb : PSs X b u) : PS X (.If c a b pos) (tIfS tc t u) := by
 intro pins s σ H D I h
 refine wpAny_If (thn (hc pins s σ H _ I h) fun d s1 ⟨H1, I1, q1⟩ => ?_)
 cases d with
 | true => exact ha pins s1 σ H1 D I1 q1
 | false => exact hb pins s1 σ H1 D I1 q1
end
noncomputable abbrev TG := V → St → Hp → (St → Hp → Prop) → Prop
noncomputable abbrev TGs := List V → St → Hp → (St → Hp → Prop) → Prop
noncomputable def PG (X : Cx) (target : Expr) (t : TG) : Prop :=
 ∀ (pins : List (Addr × Obj)) (s : Shared) (σ : St) (H : Hp) (v : V) (u : Value) (Q : St → Hp → Prop), Inv X pins σ H s → RelV v u → t v σ H Q →
  wpAny (model X.prog X.w) X.A (assign target X.env u) (fun _ s' => ∃ σ' H', Inv X pins σ' H' s' ∧ Q σ' H') X.xe s
noncomputable def PGs (X : Cx) (ts : List Expr) (t : TGs) : Prop :=
 ∀ (pins : List (Addr × Obj)) (s : Shared) (σ : St) (H : Hp) (vs : List V) (us : List Value) (Q : St → Hp → Prop), Inv X pins σ H s → Vals vs us → t vs σ H Q →
  wpAny (model X.prog X.w) X.A (assignInOrder ((assignEach ts X.env).map (·.2)) us) (fun _ s' => ∃ σ' H', Inv X pins σ' H' s' ∧ Q σ' H') X.xe s
section
variable {X : Cx} {pos : Pos}
noncomputable def gName (i : Nat) : TG := fun v σ H Q => Q (σ.set i (some v)) H
theorem pg_name {i : Nat} {x : Str} (hN : X.N.Nodup) (hi : X.N[i]? = some x) (hx : Loc X.env.scope x) (hf : X.fn x = true ∨ X.env.scope.names.lookup x = some .local := by first | exact .inl rfl | exact .inr rfl | assumption) : PG X (.Name x pos) (gName i) := by
 intro pins s σ H v u Q I r h
 exact wpAny_assign_Name (store_ok I hN hi hx r (fun s' I' => ⟨_, H, I', h⟩) hf)
noncomputable def gNil : TGs := fun vs σ H Q => vs = [] ∧ Q σ H
noncomputable def gCons (t : TG) (u : TGs) : TGs := fun vs σ H Q => ∃ v r, vs = v :: r ∧ t v σ H fun σ' H' => u r σ' H' Q
theorem pgs_nil : PGs X [] gNil := by
 intro pins s σ H vs us Q I r h
 obtain ⟨e, h⟩ := h
 subst e
 cases r
 exact assignInOrder_nil ⟨σ, H, I, h⟩
theorem pgs_cons {e : Expr} {es : List Expr} {t : TG} {u : TGs} (h1 : PG X e t) (h2 : PGs X es u)
  (hs : (assignEach (e :: es) X.env).map (·.2) = assign e X.env :: (assignEach es X.env).map (·.2) := by rfl) : PGs X (e :: es) (gCons t u) := by
 intro pins s σ H vs us Q I r h
 obtain ⟨v, vr, e1, h⟩ := h
 subst e1
 cases r with
 | cons r rr =>
  rw [hs]
  refine assignInOrder_cons (thn (h1 pins s σ H _ _ _ I r h) fun _ s1 ⟨σ1, H1, I1, q1⟩ => ?_)
  exact h2 pins s1 σ1 H1 _ _ Q I1 rr q1
noncomputable def gTup (K : PySem.W.Frag) (n : Nat) (t : TGs) : TG := fun v σ H Q => ∃ a xs, v = .ref a ∧ SqT K H a xs ∧ xs.length = n ∧ t xs σ H Q
theorem pg_tup {es : List Expr} {k : Nat} {t : TGs} {n : Nat} (hc : X.calm = true) (h : PGs X es t)
  (hn : (assignEach es X.env).length = n := by rfl) (hst : (assignEach es X.env).findIdx? (·.1) = none := by rfl) : PG X (.Tuple es k pos) (gTup X.K n t) := by
 intro pins s σ H v u Q I r hw
 obtain ⟨a, xs, e1, hq, hl, hw⟩ := hw
 subst e1
 cases r
 obtain ⟨its, rv, ht, hz⟩ := I.tuple hq
 refine assign_Tuple_tuple (I.ok.hd hc) ht (by simp [hn, ← hl, rv.length]) hst fun h' hx => ?_
 have I1 : Inv X pins σ H { s with heap := h' } := I.kept (t' := s.toks) fun b o e => hx b o (Nat.ne_of_lt (Heap.lt_size e)) e
 exact h pins _ σ H xs _ Q I1 (by simpa using rv) hw
noncomputable def tAsg (te : TE) (g : TG) : TS := fun D σ H => te σ H fun x H1 => g x σ H1 D.nx
theorem ps_asg {tg e : Expr} {te : TE} {g : TG} (he : PE X e te) (hg : PG X tg g) (hs : swapsWithSole [tg] e pos.line X.env = pure false := by rfl) (hw : swappedStores [tg] e X.env = pure none := by rfl)
  (h1 : (assignEach [tg] X.env).map (·.2) = [assign tg X.env] := by rfl) : PS X (.Assign [tg] e pos) (tAsg te g) := by
 intro pins s σ H D I h
 refine wpAny_Assign_stores (thn (he pins s σ H _ I h) fun v s1 ⟨x, H1, I1, r1, q1⟩ => ?_) hs hw
 rw [h1]
 exact thn (hg pins s1 σ H1 x v _ I1 r1 q1) fun _ s2 q => q
theorem ps_set {i : Nat} {x : Str} {e : Expr} {te : TE} {pos' : Pos} (hN : X.N.Nodup) (hi : X.N[i]? = some x) (hx : Loc X.env.scope x) (he : PE X e te) (hs : swapsWith e (some (.Name x pos')) pos.line X.env = pure false := by rfl) (hf : X.fn x = true ∨ X.env.scope.names.lookup x = some .local := by first | exact .inl rfl | exact .inr rfl | assumption) :
  PS X (.Assign [.Name x pos'] e pos) (tAsg te (gName i)) := by
 intro pins s σ H D I h
 refine wpAny_Assign_Name (thn (he pins s σ H _ I h) fun v s1 ⟨y, H1, I1, r1, q1⟩ => ?_) hs
 exact store_ok I1 hN hi hx r1 (fun s2 I2 => ⟨_, H1, I2, q1⟩) hf
end
section
variable {X : Cx} {pos : Pos}
noncomputable def tWhile (c : TT) (tb : TS) : TS := fun D σ H => ∃ W : Nat → St → Hp → Prop, (∃ m, W m σ H) ∧ ∀ m σ H, W m σ H →
 c σ H fun b H1 => if b = true then ∃ N : St → Hp → Prop, (∀ σ' H', N σ' H' → ∃ m', m' < m ∧ W m' σ' H') ∧ tb { D with nx := N, ct := N, bk := D.nx } σ H1 else D.nx σ H1
theorem ps_while {c : Expr} {body : List Stmt} {tc : TT} {tb : TS} (hp : PassesOwn (model X.prog X.w) X.A X.env X.xe) (hc : PT X c tc) (hb : PSs X body tb) : PS X (.While c body [] pos) (tWhile tc tb) := by
 intro pins s σ H D I h
 obtain ⟨W, ⟨m0, w0⟩, turn⟩ := h
 refine wpAny_While (codeAny_whileLoop (fun n s' => ∃ σ' H', Inv X pins σ' H' s' ∧ W n σ' H') ?_ m0 ⟨σ, H, I, w0⟩)
 rintro n s1 ⟨σ1, H1, I1, w1⟩
 refine wpAny_passesOwn hp (thn (hc pins s1 σ1 H1 _ I1 (turn n σ1 H1 w1)) fun b s2 ⟨H2, I2, q2⟩ => ?_)
 cases b with
 | true =>
  obtain ⟨N, hN, q2⟩ := q2
  rw [if_pos rfl]
  refine wpAny_passesOwn hp (thn (hb pins s2 σ1 H2 _ I2 q2) fun f s3 q3 => ?_)
  cases f with
  | next =>
   obtain ⟨σ3, H3, I3, n3⟩ := q3
   obtain ⟨m', hm, w3⟩ := hN σ3 H3 n3
   exact ⟨m', hm, σ3, H3, I3, w3⟩
  | cont =>
   obtain ⟨σ3, H3, I3, n3⟩ := q3
   obtain ⟨m', hm, w3⟩ := hN σ3 H3 n3
   exact ⟨m', hm, σ3, H3, I3, w3⟩
  | brk => exact q3
  | ret v => exact q3
 | false =>
  rw [if_neg Bool.false_ne_true]
  exact wpAny_execs_nil ⟨σ1, H2, I2, q2⟩
end
structure It where
 go : Nat → Hp → Prop
 yld : Nat → Hp → V → Hp → Prop
 stop : Nat → Hp → Prop
noncomputable def FpOk (X : Cx) (pins : List (Addr × Obj)) (H : Hp) (b : Addr) : Prop :=
 H b = none ∧ b ≠ X.env.locals ∧ b ∉ X.fs ∧ (b ∈ X.ex ∨ X.s₀.heap.objs.size ≤ b) ∧ (∀ x c, X.env.cells.lookup x = some c → c ≠ b) ∧ ∀ p ∈ X.pn ++ pins, p.1 ≠ b
theorem Inv.fpOk {X : Cx} {pins : List (Addr × Obj)} {σ : St} {H H' : Hp} {s : Shared} {b : Addr} (I : Inv X pins σ H s) (hb : s.heap.objs.size ≤ b) (hn : H' b = none) : FpOk X pins H' b := by
 refine ⟨hn, Nat.ne_of_gt (Nat.lt_of_lt_of_le I.lt hb), I.nofs hb, .inr (Nat.le_trans I.sz hb), fun x c e z => ?_, fun p hp z => ?_⟩
 ·obtain ⟨v, q⟩ := I.cell x c e
  exact absurd (Nat.lt_of_lt_of_le q.lt (by rw [z]; exact hb)) (Nat.lt_irrefl _)
 ·exact absurd (Nat.lt_of_lt_of_le (Heap.lt_size (I.pin p hp).1) (by rw [z]; exact hb)) (Nat.lt_irrefl _)
structure Turn (P : Program) (w : World) (K : PySem.W.Frag) (tg : Expr) (J : It) (fp : List Addr) (it : Addr) (tn : Nat → Heap → Prop) : Prop where
 mem : it ∈ fp
 obj : ∀ i h, tn i h → ∀ b ∈ fp, ∃ o, h.get? b = some o ∧ ∀ v, o.data ≠ .cell v
 keep : ∀ i h h', tn i h → (∀ b ∈ fp, ∀ o, h.get? b = some o → h'.get? b = some o) → tn i h'
 item : ∀ (X : Cx), X.prog = P → X.w = w → X.K = K → X.calm = true → ∀ (i : Nat) (pins : List (Addr × Obj)) (s : Shared) (σ : St) (H : Hp) (E : Value → Shared → Prop), Inv X pins σ H s → (∀ b ∈ fp, FpOk X pins H b) → tn i s.heap → J.go i H →
  wpAny (model P w) X.A (pyNext (.ref it)) (fun r s1 => ∃ u, r = some u ∧
   wpAny (model P w) X.A (letOwnedTupleGo tg (.ref it) u) (fun _ s2 => ∃ x H', Inv X pins σ H' s2 ∧ RelV x u ∧ J.yld i H x H' ∧ tn (i + 1) s2.heap ∧ ∀ b ∈ fp, H' b = none) E s1) E s
 done : ∀ (X : Cx), X.prog = P → X.w = w → X.K = K → X.calm = true → ∀ (i : Nat) (pins : List (Addr × Obj)) (s : Shared) (σ : St) (H : Hp) (E : Value → Shared → Prop), Inv X pins σ H s → (∀ b ∈ fp, FpOk X pins H b) → tn i s.heap → J.stop i H →
  wpAny (model P w) X.A (pyNext (.ref it)) (fun r s1 => r = none ∧ Inv X pins σ H s1) E s
 self : ∀ (A : Around) (i : Nat) (s : Shared) (Q : Value → Shared → Prop) (E : Value → Shared → Prop), tn i s.heap → Q (.ref it) s → wpAny (model P w) A (pyIter (.ref it)) Q E s
noncomputable abbrev TI := St → Hp → (It → Hp → Prop) → Prop
noncomputable def PIE (X : Cx) (pins : List (Addr × Obj)) (σ : St) (tg : Expr) (R : It → Hp → Prop) (itv : Value) (s2 : Shared) : Prop :=
 ∃ (it : Addr) (fp : List Addr) (tn : Nat → Heap → Prop) (J : It) (H' : Hp), itv = .ref it ∧ Inv X pins σ H' s2 ∧ Turn X.prog X.w X.K tg J fp it tn ∧ tn 0 s2.heap ∧ (∀ b ∈ fp, FpOk X pins H' b) ∧ R J H'
noncomputable def PI (X : Cx) (tg iter : Expr) (wi : TI) : Prop :=
 ∀ (pins : List (Addr × Obj)) (s : Shared) (σ : St) (H : Hp) (R : It → Hp → Prop), Inv X pins σ H s → wi σ H R →
  wpAny (model X.prog X.w) X.A (eval iter X.env) (fun v s1 => wpAny (model X.prog X.w) X.A (pyIter v) (PIE X pins σ tg R) X.xe s1) X.xe s
theorem go_of {M : Model} {A : Around} {E : Value → Shared → Prop} {s : Shared} {tg : Expr} {it : Addr} {u : Value} {o : Obj} {n : String} {vs : Array Value} {Q : Unit → Shared → Prop} (ho : s.heap.get? it = some o) (hc : o.cls = .type n) (hd : o.data = .fields vs)
    (hn : ["enumerate", "zip", "dict_itemiterator", "dict_reverseitemiterator", "odict_iterator", "itertools.zip_longest", "itertools.pairwise"].contains n = false) (hQ : Q () s) : wpAny M A (letOwnedTupleGo tg (.ref it) u) Q E s := by
  unfold letOwnedTupleGo
  cases tg <;> first
    | exact wpAny_pure hQ
    | (cases u <;> first
        | exact wpAny_pure hQ
        | (refine wpAny_bind (wpAny_load ho ?_)
           rw [hc, hd]
           show wpAny M A (if (["enumerate", "zip", "dict_itemiterator", "dict_reverseitemiterator", "odict_iterator", "itertools.zip_longest", "itertools.pairwise"].contains n && vs[0]? == some (rawInt _)) = true then _ else _) Q E s
           rw [if_neg (by intro h; rw [hn, Bool.false_and] at h; cases h)]
           exact wpAny_pure hQ))
noncomputable def Itl (K : PySem.W.Frag) (a : Addr) : It :=
 ⟨fun i H => ∃ xs x, SqL K H a xs ∧ xs[i]? = some x, fun i H x H' => H' = H ∧ ∀ xs, SqL K H a xs → xs[i]? = some x, fun i H => ∃ xs, SqL K H a xs ∧ xs.length ≤ i⟩
noncomputable def Itt (K : PySem.W.Frag) (a : Addr) : It :=
 ⟨fun i H => ∃ xs x, SqT K H a xs ∧ xs[i]? = some x, fun i H x H' => H' = H ∧ ∀ xs, SqT K H a xs → xs[i]? = some x, fun i H => ∃ xs, SqT K H a xs ∧ xs.length ≤ i⟩
noncomputable def Itr (lo : Int) (n : Nat) : It := ⟨fun i _ => i < n, fun i H x H' => H' = H ∧ x = .int (lo + i), fun i _ => n ≤ i⟩
theorem turn_list {P : Program} {w : World} {K : PySem.W.Frag} {tg : Expr} (a it : Addr) : Turn P w K tg (Itl K a) [it] it (fun i h => h.IsListIter it a i) where
 mem := by simp
 obj := fun i h st b hb => by
  have e : b = it := by simpa using hb
  subst e
  obtain ⟨o, e, c, d⟩ := st
  exact ⟨o, e, fun v z => by rw [d] at z; cases z⟩
 keep := fun i h h' st k => st.at fun o e => k it (by simp) o e
 item := by
  intro X hP hw hK hc i pins s σ H E I hf st hg
  subst hP hw hK
  obtain ⟨xs, x, hq, hx⟩ := hg
  obtain ⟨its, rv, p, hz⟩ := I.list hq
  obtain ⟨u, hu, ru⟩ := rv.get hx
  obtain ⟨f0, f1, f2, f3, f4, f5⟩ := hf it (by simp)
  refine wpAny_pyNext_list_item st p.isList (x := u) (by simpa using hu) fun h' st' sb => ?_
  have I1 : Inv X pins σ H { s with heap := h' } := I.turned (t' := s.toks) (fun b o hb e => (sb.2 b hb).trans e) f0 f1 f3 f4 f5
  obtain ⟨o, e, c, d⟩ := id st'
  exact ⟨u, rfl, go_of (s := { s with heap := h' }) e c d (by decide) ⟨x, H, I1, ru, ⟨rfl, fun ys hy => by rw [I.list_inj hy hq]; exact hx⟩, st', fun b hb => (hf b hb).1⟩⟩
 done := by
  intro X hP hw hK hc i pins s σ H E I hf st hg
  subst hP hw hK
  obtain ⟨xs, hq, hx⟩ := hg
  obtain ⟨its, rv, p, hz⟩ := I.list hq
  obtain ⟨f0, f1, f2, f3, f4, f5⟩ := hf it (by simp)
  have hl := rv.length
  exact wpAny_pyNext_list_end (I.ok.hd hc) st p.isList (by simp; omega) fun h' eb => ⟨rfl, I.turned (t' := s.toks) (fun b o hb e => eb b o hb e) f0 f1 f3 f4 f5⟩
 self := fun _ _ _ _ _ st h => wpAny_pyIter_listiter st h
theorem turn_tuple {P : Program} {w : World} {K : PySem.W.Frag} {tg : Expr} (a it : Addr) : Turn P w K tg (Itt K a) [it] it (fun i h => h.IsTupleIter it a i) where
 mem := by simp
 obj := fun i h st b hb => by
  have e : b = it := by simpa using hb
  subst e
  obtain ⟨o, e, c, d⟩ := st
  exact ⟨o, e, fun v z => by rw [d] at z; cases z⟩
 keep := fun i h h' st k => st.at fun o e => k it (by simp) o e
 item := by
  intro X hP hw hK hc i pins s σ H E I hf st hg
  subst hP hw hK
  obtain ⟨xs, x, hq, hx⟩ := hg
  obtain ⟨its, rv, p, hz⟩ := I.tuple hq
  obtain ⟨u, hu, ru⟩ := rv.get hx
  obtain ⟨f0, f1, f2, f3, f4, f5⟩ := hf it (by simp)
  refine wpAny_pyNext_tuple_item st (show s.heap.IsTuple a its.toArray from p) (x := u) (by simpa using hu) fun h' st' sb => ?_
  have I1 : Inv X pins σ H { s with heap := h' } := I.turned (t' := s.toks) (fun b o hb e => (sb.2 b hb).trans e) f0 f1 f3 f4 f5
  obtain ⟨o, e, c, d⟩ := id st'
  exact ⟨u, rfl, go_of (s := { s with heap := h' }) e c d (by decide) ⟨x, H, I1, ru, ⟨rfl, fun ys hy => by rw [I.tuple_inj hy hq]; exact hx⟩, st', fun b hb => (hf b hb).1⟩⟩
 done := by
  intro X hP hw hK hc i pins s σ H E I hf st hg
  subst hP hw hK
  obtain ⟨xs, hq, hx⟩ := hg
  obtain ⟨its, rv, p, hz⟩ := I.tuple hq
  obtain ⟨f0, f1, f2, f3, f4, f5⟩ := hf it (by simp)
  have hl := rv.length
  exact wpAny_pyNext_tuple_end (I.ok.hd hc) st (show s.heap.IsTuple a its.toArray from p) (by simp; omega) fun h' eb => ⟨rfl, I.turned (t' := s.toks) (fun b o hb e => eb b o hb e) f0 f1 f3 f4 f5⟩
 self := fun _ _ _ _ _ st h => wpAny_pyIter_tupleiter st h
theorem turn_range {P : Program} {w : World} {K : PySem.W.Frag} {tg : Expr} (it : Addr) (lo : Int) (n : Nat) : Turn P w K tg (Itr lo n) [it] it (fun i h => IsRangeIter h it (lo + (i : Nat) * 1) ((n : Int) - (i : Nat)) 1) where
 mem := by simp
 obj := fun i h st b hb => by
  have e : b = it := by simpa using hb
  subst e
  exact ⟨_, st, fun v z => by
   have z' : Data.fields _ = Data.cell v := z
   cases z'⟩
 keep := fun i h h' st k => k it (by simp) _ st
 item := by
  intro X hP hw hK hc i pins s σ H E I hf st hg
  subst hP hw hK
  obtain ⟨f0, f1, f2, f3, f4, f5⟩ := hf it (by simp)
  have W := Walks.range (prog := X.prog) (w := X.w) (I.ok.hd hc) it lo 1 n
  refine W.item i s _ _ hg st fun v h' tk hv st' kk => ?_
  obtain ⟨t, rfl⟩ := hv
  have I1 : Inv X pins σ H { s with heap := h', toks := tk } := I.turned (fun b o hb e => kk b o (by simpa using hb) e) f0 f1 f3 f4 f5
  refine ⟨_, rfl, go_of (s := { s with heap := h', toks := tk }) (n := "range_iterator") st' rfl rfl (by decide) ⟨.int (lo + i), H, I1, ⟨t, ?_⟩, ⟨rfl, rfl⟩, st', fun b hb => (hf b hb).1⟩⟩
  rw [Int.mul_one]
 done := by
  intro X hP hw hK hc i pins s σ H E I hf st hg
  subst hP hw hK
  obtain ⟨f0, f1, f2, f3, f4, f5⟩ := hf it (by simp)
  exact wpAny_pyNext_range_end (I.ok.hd hc) st (by have : n ≤ i := hg; omega) fun h' eb => ⟨rfl, I.turned (t' := s.toks) (fun b o hb e => eb b o hb e) f0 f1 f3 f4 f5⟩
 self := fun _ _ _ _ _ st h => wpAny_pyIter_rangeiter st h
end L2
namespace L2
open PySem PySem.Spec PyProof.Rows
section
variable {X : Cx} {tg : Expr}
noncomputable def iList (K : PySem.W.Frag) (tl : TE) : TI := fun σ H R => tl σ H fun x H1 => ∃ a, x = .ref a ∧ (∃ xs, SqL K H1 a xs) ∧ R (Itl K a) H1
noncomputable def iTup (K : PySem.W.Frag) (tl : TE) : TI := fun σ H R => tl σ H fun x H1 => ∃ a, x = .ref a ∧ (∃ xs, SqT K H1 a xs) ∧ R (Itt K a) H1
theorem pi_list {l : Expr} {tl : TE} (hl : PE X l tl) : PI X tg l (iList X.K tl) := by
 intro pins s σ H R I h
 refine thn (hl pins s σ H _ I h) fun v s1 ⟨x, H1, I1, r1, q1⟩ => ?_
 obtain ⟨a, e, ⟨xs, hq⟩, q⟩ := q1
 subst e
 cases r1
 obtain ⟨its, rv, p, hz⟩ := I1.list hq
 refine wpAny_pyIter_list p.isList ?_
 refine ⟨s1.heap.objs.size, [s1.heap.objs.size], _, _, H1, rfl, I1.kept (t' := s1.toks) fun b o e => Heap.get?_push_of_some _ e, turn_list a _, ⟨_, Heap.get?_push_size _ rfl, rfl, rfl⟩, fun b hb => ?_, q⟩
 have e : b = s1.heap.objs.size := by simpa using hb
 subst e
 exact I1.fpOk (Nat.le_refl _) (I1.hok.fresh (Nat.le_refl _))
theorem pi_tup {l : Expr} {tl : TE} (hl : PE X l tl) : PI X tg l (iTup X.K tl) := by
 intro pins s σ H R I h
 refine thn (hl pins s σ H _ I h) fun v s1 ⟨x, H1, I1, r1, q1⟩ => ?_
 obtain ⟨a, e, ⟨xs, hq⟩, q⟩ := q1
 subst e
 cases r1
 obtain ⟨its, rv, p, hz⟩ := I1.tuple hq
 refine wpAny_pyIter_tuple (show s1.heap.IsTuple a its.toArray from p) ?_
 refine ⟨s1.heap.objs.size, [s1.heap.objs.size], _, _, H1, rfl, I1.kept (t' := s1.toks) fun b o e => Heap.get?_push_of_some _ e, turn_tuple a _, ⟨_, Heap.get?_push_size _ rfl, rfl, rfl⟩, fun b hb => ?_, q⟩
 have e : b = s1.heap.objs.size := by simpa using hb
 subst e
 exact I1.fpOk (Nat.le_refl _) (I1.hok.fresh (Nat.le_refl _))
theorem range_it {pins : List (Addr × Obj)} {σ : St} {H : Hp} {s : Shared} {R : It → Hp → Prop} {E : Value → Shared → Prop} {lo hi : Int} {t u v : Tok} {tk : Nat} (I : Inv X pins σ H s) (h1 : -(2 ^ 62) ≤ lo) (h2 : lo < 2 ^ 62) (h3 : -(2 ^ 62) ≤ hi) (h4 : hi < 2 ^ 62)
  (q : R (Itr lo (hi - lo).toNat) H) : wpAny (model X.prog X.w) X.A (pyIter (.ref s.heap.objs.size)) (PIE X pins σ tg R) E { s with heap := s.heap.push { cls := .type "range", data := .fields #[.int lo t, .int hi u, .int 1 v] }, toks := tk } := by
 refine wpAny_pyIter_range (IsRange.new ..) (small_one h1 h2 h3 h4) ?_
 have I1 : Inv X pins σ H { s with heap := s.heap.push { cls := .type "range", data := .fields #[.int lo t, .int hi u, .int 1 v] }, toks := tk } := I.kept fun b o e => Heap.get?_push_of_some _ e
 refine ⟨(s.heap.push { cls := .type "range", data := .fields #[.int lo t, .int hi u, .int 1 v] }).objs.size, [(s.heap.push { cls := .type "range", data := .fields #[.int lo t, .int hi u, .int 1 v] }).objs.size], _, _, H, rfl,
  I1.kept (t' := tk) fun b o e => Heap.get?_push_of_some _ e, turn_range _ lo (hi - lo).toNat, ?_, fun b hb => ?_, q⟩
 ·have e1 : lo + ((0 : Nat) : Int) * 1 = lo := by simp
  have e2 : (((hi - lo).toNat : Nat) : Int) - ((0 : Nat) : Int) = Builtin.Range.rangeSize lo hi 1 := by rw [rangeSize_one]; split <;> omega
  show IsRangeIter _ _ (lo + ((0 : Nat) : Int) * 1) ((((hi - lo).toNat : Nat) : Int) - ((0 : Nat) : Int)) 1
  rw [e1, e2]
  exact Heap.get?_push_size _ rfl
 ·have e : b = (s.heap.push { cls := .type "range", data := .fields #[.int lo t, .int hi u, .int 1 v] }).objs.size := by simpa using hb
  subst e
  exact I1.fpOk (Nat.le_refl _) (I1.hok.fresh (Nat.le_refl _))
noncomputable def iRng1 (ta : TA) : TI := fun σ H R => ta σ H fun vs H1 => ∃ j : Int, vs = [.int j] ∧ -(2 ^ 62) ≤ j ∧ j < 2 ^ 62 ∧ R (Itr 0 j.toNat) H1
theorem pi_range1 {a : Expr} {ta : TA} {p pos : Pos} (hg : Gl X "range") (hm : X.mg "range" = none) (ha : PA X [a] ta) (hs : starEach [a] X.env = [(false, eval a X.env)] := by rfl) : PI X tg (.Call (.Name "range" p) [a] [] pos) (iRng1 ta) := by
 intro pins s σ H R I h
 refine Call_ (ld_blt I hg hm boot_range (PyProof.Rows.callWith_type1 (thn (ha pos pins s σ H _ I h) fun us s1 ⟨vs, H1, I1, r1, q1⟩ => ?_) hs rfl))
 obtain ⟨j, e, q1, q2, q⟩ := q1
 subst e
 cases r1 with
 | cons r rr =>
  cases rr
  obtain ⟨t, rfl⟩ := r
  exact call_range_1 (range_it I1 (by omega) (by omega) q1 q2 (by simpa using q))
noncomputable def tFor (wi : TI) (g : TG) (tb : TS) : TS := fun D σ H => wi σ H fun J H1 => ∃ W : Nat → Nat → St → Hp → Prop, (∃ m, W 0 m σ H1) ∧ ∀ i m σ H, W i m σ H →
 (J.stop i H ∧ D.nx σ H) ∨ (J.go i H ∧ ∃ N : St → Hp → Prop, (∀ σ' H', N σ' H' → ∃ m', m' < m ∧ W (i + 1) m' σ' H') ∧ ∀ x H', J.yld i H x H' → g x σ H' fun σ2 H2 => tb { D with nx := N, ct := N, bk := D.nx } σ2 H2)
noncomputable def pinsAt (fp : List Addr) (h : Heap) : List (Addr × Obj) := fp.filterMap fun b => (h.get? b).map fun o => (b, o)
theorem mem_pinsAt {fp : List Addr} {h : Heap} {b : Addr} {o : Obj} (hb : b ∈ fp) (e : h.get? b = some o) : (b, o) ∈ pinsAt fp h := List.mem_filterMap.mpr ⟨b, hb, by rw [e]; rfl⟩
theorem of_pinsAt {fp : List Addr} {h : Heap} {p : Addr × Obj} (hp : p ∈ pinsAt fp h) : p.1 ∈ fp ∧ h.get? p.1 = some p.2 := by
 obtain ⟨b, hb, e⟩ := List.mem_filterMap.mp hp
 cases q : h.get? b with
 | none => rw [q] at e; cases e
 | some o =>
  rw [q] at e
  have e' : (b, o) = p := Option.some.inj e
  subst e'
  exact ⟨hb, q⟩
theorem Inv.pinned {pins : List (Addr × Obj)} {σ : St} {H : Hp} {s : Shared} {fp : List Addr} (I : Inv X pins σ H s) (hf : ∀ b ∈ fp, FpOk X pins H b) (ho : ∀ b ∈ fp, ∃ o, s.heap.get? b = some o ∧ ∀ v, o.data ≠ .cell v) : Inv X (pins ++ pinsAt fp s.heap) σ H s :=
 I.pins_of fun p hp => (List.mem_append.mp hp).elim (fun z => I.pin p (List.mem_append_right _ z)) fun z => by
  obtain ⟨hb, e⟩ := of_pinsAt z
  obtain ⟨f0, f1, f2, _⟩ := hf p.1 hb
  obtain ⟨o, e', d⟩ := ho p.1 hb
  rw [e] at e'; cases e'
  exact ⟨e, f0, f1, f2, d⟩
theorem Inv.unpinned {pins pl : List (Addr × Obj)} {σ : St} {H : Hp} {s : Shared} (I : Inv X (pins ++ pl) σ H s) : Inv X pins σ H s := I.pins_of fun p hp => I.pin p (List.mem_append_right _ (List.mem_append_left _ hp))
theorem ps_for {iter : Expr} {body : List Stmt} {wi : TI} {g : TG} {tb : TS} {pos : Pos} (hp : PassesOwn (model X.prog X.w) X.A X.env X.xe) (hc : X.calm = true) (hi : PI X tg iter wi) (hg : PG X tg g) (hb : PSs X body tb)
  (hs : ∀ x, foldedSetIterable iter X.env x = pure x := by intro _; rfl) : PS X (.For tg iter body [] pos) (tFor wi g tb) := by
 intro pins s σ H D I h
 refine wpAny_For (thn (hi pins s σ H _ I h) fun v s1 h1 => thn h1 fun itv s2 h2 => ?_) hs
 obtain ⟨it, fp, tn, J, H2, e, I2, T, st2, f2, W, ⟨m0, w0⟩, turn⟩ := h2
 subst e
 have stat : ∀ {H' : Hp}, (∀ b ∈ fp, H' b = none) → ∀ b ∈ fp, FpOk X pins H' b := fun hn b hb => ⟨hn b hb, (f2 b hb).2⟩
 refine codeAny_forLoop_any (fun n s' => ∃ i σ' H', Inv X pins σ' H' s' ∧ tn i s'.heap ∧ (∀ b ∈ fp, H' b = none) ∧ W i n σ' H') ?_ m0 ⟨0, σ, H2, I2, st2, fun b hb => (f2 b hb).1, w0⟩
 rintro n s3 ⟨i, σ3, H3, I3, st3, fr3, w3⟩
 rcases turn i n σ3 H3 w3 with ⟨stop, qn⟩ | ⟨go, N, hN, step⟩
 ·refine wpAny_passesOwn hp (thn (T.done X rfl rfl rfl hc i pins s3 σ3 H3 X.xe I3 (stat fr3) st3 stop) fun r s4 ⟨hr, I4⟩ => ?_)
  subst hr
  exact wpAny_execs_nil ⟨σ3, H3, I4, qn⟩
 ·refine wpAny_passesOwn hp (thn (T.item X rfl rfl rfl hc i pins s3 σ3 H3 X.xe I3 (stat fr3) st3 go) fun r s4 ⟨u, hr, h4⟩ => ?_)
  subst hr
  refine wpAny_passesOwn hp (thn h4 fun _ s5 ⟨x, H5, I5, r5, y5, st5, fr5⟩ => ?_)
  have I5' := I5.pinned (stat fr5) (T.obj _ _ st5)
  refine wpAny_passesOwn hp (thn (hg _ s5 σ3 H5 x u _ I5' r5 (step x H5 y5)) fun _ s6 ⟨σ6, H6, I6, q6⟩ => ?_)
  refine wpAny_passesOwn hp (thn (hb _ s6 σ6 H6 _ I6 q6) fun f s7 q7 => ?_)
  have again : ∀ {σ7 : St} {H7 : Hp}, Inv X (pins ++ pinsAt fp s5.heap) σ7 H7 s7 → N σ7 H7 → ∃ m, m < n ∧ ∃ i σ' H', Inv X pins σ' H' s7 ∧ tn i s7.heap ∧ (∀ b ∈ fp, H' b = none) ∧ W i m σ' H' := fun {σ7 H7} I7 n7 => by
   obtain ⟨m', hm, w7⟩ := hN σ7 H7 n7
   refine ⟨m', hm, i + 1, σ7, H7, I7.unpinned, T.keep _ _ _ st5 fun b hb o e => (I7.pin (b, o) (List.mem_append_right _ (List.mem_append_right _ (mem_pinsAt hb e)))).1, fun b hb => ?_, w7⟩
   obtain ⟨o, e, d⟩ := T.obj _ _ st5 b hb
   exact (I7.pin (b, o) (List.mem_append_right _ (List.mem_append_right _ (mem_pinsAt hb e)))).2.1
  cases f with
  | next => obtain ⟨σ7, H7, I7, n7⟩ := q7; exact again I7 n7
  | cont => obtain ⟨σ7, H7, I7, n7⟩ := q7; exact again I7 n7
  | brk => obtain ⟨σ7, H7, I7, q7⟩ := q7; exact ⟨σ7, H7, I7.unpinned, q7⟩
  | ret v => obtain ⟨x7, σ7, H7, I7, r7, q7⟩ := q7; exact ⟨x7, σ7, H7, I7.unpinned, r7, q7⟩
end
end L2
namespace L2
open PySem PySem.Spec PyProof.Rows
noncomputable abbrev R2 := V → V → Hp → VK → Prop
noncomputable def OpR (X : Cx) (f : Value → Value → Sem Value) (r : R2) : Prop :=
 ∀ (pins : List (Addr × Obj)) (s : Shared) (σ : St) (H : Hp) (x y : V) (v u : Value) (Q : VK), Inv X pins σ H s → RelV x v → RelV y u → r x y H Q →
  wpAny (model X.prog X.w) X.A (f v u) (EP X pins σ Q) X.xe s
noncomputable def UnR (X : Cx) (f : Value → Sem Value) (r : V → Hp → VK → Prop) : Prop :=
 ∀ (pins : List (Addr × Obj)) (s : Shared) (σ : St) (H : Hp) (x : V) (v : Value) (Q : VK), Inv X pins σ H s → RelV x v → r x H Q →
  wpAny (model X.prog X.w) X.A (f v) (EP X pins σ Q) X.xe s
noncomputable def CallR (X : Cx) (f : Value) (r : List V → Hp → VK → Prop) : Prop :=
 ∀ (pins : List (Addr × Obj)) (s : Shared) (σ : St) (H : Hp) (xs : List V) (us : List Value) (Q : VK), Inv X pins σ H s → Vals xs us → r xs H Q →
  wpAny (model X.prog X.w) X.A (call f us) (EP X pins σ Q) X.xe s
noncomputable def tOp (r : R2) (ta tb : TE) : TE := fun σ H Q => ta σ H fun x H1 => tb σ H1 fun y H2 => r x y H2 Q
noncomputable def tUn (r : V → Hp → VK → Prop) (ta : TE) : TE := fun σ H Q => ta σ H fun x H1 => r x H1 Q
noncomputable def rI (C : Int → Int → Prop) (g : Int → Int → V) : R2 := fun x y H Q => ∃ i j, x = .int i ∧ y = .int j ∧ C i j ∧ Q (g i j) H
noncomputable def rI0 (g : Int → Int → V) : R2 := fun x y H Q => ∃ i j, x = .int i ∧ y = .int j ∧ Q (g i j) H
noncomputable def rU (g : Int → V) : V → Hp → VK → Prop := fun x H Q => ∃ i, x = .int i ∧ Q (g i) H
section
variable {X : Cx} {a b c : Expr} {ta tb tc : TE} {pos : Pos}
theorem binT (ha : PE X a ta) (hb : PE X b tb) {pins : List (Addr × Obj)} {s : Shared} {σ : St} {H : Hp} {R : V → V → Hp → Prop} (I : Inv X pins σ H s)
  (h : ta σ H fun x H1 => tb σ H1 fun y H2 => R x y H2) {Q : Value → Shared → Prop} {f : Value → Value → Sem Value}
  (hf : ∀ v u s2 x y H2, Inv X pins σ H2 s2 → RelV x v → RelV y u → R x y H2 → wpAny (model X.prog X.w) X.A (f v u) Q X.xe s2) :
  wpAny (model X.prog X.w) X.A (eval a X.env) (fun v s₁ => wpAny (model X.prog X.w) X.A (eval b X.env) (fun u s₂ => wpAny (model X.prog X.w) X.A (f v u) Q X.xe s₂) X.xe s₁) X.xe s := by
 refine thn (ha pins s σ H _ I h) fun v s1 ⟨x, H1, I1, r1, q1⟩ => ?_
 refine thn (hb pins s1 σ H1 _ I1 q1) fun u s2 ⟨y, H2, I2, r2, q2⟩ => ?_
 exact hf v u s2 x y H2 I2 r1 r2 q2
theorem pe_op {op : Operator} {r : R2} (ho : OpR X (binaryOp op) r) (ha : PE X a ta) (hb : PE X b tb) : PE X (.BinOp a op b pos) (tOp r ta tb) := by
 intro pins s σ H Q I h
 exact wpAny_BinOp (binT ha hb I h fun v u s2 x y H2 I2 rx ry q => ho pins s2 σ H2 x y v u Q I2 rx ry q)
theorem pe_un {op : UnaryOp} {r : V → Hp → VK → Prop} (ho : UnR X (unaryOp op) r) (ha : PE X a ta) : PE X (.UnaryOp op a pos) (tUn r ta) := by
 intro pins s σ H Q I h
 exact UnaryOp_ (thn (ha pins s σ H _ I h) fun v s1 ⟨x, H1, I1, r1, q1⟩ => ho pins s1 σ H1 x v Q I1 r1 q1)
theorem opI {f : Value → Value → Sem Value} {C : Int → Int → Prop} {g : Int → Int → Int}
  (rule : ∀ (i j : Int) (t u : Tok) (s : Shared) (Q : Value → Shared → Prop) (E : Value → Shared → Prop), C i j → Q (.int (g i j) s.toks) { s with toks := s.toks + 1 } → wpAny (model X.prog X.w) X.A (f (.int i t) (.int j u)) Q E s) :
  OpR X f (rI C fun i j => .int (g i j)) := by
 intro pins s σ H x y v u Q I rx ry h
 obtain ⟨i, j, rfl, rfl, hc, q⟩ := h
 obtain ⟨t, rfl⟩ := rx
 obtain ⟨t', rfl⟩ := ry
 exact rule i j t t' s _ _ hc ⟨.int (g i j), H, I.tok _, ⟨_, rfl⟩, q⟩
theorem opI0 {f : Value → Value → Sem Value} {g : Int → Int → Int}
  (rule : ∀ (i j : Int) (t u : Tok) (s : Shared) (Q : Value → Shared → Prop) (E : Value → Shared → Prop), Q (.int (g i j) s.toks) { s with toks := s.toks + 1 } → wpAny (model X.prog X.w) X.A (f (.int i t) (.int j u)) Q E s) :
  OpR X f (rI0 fun i j => .int (g i j)) := by
 intro pins s σ H x y v u Q I rx ry h
 obtain ⟨i, j, rfl, rfl, q⟩ := h
 obtain ⟨t, rfl⟩ := rx
 obtain ⟨t', rfl⟩ := ry
 exact rule i j t t' s _ _ ⟨.int (g i j), H, I.tok _, ⟨_, rfl⟩, q⟩
theorem opB0 {f : Value → Value → Sem Value} {g : Int → Int → Bool}
  (rule : ∀ (i j : Int) (t u : Tok) (s : Shared) (Q : Value → Shared → Prop) (E : Value → Shared → Prop), Q (.bool (g i j)) s → wpAny (model X.prog X.w) X.A (f (.int i t) (.int j u)) Q E s) :
  OpR X f (rI0 fun i j => .bl (g i j)) := by
 intro pins s σ H x y v u Q I rx ry h
 obtain ⟨i, j, rfl, rfl, q⟩ := h
 obtain ⟨t, rfl⟩ := rx
 obtain ⟨t', rfl⟩ := ry
 exact rule i j t t' s _ _ ⟨.bl (g i j), H, I, rfl, q⟩
noncomputable def CDiv (i j : Int) : Prop := 0 < j ∧ j < 1073741824
noncomputable def CPow (i j : Int) : Prop := 0 ≤ j ∧ j ≤ 1000000 ∧ i.natAbs < 2 ^ 64
noncomputable def CMul (i j : Int) : Prop := (-(2 ^ 64) < i ∧ i < 2 ^ 64) ∨ (-(2 ^ 64) < j ∧ j < 2 ^ 64)
theorem CMul.ok {i j : Int} (h : CMul i j) : IntMulOk i j := by
 rcases h with ⟨h1, h2⟩ | ⟨h1, h2⟩
 ·exact .of_left (intBits_le_64 h1 h2)
 ·exact .of_right (intBits_le_64 h1 h2)
theorem op_add : OpR X (binaryOp .Add) (rI0 fun i j => .int (i + j)) := opI0 fun _ _ _ _ _ _ _ q => add_int q
theorem op_sub : OpR X (binaryOp .Sub) (rI0 fun i j => .int (i - j)) := opI0 fun _ _ _ _ _ _ _ q => sub_int q
theorem op_mul : OpR X (binaryOp .Mult) (rI CMul fun i j => .int (i * j)) := opI fun _ _ _ _ _ _ _ hc q => mul_int q hc.ok
theorem op_fdiv : OpR X (binaryOp .FloorDiv) (rI CDiv fun i j => .int (i / j)) := opI fun i j _ _ _ _ _ hc q => by
 have h1 : (0 : Int) < j := hc.1
 have h2 : j < 1073741824 := hc.2
 exact floordiv_int (by omega) (by rw [Int.fdiv_eq_ediv_of_nonneg i (by omega)]; exact q) (.inl (PyProof.noPylong_small (by omega)))
theorem op_mod : OpR X (binaryOp .Mod) (rI (fun _ j => 0 < j) fun i j => .int (i % j)) := opI fun i j _ _ _ _ _ hc q => by
 have h1 : (0 : Int) < j := hc
 exact mod_int' (by omega) (by rw [Int.fmod_eq_emod_of_nonneg i (by omega)]; exact q)
theorem op_pow : OpR X (binaryOp .Pow) (rI CPow fun i j => .int (i ^ j.toNat)) := opI fun _ _ _ _ _ _ _ hc q => pow_int_small hc.1 hc.2.1 hc.2.2 q
theorem unI {f : Value → Sem Value} {g : Int → Int}
  (rule : ∀ (i : Int) (t : Tok) (s : Shared) (Q : Value → Shared → Prop) (E : Value → Shared → Prop), Q (.int (g i) s.toks) { s with toks := s.toks + 1 } → wpAny (model X.prog X.w) X.A (f (.int i t)) Q E s) :
  UnR X f (rU fun i => .int (g i)) := by
 intro pins s σ H x v Q I rx h
 obtain ⟨i, rfl, q⟩ := h
 obtain ⟨t, rfl⟩ := rx
 exact rule i t s _ _ ⟨.int (g i), H, I.tok _, ⟨_, rfl⟩, q⟩
theorem un_neg : UnR X (unaryOp .USub) (rU fun i => .int (-i)) := unI fun _ _ _ _ _ q => neg_int q
end
noncomputable def scal : V → V → Bool
 | .non, .non => true | .non, .int _ => true | .int _, .non => true | .non, .bl _ => true | .bl _, .non => true | .non, .str _ => true | .str _, .non => true
 | .int _, .int _ => true | .bl _, .bl _ => true | .str _, .str _ => true | .byt _, .byt _ => true
 | .int _, .str _ => true | .str _, .int _ => true | .bl _, .str _ => true | .str _, .bl _ => true
 | _, _ => false
noncomputable def rEq : R2 := fun x y H Q => scal x y = true ∧ Q (.bl (decide (x = y))) H
noncomputable def rNe : R2 := fun x y H Q => scal x y = true ∧ Q (.bl (!decide (x = y))) H
theorem dec_int {i j : Int} : decide (V.int i = V.int j) = (i == j) := by
 rw [Bool.eq_iff_iff]
 simp
theorem dec_bl {i j : Bool} : decide (V.bl i = V.bl j) = (i == j) := by
 rw [Bool.eq_iff_iff]
 simp
theorem dec_str {i j : Str} : decide (V.str i = V.str j) = (i == j) := by
 rw [Bool.eq_iff_iff]
 simp
theorem dec_byt {i j : Array UInt8} : decide (V.byt i = V.byt j) = (i.toList == j.toList) := by
 rw [Bool.eq_iff_iff]
 cases i
 cases j
 simp
section
variable {X : Cx} {a b c : Expr} {ta tb tc : TE} {pos : Pos}
theorem fin_bl {pins : List (Addr × Obj)} {σ : St} {H : Hp} {s : Shared} {Q : VK} {k k' : Bool} (I : Inv X pins σ H s) (q : Q (.bl k) H) (e : k = k') : EP X pins σ Q (.bool k') s := by
 subst e
 exact ⟨.bl k, H, I, rfl, q⟩
theorem op_eq : OpR X (compareOp .Eq) rEq := by
 intro pins s σ H x y v u Q I rx ry h
 obtain ⟨hs, q⟩ := h
 cases x with
 | non =>
  cases rx
  cases y with
  | non => cases ry; exact PySem.EqNone.eq_none_none (fin_bl I q (by simp))
  | bl j => cases ry; exact PySem.EqNone.eq_none_bool (fin_bl I q (by simp))
  | int j => obtain ⟨t', rfl⟩ := ry; exact PySem.EqNone.eq_none_int (fin_bl I q (by simp))
  | str j => obtain ⟨t', rfl⟩ := ry; exact PySem.EqNone.eq_none_str (fin_bl I q (by simp))
  | _ => exact absurd (show false = true from hs) Bool.false_ne_true
 | bl i =>
  cases rx
  cases y with
  | non => cases ry; exact PySem.EqNone.eq_bool_none (fin_bl I q (by simp))
  | bl j => cases ry; exact eq_bool (fin_bl I q dec_bl)
  | str j => obtain ⟨t', rfl⟩ := ry; exact PySem.EqMixed.eq_bool_str (fin_bl I q (by simp))
  | _ => exact absurd (show false = true from hs) Bool.false_ne_true
 | int i =>
  obtain ⟨t, rfl⟩ := rx
  cases y with
  | non => cases ry; exact PySem.EqNone.eq_int_none (fin_bl I q (by simp))
  | int j => obtain ⟨t', rfl⟩ := ry; exact eq_int (fin_bl I q dec_int)
  | str j => obtain ⟨t', rfl⟩ := ry; exact PySem.EqMixed.eq_int_str (fin_bl I q (by simp))
  | _ => exact absurd (show false = true from hs) Bool.false_ne_true
 | str i =>
  obtain ⟨t, rfl⟩ := rx
  cases y with
  | non => cases ry; exact PySem.EqNone.eq_str_none (fin_bl I q (by simp))
  | bl j => cases ry; exact PySem.EqMixed.eq_str_bool (fin_bl I q (by simp))
  | int j => obtain ⟨t', rfl⟩ := ry; exact PySem.EqMixed.eq_str_int (fin_bl I q (by simp))
  | str j => obtain ⟨t', rfl⟩ := ry; exact eq_str (fin_bl I q dec_str)
  | _ => exact absurd (show false = true from hs) Bool.false_ne_true
 | byt i =>
  obtain ⟨t, rfl⟩ := rx
  cases y with
  | byt j => obtain ⟨t', rfl⟩ := ry; exact PySem.W.eq_bytes (fin_bl I q dec_byt)
  | _ => exact absurd (show false = true from hs) Bool.false_ne_true
 | _ => cases y <;> exact absurd (show false = true from hs) Bool.false_ne_true
theorem op_ne : OpR X (compareOp .NotEq) rNe := by
 intro pins s σ H x y v u Q I rx ry h
 obtain ⟨hs, q⟩ := h
 cases x with
 | non =>
  cases rx
  cases y with
  | non => cases ry; exact PySem.EqNone.ne_none_none (fin_bl I q (by simp))
  | bl j => cases ry; exact PySem.EqNone.ne_none_bool (fin_bl I q (by simp))
  | int j => obtain ⟨t', rfl⟩ := ry; exact PySem.EqNone.ne_none_int (fin_bl I q (by simp))
  | str j => obtain ⟨t', rfl⟩ := ry; exact PySem.EqNone.ne_none_str (fin_bl I q (by simp))
  | _ => exact absurd (show false = true from hs) Bool.false_ne_true
 | bl i =>
  cases rx
  cases y with
  | non => cases ry; exact PySem.EqNone.ne_bool_none (fin_bl I q (by simp))
  | bl j => cases ry; exact ne_bool (fin_bl I q (congrArg not dec_bl))
  | str j => obtain ⟨t', rfl⟩ := ry; exact PySem.EqMixed.ne_bool_str (fin_bl I q (by simp))
  | _ => exact absurd (show false = true from hs) Bool.false_ne_true
 | int i =>
  obtain ⟨t, rfl⟩ := rx
  cases y with
  | non => cases ry; exact PySem.EqNone.ne_int_none (fin_bl I q (by simp))
  | int j => obtain ⟨t', rfl⟩ := ry; exact ne_int (fin_bl I q (congrArg not dec_int))
  | str j => obtain ⟨t', rfl⟩ := ry; exact PySem.EqMixed.ne_int_str (fin_bl I q (by simp))
  | _ => exact absurd (show false = true from hs) Bool.false_ne_true
 | str i =>
  obtain ⟨t, rfl⟩ := rx
  cases y with
  | non => cases ry; exact PySem.EqNone.ne_str_none (fin_bl I q (by simp))
  | bl j => cases ry; exact PySem.EqMixed.ne_str_bool (fin_bl I q (by simp))
  | int j => obtain ⟨t', rfl⟩ := ry; exact PySem.EqMixed.ne_str_int (fin_bl I q (by simp))
  | str j => obtain ⟨t', rfl⟩ := ry; exact ne_str (fin_bl I q (congrArg not dec_str))
  | _ => exact absurd (show false = true from hs) Bool.false_ne_true
 | byt i =>
  obtain ⟨t, rfl⟩ := rx
  cases y with
  | byt j => obtain ⟨t', rfl⟩ := ry; exact PySem.W.ne_bytes (fin_bl I q (congrArg not dec_byt))
  | _ => exact absurd (show false = true from hs) Bool.false_ne_true
 | _ => cases y <;> exact absurd (show false = true from hs) Bool.false_ne_true
theorem op_lt : OpR X (compareOp .Lt) (rI0 fun i j => .bl (decide (i < j))) := opB0 fun _ _ _ _ _ _ _ q => lt_int q
theorem op_gt : OpR X (compareOp .Gt) (rI0 fun i j => .bl (decide (j < i))) := opB0 fun _ _ _ _ _ _ _ q => gt_int q
theorem op_isN : OpR X (compareOp .Is) (fun x y H Q => y = .non ∧ Q (.bl (decide (x = .non))) H) := by
 intro pins s σ H x y v u Q I rx ry h
 obtain ⟨rfl, q⟩ := h
 cases ry
 refine is_none_gen (fin_bl I q ?_)
 cases x <;> first
  | (cases rx; rfl)
  | (obtain ⟨t, rfl⟩ := rx; rfl)
theorem pe_cmpR {op : CmpOp} {r : R2} (ho : OpR X (compareOp op) r) (ha : PE X a ta) (hb : PE X b tb) (hm : behindInMarks op b = false) : PE X (.Compare a [op] [b] pos) (tOp r ta tb) := by
 intro pins s σ H Q I h
 exact wpAny_Compare1 (binT ha hb I h fun v u s2 x y H2 I2 rx ry q => ho pins s2 σ H2 x y v u Q I2 rx ry q) hm
noncomputable def tTest (t : TE) : TT := fun σ H Q => t σ H fun x H' => ∃ k, x = .bl k ∧ Q k H'
theorem pt_cmpR {op : CmpOp} {r : R2} (ho : OpR X (compareOp op) r) (ha : PE X a ta) (hb : PE X b tb) (hm : behindInMarks op b = false) : PT X (.Compare a [op] [b] pos) (tTest (tOp r ta tb)) := by
 intro pins s σ H Q I h
 refine wpAny_isTrue_Compare1 (thn (ha pins s σ H _ I h) fun v s1 ⟨x, H1, I1, r1, q1⟩ => thn (hb pins s1 σ H1 _ I1 q1) fun u s2 ⟨y, H2, I2, r2, q2⟩ =>
  thn (ho pins s2 σ H2 x y v u _ I2 r1 r2 q2) fun c s3 ⟨z, H3, I3, r3, k, e, q3⟩ => ?_) hm
 subst e
 cases r3
 exact wpAny_truthy_bool ⟨H3, I3, q3⟩
theorem line63 : (sizeLine : Nat) < 2 ^ 63 := by rw [sizeLine_eq]; decide
theorem op_add_str : OpR X (binaryOp .Add) (fun x y H Q => ∃ i j, x = .str i ∧ y = .str j ∧ i.length + j.length ≤ sizeLine ∧ Q (.str (i ++ j)) H) := by
 intro pins s σ H x y v u Q I rx ry h
 obtain ⟨i, j, rfl, rfl, hz, q⟩ := h
 obtain ⟨t, rfl⟩ := rx
 obtain ⟨t', rfl⟩ := ry
 exact add_str (fun t' tk => ⟨.str (i ++ j), H, I.tok _, ⟨_, rfl⟩, q⟩) hz
theorem vals1 {x : V} {us : List Value} (r : Vals [x] us) : ∃ u, us = [u] ∧ RelV x u := by
 cases r with
 | cons r1 r2 => cases r2; exact ⟨_, rfl, r1⟩
theorem vals2 {x y : V} {us : List Value} (r : Vals [x, y] us) : ∃ u w', us = [u, w'] ∧ RelV x u ∧ RelV y w' := by
 cases r with
 | cons r1 r2 =>
  cases r2 with
  | cons r3 r4 => cases r4; exact ⟨_, _, rfl, r1, r3⟩
theorem call_max2 (hc : X.calm = true) : CallR X (.builtin "max") (fun xs H Q => ∃ i j, xs = [.int i, .int j] ∧ Q (.int (if j > i then j else i)) H) := by
 intro pins s σ H xs us Q I r h
 obtain ⟨i, j, rfl, q⟩ := h
 obtain ⟨u, w', rfl, ⟨t, rfl⟩, ⟨t', rfl⟩⟩ := vals2 r
 refine max_two_ints (I.ok.hd hc) fun h' tk k => ⟨_, H, I.kept k, ?_, q⟩
 by_cases hj : j > i
 ·rw [if_pos hj, if_pos hj]; exact ⟨_, rfl⟩
 ·rw [if_neg hj, if_neg hj]; exact ⟨_, rfl⟩
end
end L2
namespace L2
open PySem PySem.Spec PyProof.Rows
structure ObjM (h : Heap) (x dx C : Addr) (mA : Str → Option Value) : Prop where
 obj : h.get? x = some (PySem.W.instObj C dx)
 ns : h.Ns1 dx mA
 ne : dx ≠ x
theorem lookIn_ns {h : Heap} {dx : Addr} {mA : Str → Option Value} (n : h.Ns1 dx mA) : ∃ od, h.get? dx = some od ∧ ∀ name, PySem.W.lookIn name od = some (mA name) := by
 obtain ⟨o, es, ep, ho, hd, hk, _, hm⟩ := n
 refine ⟨o, ho, fun name => ?_⟩
 have e := hm name
 unfold nsFind findBy at e
 rw [← Array.find?_toList] at e
 unfold PySem.W.lookIn
 rw [hd]
 dsimp only
 split
 ·rename_i y q
  rw [q] at e
  exact congrArg some e
 ·rename_i q
  rw [q] at e
  have a : es.toList.any (·.refKey) = false := by
   rw [List.any_eq_false]
   intro y hy
   obtain ⟨z, t, hkey⟩ := hk y (Array.mem_toList_iff.mp hy)
   simp [DictEntry.refKey, hkey]
  have a' : ¬ es.toList.any (·.refKey) = true := by rw [a]; exact Bool.false_ne_true
  rw [if_neg a']
  exact congrArg some e
theorem ObjM.look {h : Heap} {x dx C : Addr} {mA : Str → Option Value} (I : ObjM h x dx C mA) : ∃ od, PySem.W.InstAt h x (PySem.W.instObj C dx) C (some od) ∧ ∀ name, PySem.W.lookIn name od = some (mA name) :=
 let ⟨od, ho, hl⟩ := lookIn_ns I.ns
 ⟨od, ⟨I.obj, rfl, rfl, ho⟩, hl⟩
section
variable {prog : Program} {w : World} {A : Around} {E : Value → Shared → Prop} {s : Shared} {K : PySem.W.Frag} {x dx C f : Addr} {mA : Str → Option Value} {name : Str} {v : Value}
end
theorem RelO.some_of {v : V} {o : Option Value} (r : RelO (some v) o) : ∃ u, o = some u ∧ RelV v u := by
 cases o with
 | none => exact (show False from r).elim
 | some u => exact ⟨u, rfl, r⟩
section
variable {P : Program} {w : World} {H H' : Hp} {h h' : Heap} {a C dx : Addr} {fs fs' : List (Str × V)}
theorem ins_get (hok : HOk P w H h) (e : H a = some (.ins C dx fs)) : ∃ mA, ObjM h a dx C mA ∧ (∀ f, RelO (fs.lookup f) (mA f)) ∧ PySem.Within mA (fs.map (·.1)) ∧ fs.length ≤ 1000 ∧ H dx = some (.own a) := by
 obtain ⟨d, z, ne, ob, mA, n, r, q⟩ := (show ObjOk P w H h a (.ins C dx fs) from hok a _ e)
 exact ⟨mA, ⟨ob, n, ne⟩, r, q, z, d⟩
end
structure Cls (K : PySem.W.Frag) (C : Addr) : Prop where
 pg : PySem.W.plainGet K C Str.empty = true
 hd : PySem.W.hasDictIn K C = true
 po : PySem.W.plainOver K C = true
 sa : PySem.W.findIn K (.ref C) "__setattr__" = some (some (.builtin "object.__setattr__"))
theorem Cls.get {K : PySem.W.Frag} {C : Addr} (c : Cls K C) (f : Str) : PySem.W.plainGet K C f = true := c.pg
section
variable {X : Cx} {pins : List (Addr × Obj)} {σ : St} {H : Hp} {s : Shared} {a C dx : Addr} {fs : List (Str × V)} {f : Str} {v : V} {A : Around} {E : Value → Shared → Prop}
end
section
variable {X : Cx} {o e value : Expr} {f : Str} {pos pos' tpos : Pos} {ta tv : TE}
end
section
variable {X : Cx} {pins : List (Addr × Obj)} {σ : St} {H : Hp} {s : Shared} {A : Around} {E : Value → Shared → Prop} {Q : Value → Shared → Prop} {c : Value} {b : Bool}
inductive TyOf (K : PySem.W.Frag) (H : Hp) : V → Value → Prop where
 | non : TyOf K H .non (.type "NoneType")
 | bl (x : Bool) : TyOf K H (.bl x) (.type "bool")
 | int (i : Int) : TyOf K H (.int i) (.type "int")
 | str (x : Str) : TyOf K H (.str x) (.type "str")
 | flt (x : UInt64) : TyOf K H (.flt x) (.type "float")
 | lst {a : Addr} {xs : List V} (e : H a = some (.lst xs)) : TyOf K H (.ref a) (.type "list")
 | frz {a : Addr} {o : Obj} {xs : List V} (e : H a = some (.frz o (.lst xs))) : TyOf K H (.ref a) (.type "list")
 | tup {a : Addr} {xs : List V} (e : H a = some (.tup xs)) : TyOf K H (.ref a) (.type "tuple")
 | dK {a : Addr} {kvs : List (Key × V)} (e : H a = some (.dK kvs)) : TyOf K H (.ref a) (.type "dict")
 | dT {a : Addr} {kvs : List (List Key × V)} (e : H a = some (.dT kvs)) : TyOf K H (.ref a) (.type "dict")
 | ins {a C dx : Addr} {fs : List (Str × V)} (e : H a = some (.ins C dx fs)) (cl : Cls K C) (ha : PySem.W.findIn K (.ref C) "__class__" = some (some (.builtin "object.__class__")))
   (hn : PySem.W.specialIn K (.builtin "object.__class__") "__get__" = some (some (.builtin "getset_descriptor.__get__"))) (htk : PySem.W.takesIn K (.builtin "object.__class__") = some true)
   (hm : PySem.W.mroIn K C (.type "object") = some true) : TyOf K H (.ref a) (.ref C)
theorem isinst_ok {x : V} {u t : Value} (I : Inv X pins σ H s) (rx : RelV x u) (ty : TyOf X.K H x t) (e : PySem.W.kitOne X.K t c = some b) (h : ∀ tk, Q (.bool b) { s with toks := tk }) :
  wpAny (model X.prog X.w) A (call (.builtin "isinstance") [u, c]) Q E s := by
 cases ty with
 | non => cases (show u = Value.none from rx); exact PySem.W.kia_one PySem.W.kitx_none I.kIn True.intro e (fun z => nomatch z) h
 | bl y => cases (show u = Value.bool y from rx); exact PySem.W.kia_one PySem.W.kitx_bool I.kIn True.intro e (fun z => nomatch z) h
 | int i => obtain ⟨t, q⟩ := (show ∃ t, u = Value.int i t from rx); cases q; exact PySem.W.kia_one PySem.W.kitx_int I.kIn True.intro e (fun z => nomatch z) h
 | str y => obtain ⟨t, q⟩ := (show ∃ t, u = Value.str y t from rx); cases q; exact PySem.W.kia_one PySem.W.kitx_str I.kIn True.intro e (fun z => nomatch z) h
 | flt y => obtain ⟨t, q⟩ := (show ∃ t, u = Value.float y t from rx); cases q; exact PySem.W.kia_one PySem.W.kitx_float I.kIn True.intro e (fun z => nomatch z) h
 | @lst a xs ea =>
  cases (show u = Value.ref a from rx)
  obtain ⟨_, _, n, _, h1⟩ := (show ObjOk X.prog X.w H s.heap a (.lst xs) from I.hok a _ ea)
  exact PySem.W.kia_one PySem.W.kitx_list I.kIn ⟨_, h1, rfl⟩ e (fun z => nomatch z) h
 | @frz a ob xs ea =>
  cases (show u = Value.ref a from rx)
  obtain ⟨_, _, _, n, _, h1⟩ := (show ObjOk X.prog X.w H s.heap a (.frz ob (.lst xs)) from I.hok a _ ea)
  exact PySem.W.kia_one PySem.W.kitx_list I.kIn ⟨_, h1, rfl⟩ e (fun z => nomatch z) h
 | @tup a xs ea =>
  cases (show u = Value.ref a from rx)
  obtain ⟨_, _, _, p⟩ := (show ObjOk X.prog X.w H s.heap a (.tup xs) from I.hok a _ ea)
  obtain ⟨o, h1, h2, _⟩ := p
  exact PySem.W.kia_one PySem.W.kitx_tuple I.kIn ⟨o, h1, h2⟩ e (fun z => nomatch z) h
 | @dK a kvs ea =>
  cases (show u = Value.ref a from rx)
  obtain ⟨_, _, vs, _, p⟩ := (show ObjOk X.prog X.w H s.heap a (.dK kvs) from I.hok a _ ea)
  obtain ⟨o, es, ep, h1, h2, _⟩ := p
  exact PySem.W.kia_one PySem.W.kitx_dict I.kIn ⟨o, h1, h2.1⟩ e (fun z => nomatch z) h
 | @dT a kvs ea =>
  cases (show u = Value.ref a from rx)
  obtain ⟨_, _, xs, _, o, es, ep, h1, h2, _⟩ := (show ObjOk X.prog X.w H s.heap a (.dT kvs) from I.hok a _ ea)
  exact PySem.W.kia_one PySem.W.kitx_dict I.kIn ⟨o, h1, h2.1⟩ e (fun z => nomatch z) h
 | @ins a C dx fs ea cl ha hn htk hm =>
  cases (show u = Value.ref a from rx)
  obtain ⟨mA, O, _⟩ := ins_get I.hok ea
  obtain ⟨od, J, _⟩ := O.look
  exact PySem.W.kia_one (PySem.W.kitx_own (cl.get _) cl.hd ha hn htk hm) I.kIn J e (fun z => nomatch z) h
end
end L2
namespace L2
open PySem PySem.Spec PyProof.Rows
structure Room (k : Nat) (A : Around) : Prop where
 hd : A.handled = none
 dp : A.depth + 3 * k + 5 < recursionLimit
 un : A.units + 16 * k + 200 < cLine
theorem Room.mono {j k : Nat} {A : Around} (r : Room k A) (h : j ≤ k) : Room j A := ⟨r.hd, by have := r.dp; omega, by have := r.un; omega⟩
theorem Room.deeper {k : Nat} {A : Around} (r : Room (k + 1) A) (env : Env) : Room k (A.deeper env) :=
 ⟨r.hd, by have := r.dp; show A.depth + 1 + 3 * k + 5 < _; omega, by have := r.un; show A.units + 3 + 16 * k + 200 < _; omega⟩
theorem Room.depth {k : Nat} {A : Around} (r : Room k A) : A.depth < recursionLimit := by have := r.dp; omega
noncomputable def tNil : TA := fun _ H Q => Q [] H
noncomputable def tCons (ta : TE) (tr : TA) : TA := fun σ H Q => ta σ H fun x H1 => tr σ H1 fun xs H2 => Q (x :: xs) H2
section
variable {X : Cx} {e : Expr} {es : List Expr} {te : TE} {t : TA} {pos : Pos}
theorem pa_nil : PA X [] tNil := fun _ _ _ _ H Q I h => Calls.spliced_nil ⟨[], H, I, .nil, h⟩
theorem pa_cons (ha : PE X e te) (hr : PA X es t) (hs : starEach (e :: es) X.env = (false, eval e X.env) :: starEach es X.env := by rfl) : PA X (e :: es) (tCons te t) := by
 intro pos pins s σ H Q I h
 rw [hs]
 show wpAny _ _ (spliced ((false, eval e X.env) :: backTo pos (starEach es X.env))) _ _ s
 refine Calls.spliced_cons (thn (ha pins s σ H _ I h) fun u s1 ⟨x, H1, I1, r1, q1⟩ => ?_)
 exact thn (hr pos pins s1 σ H1 _ I1 q1) fun us s2 ⟨xs, H2, I2, r2, q2⟩ => ⟨x :: xs, H2, I2, .cons r1 r2, q2⟩
noncomputable def tTup (t : TA) : TE := fun σ H Q => t σ H fun xs H1 => xs.length ≤ sizeLine ∧ ∀ p, H1 p = none → Q (.ref p) (upd H1 p (.tup xs))
noncomputable def tLst (t : TA) : TE := fun σ H Q => t σ H fun xs H1 => xs.length ≤ sizeLine ∧ ∀ p, H1 p = none → Q (.ref p) (upd H1 p (.lst xs))
theorem pe_tup {x1} (h : PA X es t) : PE X (.Tuple es x1 pos) (tTup t) := by
 intro pins s σ H Q I hq
 refine wpAny_Tuple_spliced (thn (h pos pins s σ H _ I hq) fun us s1 ⟨xs, H1, I1, r, z, q⟩ => ⟨by rw [← r.length]; exact z, ?_⟩)
 have hf : H1 s1.heap.objs.size = none := I1.hok.fresh (Nat.le_refl _)
 refine ⟨.ref s1.heap.objs.size, upd H1 s1.heap.objs.size (.tup xs), I1.laid (t' := s1.toks) (fun b u e => Heap.get?_push_of_some _ e) (Nat.le_refl _) ?_, rfl, q _ hf⟩
 exact ⟨z, us, r, ⟨_, Heap.get?_push_size _ rfl, rfl, _, rfl⟩⟩
theorem pe_lst (h : PA X es t) : PE X (.List es pos) (tLst t) := by
 intro pins s σ H Q I hq
 refine wpAny_List_spliced (thn (h pos pins s σ H _ I hq) fun us s1 ⟨xs, H1, I1, r, z, q⟩ => ⟨by rw [← r.length]; exact z, ?_⟩)
 have hf : H1 s1.heap.objs.size = none := I1.hok.fresh (Nat.le_refl _)
 refine ⟨.ref s1.heap.objs.size, upd H1 s1.heap.objs.size (.lst xs), I1.laid (t' := s1.toks) (fun b u e => Heap.get?_push_of_some _ e) (Nat.le_refl _) ?_, rfl, q _ hf⟩
 exact ⟨z, us, 0, r, Heap.get?_push_size _ rfl⟩
end
noncomputable abbrev Sp := List V → Hp → VK → XK → Prop
noncomputable abbrev CXT := List Env → Hp → Shared → XK → Value → Shared → Prop
structure Env0 (P : Program) (w : World) (K : PySem.W.Frag) (mg : Str → Option Value) (base : Heap) (A : Around) (outer : List Env) (s : Shared) (H : Hp) : Prop where
 frames : A.frames = some outer
 mod : Mod K mg base
 bs : ∀ b o, base.get? b = some o → s.heap.get? b = some o ∧ H b = none
 bsz : base.objs.size ≤ s.heap.objs.size
 funs : s.heap.FunFrames base outer
 frf : ∀ b ∈ frs outer, H b = none
 hok : HOk P w H s.heap
 bare : AllBare s.gens
noncomputable def CE (outer : List Env) (P : Program) (w : World) (H : Hp) (s : Shared) (Q : VK) (u : Value) (s' : Shared) : Prop :=
 ∃ v H', s'.os = s.os ∧ AllBare s'.gens ∧ Un (frs outer) [] H H' s.heap s'.heap ∧ HOk P w H' s'.heap ∧ RelV v u ∧ Q v H'
noncomputable def CR (CX : CXT) (outer : List Env) (P : Program) (w : World) (H : Hp) (s : Shared) (Q : VK) (E : XK) (r : Result) (s' : Shared) : Prop :=
 match r with
 | .ok (.ret u) => CE outer P w H s Q u s'
 | .ok _ => False
 | .error e => CX outer H s E e s'
structure FnOk (P : Program) (w : World) (K : PySem.W.Frag) (mg : Str → Option Value) (base : Heap) (CX : CXT) (k : Nat) (f : Addr) (fd : FuncData) (ps : List Str) (sp : Sp) : Prop where
 len : ∀ vs H Q E, sp vs H Q E → vs.length = ps.length
 run : ∀ (A : Around) (outer : List Env) (s : Shared) (H : Hp) (args : Args) (us : List Value) (vs : List V) (Q : VK) (E : XK), Room k A → Env0 P w K mg base A outer s H → BindsTo s fd args (ps.zip us) → Vals vs us → sp vs H Q E →
  codeAny (model P w) A (.call (.ref f) args) (CR CX outer P w H s Q E) s
theorem FnOk.mono {P : Program} {w : World} {K : PySem.W.Frag} {mg : Str → Option Value} {base : Heap} {CX : CXT} {j k : Nat} {f : Addr} {fd : FuncData} {ps : List Str} {sp : Sp} (F : FnOk P w K mg base CX j f fd ps sp) (h : j ≤ k) :
  FnOk P w K mg base CX k f fd ps sp := ⟨F.len, fun A outer s H args us vs Q E hr => F.run A outer s H args us vs Q E (hr.mono h)⟩
section
variable {X : Cx} {pins : List (Addr × Obj)} {σ : St} {H : Hp} {s s' : Shared}
theorem Inv.env0 (I : Inv X pins σ H s) : Env0 X.prog X.w X.K X.mg X.base X.A X.stack s H :=
 ⟨I.ok.frames, I.ok.mod, I.bs, Nat.le_trans I.ok.bsz I.sz, I.stack, I.stkFree, I.hok, I.bare⟩
theorem Inv.after {Q : VK} {u : Value} (I : Inv X pins σ H s) (h : CE X.stack X.prog X.w H s Q u s') : EP X pins σ Q u s' := by
 obtain ⟨v, H', os, bare, un, hok, r, q⟩ := h
 obtain ⟨hh, g, d, t, os'⟩ := s'
 obtain rfl : os' = s.os := os
 exact ⟨v, H', I.call (h' := hh) (g' := g) (d' := d) (t' := t) (ch := []) un hok bare (fun b z => absurd z (by simp)), r, q⟩
end
noncomputable def tCall (sp : Sp) (dvs : List V) (E : XK) (t : TA) : TE := fun σ H Q => t σ H fun vs H1 => sp (vs ++ dvs) H1 Q E
noncomputable def Binds (K : PySem.W.Frag) (fd : FuncData) (ps : List Str) (ds : List Value) : Prop :=
 ∀ (s : Shared) (us : List Value), K.In s.heap → (us ++ ds).length = ps.length → BindsTo s fd ⟨us, []⟩ (ps.zip (us ++ ds))
theorem Binds.all {K : PySem.W.Frag} {fd : FuncData} {ps : List Str} (h : ∀ us : List Value, us.length = ps.length → bindArgs fd ⟨us, []⟩ = pure (ps.zip us)) : Binds K fd ps [] := fun s us _ hl => by
 rw [List.append_nil] at hl ⊢
 exact .of_eq (h us hl)
noncomputable def Passes (CX : CXT) (X : Cx) (E : XK) : Prop := ∀ (pins : List (Addr × Obj)) (σ : St) (H : Hp) (s : Shared) (e : Value) (s' : Shared), Inv X pins σ H s → CX X.stack H s E e s' → X.xe e s'
section
variable {X : Cx} {CX : CXT} {k : Nat} {f C : Addr} {fd : FuncData} {ps : List Str} {sp : Sp} {dvs : List V} {ds : List Value} {E : XK} {x m : Str} {p pos apos : Pos} {e o : Expr} {es : List Expr} {ta : TE} {t : TA}
theorem run_fn {pins : List (Addr × Obj)} {σ : St} {H : Hp} {s : Shared} {Q : VK} {us : List Value} {vs : List V} (F : FnOk X.prog X.w X.K X.mg X.base CX k f fd ps sp) (hr : Room k X.A) (hb : Binds X.K fd ps ds) (hd : Vals dvs ds) (hx : Passes CX X E)
  (I : Inv X pins σ H s) (r : Vals vs us) (h : sp (vs ++ dvs) H Q E) : wpAny (model X.prog X.w) X.A (call (.ref f) us) (EP X pins σ Q) X.xe s := by
 have r2 : Vals (vs ++ dvs) (us ++ ds) := r.append hd
 have hl : (us ++ ds).length = ps.length := by rw [← r2.length]; exact F.len _ _ _ _ h
 refine wpAny_call (codeAny_mono (F.run X.A X.stack s H ⟨us, []⟩ (us ++ ds) (vs ++ dvs) Q E hr I.env0 (hb s us I.kIn hl) r2 h) fun r s' hq => ?_)
 cases r with
 | error e => exact hx pins σ H s e s' I hq
 | ok fl =>
  cases fl with
  | ret u => exact I.after hq
  | next => exact False.elim hq
  | brk => exact False.elim hq
  | cont => exact False.elim hq
theorem pe_call (F : FnOk X.prog X.w X.K X.mg X.base CX k f fd ps sp) (hr : Room k X.A) (hg : Gl X x) (hm : X.mg x = some (.ref f)) (hk : PySem.W.keepIn X.K (.ref f) = true) (hb : Binds X.K fd ps ds) (hd : Vals dvs ds) (hx : Passes CX X E)
  (ha : PA X (e :: es) t) (hdb : (x == ("__debug__" : Str)) = false := by decide) (he : starEach (e :: es) X.env = (false, eval e X.env) :: starEach es X.env := by rfl) (hpl : (backTo pos (starEach es X.env)).any (·.1) = false := by rfl) :
  PE X (.Call (.Name x p) (e :: es) [] pos) (tCall sp dvs E t) := by
 intro pins s σ H Q I h
 refine wpAny_Call_Name_kw (ld_glob I hg hm ?_ hdb)
 refine PySem.W.callWith_K (h₀ := X.base) I.ok.mod.kin hk (thn (ha pos pins s σ H _ I h) fun us s1 ⟨vs, H1, I1, r, q⟩ => ⟨I1.kIn, ?_⟩) he hpl
 exact run_fn F hr hb hd hx I1 r q
end
section
variable {X : Cx} {CX : CXT} {k : Nat} {f C : Addr} {fd : FuncData} {ps ks : List Str} {sp : Sp} {E : XK} {x m : Str} {p pos apos kpos : Pos} {e o : Expr} {es : List Expr} {kws : List Keyword} {te ta : TE} {t tk : TA} {nm : Option Str}
variable {g : List Value → List Value → List Value} {gV : List V → List V → List V}
end
structure FnScope (N P : List Str) (sc : Scope) : Prop where
 kind : sc.kind = .function
 co : sc.isCoroutine = false
 gen : sc.isGenerator = false
 nd : N.Nodup
 pre : N.take P.length = P
 par : ∀ x ∈ P, sc.names.lookup x = some .local ∨ sc.names.lookup x = some .cell
 nofree : ∀ y ∈ sc.names, y.2 ≠ .free
theorem bindL_out {kindOf : Str → Option NameKind} {x : Str} : ∀ {binds : List (Str × Value)} {m : Str → Option Value}, (∀ v, (x, v) ∉ binds) → bindL kindOf binds m x = m x
 | [], _, _ => rfl
 | (n, v) :: r, m, h => by
  unfold bindL
  rw [bindL_out fun w hw => h w (List.mem_cons_of_mem _ hw)]
  split
  ·have : x ≠ n := by rintro rfl; exact h v List.mem_cons_self
   simp [this]
  ·rfl
theorem bindC_out {kindOf : Str → Option NameKind} {x : Str} : ∀ {binds : List (Str × Value)} {m : Str → Option Value}, (∀ v, (x, v) ∉ binds) → bindC kindOf binds m x = m x
 | [], _, _ => rfl
 | (n, v) :: r, m, h => by
  unfold bindC
  rw [bindC_out fun w hw => h w (List.mem_cons_of_mem _ hw)]
  split
  ·rfl
  ·have : x ≠ n := by rintro rfl; exact h v List.mem_cons_self
   simp [this]
theorem bindL_get {kindOf : Str → Option NameKind} {x : Str} {v : Value} : ∀ {P : List Str} {vs : List Value} {i : Nat} {m : Str → Option Value}, P.Nodup → P[i]? = some x → vs[i]? = some v → kindOf x = some .local →
  bindL kindOf (P.zip vs) m x = some v
 | [], _, _, _, _, h, _, _ => by simp at h
 | _ :: _, [], _, _, _, _, h, _ => by simp at h
 | p :: P, w :: vs, 0, m, nd, h1, h2, hk => by
  simp at h1 h2; subst h1; subst h2
  show bindL kindOf ((p, w) :: P.zip vs) m p = _
  unfold bindL
  rw [bindL_out fun v hv => (List.nodup_cons.mp nd).1 (List.of_mem_zip hv).1, if_pos hk]
  simp
 | p :: P, w :: vs, i + 1, m, nd, h1, h2, hk => by
  show bindL kindOf ((p, w) :: P.zip vs) m x = _
  unfold bindL
  exact bindL_get (i := i) (List.nodup_cons.mp nd).2 (by simpa using h1) (by simpa using h2) hk
theorem bindC_get {kindOf : Str → Option NameKind} {x : Str} {v : Value} : ∀ {P : List Str} {vs : List Value} {i : Nat} {m : Str → Option Value}, P.Nodup → P[i]? = some x → vs[i]? = some v → kindOf x ≠ some .local →
  bindC kindOf (P.zip vs) m x = some v
 | [], _, _, _, _, h, _, _ => by simp at h
 | _ :: _, [], _, _, _, _, h, _ => by simp at h
 | p :: P, w :: vs, 0, m, nd, h1, h2, hk => by
  simp at h1 h2; subst h1; subst h2
  show bindC kindOf ((p, w) :: P.zip vs) m p = _
  unfold bindC
  rw [bindC_out fun v hv => (List.nodup_cons.mp nd).1 (List.of_mem_zip hv).1, if_neg hk]
  simp
 | p :: P, w :: vs, i + 1, m, nd, h1, h2, hk => by
  show bindC kindOf ((p, w) :: P.zip vs) m x = _
  unfold bindC
  exact bindC_get (i := i) (List.nodup_cons.mp nd).2 (by simpa using h1) (by simpa using h2) hk
noncomputable def start (N : List Str) (vs : List V) : St := vs.map some ++ List.replicate (N.length - vs.length) none
noncomputable def cxOf (CX : CXT) (P : Program) (w : World) (K : PySem.W.Frag) (mg : Str → Option Value) (base : Heap) (N : List Str) (qual : Str) (scope : Scope) (f : Addr) (cd : Value) (A : Around) (outer : List Env) (s : Shared) (H : Hp) (E : XK) : Cx where
 prog := P
 w := w
 K := K
 mg := mg
 base := base
 A := A.deeper (envOfC qual scope s.heap.objs.size f cd)
 N := N
 s₀ := s
 H₀ := H
 env := envOfC qual scope s.heap.objs.size f cd
 outer := outer
 stack := envOfC qual scope s.heap.objs.size f cd :: outer
 ex := []
 calm := true
 fn := fun _ => true
 pn := []
 xe := fun e s' => wpAny (model P w) (A.deeper (envOfC qual scope s.heap.objs.size f cd)) (leaving (envOfC qual scope s.heap.objs.size f cd) e) (fun _ s'' => CX outer H s E e s'') (fun e' s'' => CX outer H s E e' s'') s'
theorem cell_has {sc : Scope} {n : Nat} {x : Str} (h : sc.names.lookup x = some .cell) : ∃ c, (cellsFrom n sc.names []).lookup x = some c := by
 have q := PySem.W.cellsFrom_some sc.names n [] (.inl h)
 exact Option.isSome_iff_exists.mp q
theorem inv_start {CX : CXT} {P : Program} {w : World} {K : PySem.W.Frag} {mg : Str → Option Value} {base : Heap} {N ps : List Str} {qual : Str} {scope : Scope} {f : Addr} {cd : Value} {A : Around} {outer : List Env} {s s1 : Shared} {H : Hp} {E : XK} {us : List Value} {vs : List V}
  (S : FnScope N ps scope) (hd : A.handled = none) (e0 : Env0 P w K mg base A outer s H) (hl : vs.length = ps.length) (r : Vals vs us)
  (x : InCallC s s.heap.objs.size (bindL (envOfC qual scope s.heap.objs.size f cd).kindOf (ps.zip us) fun _ => none) (cellsFrom (s.heap.objs.size + 1) scope.names []) (bindC (envOfC qual scope s.heap.objs.size f cd).kindOf (ps.zip us) fun _ => none) s1) :
  Inv (cxOf CX P w K mg base N qual scope f cd A outer s H E) [] (start N vs) H s1 := by
 have hpl : ps.length ≤ N.length := by have := congrArg List.length S.pre; rw [List.length_take] at this; omega
 obtain ⟨h1, tk, rfl, hk⟩ := x.done
 have noA : ∀ b : Addr, b ∉ (cxOf CX P w K mg base N qual scope f cd A outer s H E).ex := fun b z => absurd (show b ∈ ([] : List Addr) from z) (by simp)
 refine ⟨⟨e0.mod, S.kind, rfl, rfl, Nat.le_refl _, fun y z c h1 h2 => ?_, fun y hy => ?_, fun y c _ h => ?_, fun _ => hd, Around.frames_deeper e0.frames, .inr ⟨rfl, rfl⟩, fun b z => absurd z (noA b), e0.bs, e0.bsz, fun b _ _ => noA b, fun b z => absurd z (noA b), e0.funs, e0.frf⟩,
  rfl, e0.bare, Un.kept hk, ⟨_, x.toInCall.ns, fun i y v h1 h2 h3 => ?_⟩, fun y c h => ⟨_, x.cell y c h⟩, e0.hok.fresh (Nat.le_refl _), fun y c h => ?_, fun p hp => absurd (show p ∈ ([] : List (Addr × Obj)) from hp) (by simp), e0.hok.kept hk, ?_⟩
 ·exact name_of_addr x.apart (PySem.mem_of_lookup h1) (PySem.mem_of_lookup h2)
 ·have hy : scope.names.lookup y = some .cell ∨ scope.names.lookup y = some .free := hy
  rcases hy with hy | hy
  ·exact cell_has hy
  ·exact absurd rfl (S.nofree _ (PySem.mem_of_lookup hy))
 ·exact Nat.le_of_lt (x.above y c (PySem.mem_of_lookup h))
 ·have hi : i < vs.length := by
   unfold start at h2
   by_cases hi : i < vs.length
   ·exact hi
   ·rw [List.getElem?_append_right (by simpa using hi)] at h2
    rw [List.getElem?_replicate] at h2
    split at h2 <;> cases h2
  have ha : vs[i]? = some v := by
   unfold start at h2
   rw [List.getElem?_append_left (by simpa using hi), List.getElem?_map] at h2
   cases e : vs[i]? with
   | none => rw [e] at h2; cases h2
   | some a => rw [e] at h2; cases h2; rfl
  obtain ⟨u, hu, rv⟩ := r.get ha
  have hp : ps[i]? = some y := by
   rw [← S.pre, List.getElem?_take_of_lt (by omega)]; exact h1
  have ndP : ps.Nodup := by rw [← S.pre]; exact S.nd.sublist (List.take_sublist _ _)
  refine ⟨u, rv, ?_⟩
  rcases S.par y (List.mem_of_getElem? hp) with k | k
  ·exact .inl ⟨k, bindL_get ndP hp hu k⟩
  ·obtain ⟨c, e⟩ := cell_has (n := s.heap.objs.size + 1) k
   refine .inr ⟨.inl k, c, e, ?_⟩
   have q := x.cell y c e
   rw [bindC_get ndP hp hu (by show scope.names.lookup y ≠ _; rw [k]; decide)] at q
   exact q
 ·exact e0.hok.fresh (Nat.le_of_lt (x.above y c (PySem.mem_of_lookup h)))
 ·unfold start
  show _ = N.length
  rw [List.length_append, List.length_map, List.length_replicate]
  omega
theorem fn_of {CX : CXT} {P : Program} {w : World} {K : PySem.W.Frag} {mg : Str → Option Value} {base : Heap} {k : Nat} {f : Addr} {name qual : Str} {params : Arguments} {body : List Stmt} {scope : Scope} {dV kV doc pm cdv ct oc : Value} {an od : Option Addr}
  {osl : Array (Option Value)} {N ps : List Str} {sp : Sp} (lk : K.lookup f = some ⟨oc, od, .func (PySem.W.fnOf name qual params body scope dV kV doc pm an cdv ct), osl⟩) (hcd : PySem.W.codeIn K cdv qual = true) (S : FnScope N ps scope)
  (len : ∀ vs H Q E, sp vs H Q E → vs.length = ps.length)
  (hbody : ∀ (A : Around) (outer : List Env) (s : Shared) (H : Hp) (vs : List V) (Q : VK) (E : XK), Room k (A.deeper (envOfC qual scope s.heap.objs.size f cdv)) → sp vs H Q E →
   ∃ t, PSs (cxOf CX P w K mg base N qual scope f cdv A outer s H E) body t ∧ t { nx := fun _ H' => Q .non H', rt := Q } (start N vs) H) :
  FnOk P w K mg base CX (k + 1) f (PySem.W.fnOf name qual params body scope dV kV doc pm an cdv ct) ps sp := by
 refine ⟨len, fun A outer s H args us vs Q E hr e0 hb r hsp => ?_⟩
 have hl := len _ _ _ _ hsp
 have KX : K.In s.heap := e0.mod.kin.keeps fun b o e => (e0.bs b o e).1
 have lim : s.heap.NoLimit := e0.mod.nolimit.keeps fun b o e => (e0.bs b o e).1
 have hkind : ∀ y ∈ ps.zip us, scope.names.lookup y.1 = some .local ∨ (scope.names.lookup y.1 = some .cell ∧ ((cellsFrom (s.heap.objs.size + 1) scope.names []).lookup y.1).isSome = true) := fun ⟨n, v⟩ hy => by
  rcases S.par n (List.of_mem_zip hy).1 with q | q
  ·exact .inl q
  ·exact .inr ⟨q, PySem.W.cellsFrom_some _ _ _ (.inl q)⟩
 refine codeAny_call_function hr.depth (KX _ _ lk) rfl S.co S.gen rfl (PySem.W.codeRec_of KX hcd) (hb _ _ _ _ ?_)
 refine wpAny_newFunctionEnv_cells S.kind hkind fun env he s1 x => ?_
 subst he
 refine ⟨lim.keeps x.toInCall.keep, codeAny_func ?_⟩
 obtain ⟨t, ht, hq⟩ := hbody A outer s H vs Q E (hr.deeper _) hsp
 have I : Inv (cxOf CX P w K mg base N qual scope f cdv A outer s H E) [] (start N vs) H s1 := inv_start S hr.hd e0 hl r x
 refine wpAny_mono (ht [] s1 (start N vs) H _ I hq) (fun fl s' hs => ?_) fun e s' hs => hs
 have fin : ∀ {σ' : St} {H' : Hp} {v : V} {u : Value}, Inv (cxOf CX P w K mg base N qual scope f cdv A outer s H E) [] σ' H' s' → RelV v u → Q v H' → CE outer P w H s Q u s' :=
  fun {σ' H' v u} J rv q => ⟨v, H', J.os, J.bare, J.base, J.hok, rv, q⟩
 cases fl with
 | ret u =>
  obtain ⟨v, σ', H', J, rv, q⟩ := hs
  exact fin J rv q
 | next =>
  obtain ⟨σ', H', J, q⟩ := hs
  exact fin (v := V.non) (u := Value.none) J rfl q
 | brk =>
  obtain ⟨_, _, _, q⟩ := hs
  exact False.elim q
 | cont =>
  obtain ⟨_, _, _, q⟩ := hs
  exact False.elim q
end L2
namespace L2
open PySem PySem.Spec PyProof.Rows
section
variable {X : Cx} {x : Str} {p pos : Pos} {e : Expr} {es : List Expr} {t : TA} {id T : String} {r : List V → Hp → VK → Prop}
noncomputable def tCB (r : List V → Hp → VK → Prop) (t : TA) : TE := fun σ H Q => t σ H fun vs H1 => r vs H1 Q
theorem pe_callB (hc : CallR X (.builtin id) r) (hg : Gl X x) (hm : X.mg x = none) (hv : bootBuiltins x = some (.builtin id)) (ha : PA X (e :: es) t) (hn : x ≠ "__name__" := by decide) (hdb : (x == ("__debug__" : Str)) = false := by decide)
  (he : starEach (e :: es) X.env = (false, eval e X.env) :: starEach es X.env := by rfl) (hpl : (backTo pos (starEach es X.env)).any (·.1) = false := by rfl) : PE X (.Call (.Name x p) (e :: es) [] pos) (tCB r t) := by
 intro pins s σ H Q I h
 refine wpAny_Call_Name_kw (ld_blt I hg hm hv ?_ hn hdb)
 exact PyProof.Rows.callWith_builtin1 (thn (ha pos pins s σ H _ I h) fun us s1 ⟨vs, H1, I1, r1, q1⟩ => hc pins s1 σ H1 vs us Q I1 r1 q1) he hpl
theorem pe_callTy (hc : CallR X (.type T) r) (hg : Gl X x) (hm : X.mg x = none) (hv : bootBuiltins x = some (.type T)) (ha : PA X (e :: es) t) (hn : x ≠ "__name__" := by decide) (hdb : (x == ("__debug__" : Str)) = false := by decide)
  (he : starEach (e :: es) X.env = (false, eval e X.env) :: starEach es X.env := by rfl) (hpl : (backTo pos (starEach es X.env)).any (·.1) = false := by rfl) : PE X (.Call (.Name x p) (e :: es) [] pos) (tCB r t) := by
 intro pins s σ H Q I h
 refine wpAny_Call_Name_kw (ld_blt I hg hm hv ?_ hn hdb)
 exact PyProof.Rows.callWith_type1 (thn (ha pos pins s σ H _ I h) fun us s1 ⟨vs, H1, I1, r1, q1⟩ => hc pins s1 σ H1 vs us Q I1 r1 q1) he hpl
end
end L2
namespace HT
open PySem PyProof.Rows
section
open PySem.SeqAt
open PySem.AutoSeq1 (wpAny_loadPart')
open PySem.MeetsSeq PySem.MeetsSeq2 PySem.MeetsSeq3
end
section
variable {prog : Program} {w : World} {A : Around} {E : Value → Shared → Prop} {s : Shared}
noncomputable def sIx (n d : Nat) : Option Int → Nat
 | none => d
 | some v => if v < 0 then (v + (n : Int)).toNat else min v.toNat n
theorem sIx_none (n d : Nat) : sIx n d none = d := rfl
theorem sIx_nat (n d k : Nat) : sIx n d (some (k : Int)) = min k n := by
 show (if (k : Int) < 0 then ((k : Int) + (n : Int)).toNat else min (k : Int).toNat n) = min k n
 rw [if_neg (by omega), Int.toNat_natCast]
end
end HT
namespace L2
open PySem PySem.Spec PyProof.Rows
noncomputable abbrev TO := St → Hp → (Option Int → Hp → Prop) → Prop
noncomputable def PO (X : Cx) (e : Option Expr) (t : TO) : Prop :=
 ∀ (pins : List (Addr × Obj)) (s : Shared) (σ : St) (H : Hp) (Q : Option Int → Hp → Prop), Inv X pins σ H s → t σ H Q →
  wpAny (model X.prog X.w) X.A (evalPart e X.env) (fun u s' => ∃ o H', Inv X pins σ H' s' ∧ IsPart u o ∧ Q o H') X.xe s
noncomputable def tNoPart : TO := fun _ H Q => Q none H
noncomputable def tPart (t : TE) : TO := fun σ H Q => t σ H fun x H1 => ∃ i, x = .int i ∧ Q (some i) H1
section
variable {X : Cx} {e : Expr} {te : TE} {lo hi : Option Expr} {tl th : TO} {pos p2 : Pos}
theorem po_none : PO X none tNoPart := by
 intro pins s σ H Q I h
 rw [evalPart_none]
 exact wpAny_pure ⟨none, H, I, .none, h⟩
theorem po_some (h : PE X e te) : PO X (some e) (tPart te) := by
 intro pins s σ H Q I hw
 rw [evalPart_some]
 refine thn (h pins s σ H _ I hw) fun u s1 ⟨x, H1, I1, r1, q1⟩ => ?_
 obtain ⟨i, rfl, q⟩ := q1
 obtain ⟨t, rfl⟩ := r1
 exact ⟨some i, H1, I1, .int i t, q⟩
noncomputable def SlR (X : Cx) (r : V → Option Int → Option Int → Hp → VK → Prop) : Prop :=
 ∀ (pins : List (Addr × Obj)) (s : Shared) (σ : St) (H : Hp) (x : V) (v vl vu : Value) (lo hi : Option Int) (sl : Addr) (Q : VK), Inv X pins σ H s → RelV x v → s.heap.IsSliceOf sl vl vu .none → IsPart vl lo → IsPart vu hi → r x lo hi H Q →
  ∃ T id, typeLookup (.type T) "__getitem__" = pure (some (.builtin id)) ∧ s.TypeIs v T ∧ wpAny (model X.prog X.w) X.A (getItem v (.ref sl)) (EP X pins σ Q) X.xe s
noncomputable def tSl (r : V → Option Int → Option Int → Hp → VK → Prop) (te : TE) (tl th : TO) : TE := fun σ H Q => te σ H fun x H1 => tl σ H1 fun l H2 => th σ H2 fun u H3 => r x l u H3 Q
theorem pe_slice {r : V → Option Int → Option Int → Hp → VK → Prop} (hr : SlR X r) (he : PE X e te) (hl : PO X lo tl) (hu : PO X hi th) : PE X (.Subscript e (.Slice lo hi none p2) pos) (tSl r te tl th) := by
 intro pins s σ H Q I h
 refine Subscript_ (thn (he pins s σ H _ I h) fun v s1 ⟨x, H1, I1, r1, q1⟩ => ?_)
 refine wpAny_Slice (thn (hl pins s1 σ H1 _ I1 q1) fun vl s2 ⟨l, H2, I2, pl, q2⟩ => thn (hu pins s2 σ H2 _ I2 q2) fun vu s3 ⟨u, H3, I3, pu, q3⟩ => ?_)
 rw [evalPart_none]
 refine wpAny_pure ?_
 have I4 : Inv X pins σ H3 { s3 with heap := s3.heap.push { cls := .type "slice", data := .fields #[vl, vu, .none] } } := I3.kept (t' := s3.toks) fun b ob q => Heap.get?_push_of_some _ q
 obtain ⟨T, id, hT, ht, hg⟩ := hr pins { s3 with heap := s3.heap.push { cls := .type "slice", data := .fields #[vl, vu, .none] } } σ H3 x v vl vu l u s3.heap.objs.size Q I4 r1 (Heap.IsSliceOf.new ..) pl pu q3
 show wpAny (model X.prog X.w) X.A (subscriptTail e (.Slice lo hi none p2) v (.ref s3.heap.objs.size)) (EP X pins σ Q) X.xe { s3 with heap := s3.heap.push { cls := .type "slice", data := .fields #[vl, vu, .none] } }
 exact tail_any (ops := [.ref s3.heap.objs.size, v]) ht hT hg (by with_unfolding_all rfl)
noncomputable def cutV (xs : List V) (lo hi : Option Int) : List V := (xs.drop (HT.sIx xs.length 0 lo)).take (HT.sIx xs.length xs.length hi - HT.sIx xs.length 0 lo)
theorem cutV_length (xs : List V) (lo hi : Option Int) : (cutV xs lo hi).length ≤ xs.length := by
 unfold cutV
 rw [List.length_take, List.length_drop]
 omega
end
end L2
namespace L2
open PySem PySem.Spec PyProof.Rows
noncomputable def ixN (n : Nat) (i : Int) : Option Nat := if 0 ≤ i then (if i < n then some i.toNat else none) else if -(n : Int) ≤ i then some (i + n).toNat else none
noncomputable def atI {α : Type} (xs : List α) (i : Int) : Option α := (ixN xs.length i).bind fun j => xs[j]?
theorem ixN_seq {n : Nat} {i : Int} {j : Nat} (h : ixN n i = some j) : seqIndex? i n = some j ∧ j < n ∧ -(n : Int) ≤ i ∧ i < n := by
 unfold ixN at h
 by_cases h0 : 0 ≤ i
 ·rw [if_pos h0] at h
  by_cases h1 : i < n
  ·rw [if_pos h1] at h
   have e : i.toNat = j := Option.some.inj h
   exact ⟨by rw [seqIndex_of h0 h1, e], by omega, by omega, h1⟩
  ·rw [if_neg h1] at h; cases h
 ·rw [if_neg h0] at h
  by_cases h1 : -(n : Int) ≤ i
  ·rw [if_pos h1] at h
   have e : (i + n).toNat = j := Option.some.inj h
   exact ⟨by rw [seqIndex_neg (by omega) h1, e], by omega, h1, by omega⟩
  ·rw [if_neg h1] at h; cases h
theorem atI_get {α : Type} {xs : List α} {i : Int} {v : α} (h : atI xs i = some v) : ∃ j, seqIndex? i xs.length = some j ∧ xs[j]? = some v ∧ j < xs.length ∧ -(xs.length : Int) ≤ i ∧ i < xs.length := by
 unfold atI at h
 cases e : ixN xs.length i with
 | none => rw [e] at h; cases h
 | some j =>
  rw [e] at h
  obtain ⟨h1, h2, h3, h4⟩ := ixN_seq e
  exact ⟨j, h1, h, h2, h3, h4⟩
theorem atI_nat {α : Type} {xs : List α} {j : Nat} {v : α} (h : xs[j]? = some v) : atI xs (j : Int) = some v := by
 have hj : j < xs.length := (List.getElem?_eq_some_iff.mp h).1
 have e : ixN xs.length (j : Int) = some j := by
  unfold ixN
  rw [if_pos (by omega), if_pos (by omega)]; simp
 unfold atI; rw [e]; exact h
theorem atI_last {α : Type} (xs : List α) (v : α) : atI (xs ++ [v]) (-1) = some v := by
 have hl : (xs ++ [v]).length = xs.length + 1 := by simp
 have e : ixN (xs ++ [v]).length (-1) = some xs.length := by
  unfold ixN
  rw [hl, if_neg (by decide), if_pos (by omega)]
  congr 1
  omega
 unfold atI
 rw [e]
 show (xs ++ [v])[xs.length]? = some v
 simp
noncomputable def PlainIx (b : Expr) : Prop := ∀ o i, subscripted b false o i = operate [o, i] (getItem o i)
noncomputable def IxR (X : Cx) (r : R2) : Prop :=
 ∀ (value slice : Expr) (pins : List (Addr × Obj)) (s : Shared) (σ : St) (H : Hp) (x y : V) (v u : Value) (Q : VK), Inv X pins σ H s → RelV x v → RelV y u → r x y H Q →
  subscripted slice false v u = operate [v, u] (getItem v u) → wpAny (model X.prog X.w) X.A (subscriptTail value slice v u) (EP X pins σ Q) X.xe s
noncomputable def MtR (X : Cx) (id : String) (r : V → List V → Hp → VK → Prop) : Prop :=
 ∀ (pins : List (Addr × Obj)) (s : Shared) (σ : St) (H : Hp) (x : V) (xs : List V) (v : Value) (us : List Value) (Q : VK), Inv X pins σ H s → RelV x v → Vals xs us → r x xs H Q →
  wpAny (model X.prog X.w) X.A (call (.builtin id) (v :: us)) (EP X pins σ Q) X.xe s
section
variable {X : Cx} {a b : Expr} {ta tb : TE} {pos : Pos}
theorem pe_ix {r : R2} (hr : IxR X r) (ha : PE X a ta) (hb : PE X b tb) (hs : PlainIx b) : PE X (.Subscript a b pos) (tOp r ta tb) := by
 intro pins s σ H Q I h
 exact Subscript_ (binT ha hb I h fun v u s2 x y H2 I2 rx ry q => hr a b pins s2 σ H2 x y v u Q I2 rx ry q (hs _ _))
noncomputable def rIxL (K : PySem.W.Frag) : R2 := fun x y H Q => ∃ p xs i v, x = .ref p ∧ y = .int i ∧ SqL K H p xs ∧ atI xs i = some v ∧ Q v H
noncomputable def rIxT (K : PySem.W.Frag) : R2 := fun x y H Q => ∃ p xs i v, x = .ref p ∧ y = .int i ∧ SqT K H p xs ∧ atI xs i = some v ∧ Q v H
noncomputable def rIxS : R2 := fun x y H Q => ∃ z i c, x = .str z ∧ y = .int i ∧ z.length ≤ sizeLine ∧ atI z.cps.toList i = some c ∧ Q (.str ⟨#[c]⟩) H
theorem ix_list : IxR X (rIxL X.K) := by
 intro value slice pins s σ H x y v u Q I rx ry h hs
 obtain ⟨p, xs, i, z, rfl, rfl, hq, he, q⟩ := h
 cases rx
 obtain ⟨t, rfl⟩ := ry
 obtain ⟨its, r, pl, hz⟩ := I.list hq
 obtain ⟨j, h1, h2, h3, h4, h5⟩ := atI_get he
 obtain ⟨w, ew, rw'⟩ := r.get h2
 have hl := r.length
 have hn := line63
 have fin : EP X pins σ Q w s := ⟨z, H, I, rw', q⟩
 by_cases h0 : 0 ≤ i
 ·have hj : i.toNat = j := by
   rw [seqIndex_of h0 h5] at h1
   exact Option.some.inj h1
  exact item_listR pl.isList h0 (by omega) (by rw [hj]; simpa using ew) fin hs
 ·have hj : (i + (its.toArray.size : Int)).toNat = j := by
   rw [seqIndex_neg (by omega) h4] at h1
   rw [List.size_toArray, ← hl]
   exact Option.some.inj h1
  exact subscriptTail_builtinR (x := w) pl.isList.typeIs slot_list_getitem.lookup
   (wpAny_getItem_list_neg (Q := fun r s' => r = w ∧ EP X pins σ Q r s') pl.isList (by omega) (by rw [List.size_toArray] <;> omega) (by omega) (by rw [hj]; simpa using ew) ⟨rfl, fin⟩) hs
theorem ix_tup : IxR X (rIxT X.K) := by
 intro value slice pins s σ H x y v u Q I rx ry h hs
 obtain ⟨p, xs, i, z, rfl, rfl, hq, he, q⟩ := h
 cases rx
 obtain ⟨t, rfl⟩ := ry
 obtain ⟨its, r, pl, hz⟩ := I.tuple hq
 obtain ⟨j, h1, h2, h3, h4, h5⟩ := atI_get he
 obtain ⟨w, ew, rw'⟩ := r.get h2
 have hl := r.length
 have hn := line63
 have fin : EP X pins σ Q w s := ⟨z, H, I, rw', q⟩
 exact subscriptTail_builtinR (x := w) pl.typeIs slot_tuple_getitem.lookup
  (getItem_tuple (j := j) (Q := fun r s' => r = w ∧ EP X pins σ Q r s') pl (by omega) (by omega) (by rw [List.size_toArray, ← hl]; exact h1) (by simpa using ew) ⟨rfl, fin⟩) hs
theorem ix_str : IxR X rIxS := by
 intro value slice pins s σ H x y v u Q I rx ry h hs
 obtain ⟨z, i, c, rfl, rfl, hz, he, q⟩ := h
 obtain ⟨t, rfl⟩ := rx
 obtain ⟨t', rfl⟩ := ry
 obtain ⟨j, h1, h2, h3, h4, h5⟩ := atI_get he
 have hl : z.cps.toList.length = z.length := by simp [Str.length]
 rw [hl] at h1 h4 h5
 have hn := line63
 exact tail_any (typeIs_str s z t) slot_str_getitem.lookup (getItem_str (c := c) (by
  have e1 : decide (i < -(2 ^ 63 : Int)) = false := decide_eq_false (by omega)
  have e2 : decide (i ≥ 2 ^ 63) = false := decide_eq_false (by omega)
  rw [e1, e2, Bool.or_false]) (by rw [h1]; simpa using h2) ⟨.str ⟨#[c]⟩, H, I.tok _, ⟨_, rfl⟩, q⟩) hs
theorem slice_bounds (lo hi : Option Int) (n : Nat) : (sliceBounds lo hi none n).1 = ((HT.sIx n 0 lo : Nat) : Int) ∧ (sliceBounds lo hi none n).2.1 = ((HT.sIx n n hi : Nat) : Int) ∧ (sliceBounds lo hi none n).2.2 = 1 := by
 refine ⟨?_, ?_, rfl⟩
 ·cases lo with
  | none => simp [sliceBounds, HT.sIx]
  | some i =>
   simp only [sliceBounds, HT.sIx, Option.getD_none, show (1 : Int) > 0 by decide, if_true]
   by_cases h : i < 0
   ·simp only [h, if_true] <;> omega
   ·simp only [h, if_false] <;> omega
 ·cases hi with
  | none => simp [sliceBounds, HT.sIx]
  | some i =>
   simp only [sliceBounds, HT.sIx, Option.getD_none, show (1 : Int) > 0 by decide, if_true]
   by_cases h : i < 0
   ·simp only [h, if_true] <;> omega
   ·simp only [h, if_false] <;> omega
theorem slicePick_cut (its : List Value) (lo hi : Option Int) : slicePick its.toArray lo hi none = ((its.drop (HT.sIx its.length 0 lo)).take (HT.sIx its.length its.length hi - HT.sIx its.length 0 lo)).toArray := by
 obtain ⟨h1, h2, h3⟩ := slice_bounds lo hi its.toArray.size
 unfold slicePick
 rw [h1, h2, h3]
 simp only [sliceRange_one, pick_run, List.size_toArray] <;> rfl
noncomputable def rSlL (K : PySem.W.Frag) : V → Option Int → Option Int → Hp → VK → Prop := fun x lo hi H Q => ∃ a xs, x = .ref a ∧ SqL K H a xs ∧ ∀ p, H p = none → Q (.ref p) (upd H p (.lst (cutV xs lo hi)))
theorem sl_list : SlR X (rSlL X.K) := by
 intro pins s σ H x v vl vu lo hi sl Q I rx hs pl pu h
 obtain ⟨a, xs, rfl, hx, q⟩ := h
 cases rx
 obtain ⟨its, r, ht, hz⟩ := I.list hx
 have hlen := r.length
 refine ⟨"list", _, slot_list_getitem.lookup, ht.isList.typeIs, ?_⟩
 refine wpAny_getItem_list_slice ht.isList hs pl pu .none (by simp) ?_ (by rw [List.size_toArray] <;> omega)
 rw [slicePick_cut, ← hlen]
 refine ⟨.ref s.heap.objs.size, _, I.laid (t' := s.toks) (o := .lst (cutV xs lo hi)) (fun b ob q => Heap.get?_push_of_some _ q) (Nat.le_refl _) ?_, rfl, q _ (I.hok.fresh (Nat.le_refl _))⟩
 exact ⟨Nat.le_trans (cutV_length xs lo hi) hz, _, 0, (r.drop (HT.sIx xs.length 0 lo)).take (HT.sIx xs.length xs.length hi - HT.sIx xs.length 0 lo), Heap.get?_push_size _ rfl⟩
noncomputable def flatV : V → Bool
 | .non => true
 | .bl _ => true
 | .int _ => true
 | .str _ => true
 | _ => false
noncomputable def eqV : V → V → Bool
 | .non, .non => true
 | .bl a, .bl b => a == b
 | .bl a, .int b => (if a then 1 else 0) == b
 | .int a, .bl b => a == (if b then 1 else 0)
 | .int a, .int b => a == b
 | .str a, .str b => a == b
 | _, _ => false
theorem eqAt_V {A : Around} {s : Shared} {y x : V} {u v : Value} (ry : RelV y u) (rx : RelV x v) (fy : flatV y = true) (fx : flatV x = true) : SeqAt.EqAt A s u v (eqV y x) := by
 cases y with
 | non =>
  cases ry
  cases x with
  | non => cases rx; exact SeqAt.EqAt.same _
  | bl b => cases rx; exact SeqAt.EqAt.none_bool b
  | int b => obtain ⟨t, rfl⟩ := rx; exact SeqAt.EqAt.none_int b t
  | str b => obtain ⟨t, rfl⟩ := rx; exact SeqAt.EqAt.none_str b t
  | _ => exact absurd (show false = true from fx) Bool.false_ne_true
 | bl a =>
  cases ry
  cases x with
  | non => cases rx; exact SeqAt.EqAt.bool_none a
  | bl b => cases rx; exact SeqAt.EqAt.bool_bool a b
  | int b => obtain ⟨t, rfl⟩ := rx; exact SeqAt.EqAt.bool_int a b t
  | str b => obtain ⟨t, rfl⟩ := rx; exact SeqAt.EqAt.bool_str a b t
  | _ => exact absurd (show false = true from fx) Bool.false_ne_true
 | int a =>
  obtain ⟨t', rfl⟩ := ry
  cases x with
  | non => cases rx; exact SeqAt.EqAt.int_none a t'
  | bl b => cases rx; exact SeqAt.EqAt.int_bool a t' b
  | int b => obtain ⟨t, rfl⟩ := rx; exact SeqAt.EqAt.int_int a t' b t
  | str b => obtain ⟨t, rfl⟩ := rx; exact SeqAt.EqAt.int_str a t' b t
  | _ => exact absurd (show false = true from fx) Bool.false_ne_true
 | str a =>
  obtain ⟨t', rfl⟩ := ry
  cases x with
  | non => cases rx; exact SeqAt.EqAt.str_none a t'
  | bl b => cases rx; exact SeqAt.EqAt.str_bool a t' b
  | int b => obtain ⟨t, rfl⟩ := rx; exact SeqAt.EqAt.str_int a t' b t
  | str b => obtain ⟨t, rfl⟩ := rx; exact SeqAt.EqAt.str_str a t' b t
  | _ => exact absurd (show false = true from fx) Bool.false_ne_true
 | _ => exact absurd (show false = true from fy) Bool.false_ne_true
noncomputable def eqU (x : V) (u : Value) : Bool := match u with
 | .none => eqV .non x
 | .bool b => eqV (.bl b) x
 | .int i _ => eqV (.int i) x
 | .str z _ => eqV (.str z) x
 | _ => false
theorem eqU_of {x y : V} {u : Value} (r : RelV y u) (f : flatV y = true) : eqU x u = eqV y x := by
 cases y with
 | non => cases r; rfl
 | bl b => cases r; rfl
 | int i => obtain ⟨t, rfl⟩ := r; rfl
 | str z => obtain ⟨t, rfl⟩ := r; rfl
 | _ => exact absurd (show false = true from f) Bool.false_ne_true
theorem any_eqU {x : V} : ∀ {xs : List V} {us : List Value}, Vals xs us → xs.all flatV = true → us.any (eqU x) = xs.any fun y => eqV y x
 | _, _, .nil, _ => rfl
 | y :: xs, u :: us, .cons r t, f => by
  rw [List.all_cons, Bool.and_eq_true] at f
  rw [List.any_cons, List.any_cons, eqU_of r f.1, any_eqU t f.2]
theorem mem_eqAt {A : Around} {s : Shared} {x : V} {v : Value} (rx : RelV x v) (fx : flatV x = true) : ∀ {xs : List V} {us : List Value}, Vals xs us → xs.all flatV = true → ∀ u ∈ us, SeqAt.EqAt A s u v (eqU x u)
 | _, _, .nil, _ => fun u hu => by cases hu
 | y :: xs, u :: us, .cons r t, f => fun u' hu => by
  rw [List.all_cons, Bool.and_eq_true] at f
  rcases List.mem_cons.mp hu with rfl | hu
  ·rw [eqU_of r f.1]; exact eqAt_V r rx f.1 fx
  ·exact mem_eqAt rx fx t f.2 u' hu
noncomputable def inV (x : V) (xs : List V) : Bool := xs.any fun y => eqV y x
noncomputable def rIn (K : PySem.W.Frag) (neg : Bool) : R2 := fun x y H Q => ∃ p xs, y = .ref p ∧ (SqL K H p xs ∨ SqT K H p xs) ∧ flatV x = true ∧ xs.all flatV = true ∧ Q (.bl (if neg then !inV x xs else inV x xs)) H
theorem op_notIn_seq : OpR X (compareOp .NotIn) (rIn X.K true) := by
 intro pins s σ H x y v u Q I rx ry h
 obtain ⟨p, xs, rfl, hq, fx, fs, q⟩ := h
 cases ry
 rcases hq with hq | hq
 ·obtain ⟨its, r, pl, hz⟩ := I.list hq
  refine SeqAt.notIn_listAt (eqU x) pl.isList (fun w hw => mem_eqAt rx fx r fs w (by simpa using hw)) ⟨.bl _, H, I, rfl, ?_⟩
  rw [show its.toArray.any (eqU x) = its.any (eqU x) by simp, any_eqU r fs]
  exact q
 ·obtain ⟨its, r, pl, hz⟩ := I.tuple hq
  refine SeqAt.notIn_tupleAt (eqU x) pl (fun w hw => mem_eqAt rx fx r fs w (by simpa using hw)) ⟨.bl _, H, I, rfl, ?_⟩
  rw [show its.toArray.any (eqU x) = its.any (eqU x) by simp, any_eqU r fs]
  exact q
theorem call_len_seq : CallR X (.builtin "len") (fun xs H Q => ∃ p ys, xs = [.ref p] ∧ (SqL X.K H p ys ∨ SqT X.K H p ys) ∧ Q (.int ys.length) H) := by
 intro pins s σ H xs us Q I r h
 obtain ⟨p, ys, rfl, hq, q⟩ := h
 obtain ⟨u, rfl, rx⟩ := vals1 r
 cases rx
 have hn := line63
 rcases hq with hq | hq
 ·obtain ⟨its, r', pl, hz⟩ := I.list hq
  have hlen := r'.length
  exact Calls.call_len_list pl.isList (by simp only [List.size_toArray] <;> omega) ⟨.int ys.length, H, I.tok _, ⟨s.toks + 1, by rw [List.size_toArray, hlen]⟩, q⟩
 ·obtain ⟨its, r', pl, hz⟩ := I.tuple hq
  have hlen := r'.length
  exact len_tuple pl (by simp only [List.size_toArray] <;> omega) ⟨.int ys.length, H, I.tok _, ⟨s.toks + 1, by rw [List.size_toArray, hlen]⟩, q⟩
theorem call_list_of : CallR X (.type "list") (fun xs H Q => ∃ p ys, xs = [.ref p] ∧ (SqL X.K H p ys ∨ SqT X.K H p ys) ∧ ∀ l, H l = none → Q (.ref l) (upd H l (.lst ys))) := by
 intro pins s σ H xs us Q I r h
 obtain ⟨p, ys, rfl, hq, q⟩ := h
 obtain ⟨u, rfl, rx⟩ := vals1 r
 cases rx
 have fin : ∀ (its : List Value), Vals ys its → ys.length ≤ sizeLine → ∀ (h' : Heap) (c' : Nat), (∀ b o', s.heap.get? b = some o' → h'.get? b = some o') →
   h'.get? s.heap.objs.size = some { cls := .type "list", dict := none, data := .seq its.toArray c', slots := #[] } → EP X pins σ Q (.ref s.heap.objs.size) { s with heap := h' } := fun its r' hz h' c' kp e =>
  ⟨.ref s.heap.objs.size, _, I.laid (t' := s.toks) kp (Nat.le_refl _) (show ObjOk X.prog X.w _ h' _ (.lst ys) from ⟨hz, its, c', r', e⟩), rfl, q _ (I.hok.fresh (Nat.le_refl _))⟩
 rcases hq with hq | hq
 ·obtain ⟨its, r', pl, hz⟩ := I.list hq
  have hlen := r'.length
  obtain ⟨o, ho, hc, n, hd⟩ := pl.isList
  exact call_list_seq p (.inl rfl) ho hc hd (fun h' c' kp e => fin its r' hz h' c' kp e) (by simp only [List.size_toArray] <;> omega)
 ·obtain ⟨its, r', pl, hz⟩ := I.tuple hq
  have hlen := r'.length
  obtain ⟨o, ho, hc, n, hd⟩ := pl
  exact call_list_seq p (.inr rfl) ho hc hd (fun h' c' kp e => fin its r' hz h' c' kp e) (by simp only [List.size_toArray] <;> omega)
noncomputable def tyV (K : PySem.W.Frag) (T : String) (x : V) (H : Hp) : Prop := match x with
 | .str _ => T = "str"
 | .int _ => T = "int"
 | .ref p => (T = "list" ∧ ∃ xs, SqL K H p xs) ∨ (T = "tuple" ∧ ∃ o, K.lookup p = some o ∧ o.cls = .type "tuple" ∧ o.dict = none) ∨
   (T = "dict" ∧ ((∃ kvs, H p = some (.dK kvs)) ∨ ∃ kvs, H p = some (.dT kvs))) ∨ (T = "set" ∧ ∃ S n, H p = some (.set S n))
 | _ => False
theorem tyV_is {pins : List (Addr × Obj)} {σ : St} {H : Hp} {s : Shared} {T : String} {x : V} {v : Value} (I : Inv X pins σ H s) (r : RelV x v) (ty : tyV X.K T x H) :
  s.TypeIs v T ∧ ∀ a, v = .ref a → ∃ ob, s.heap.get? a = some ob ∧ ob.dict = none := by
 cases x with
 | str z =>
  obtain ⟨t, rfl⟩ := r
  cases (show T = "str" from ty)
  exact ⟨typeIs_str s z t, fun _ e => nomatch e⟩
 | int i =>
  obtain ⟨t, rfl⟩ := r
  cases (show T = "int" from ty)
  exact ⟨typeIs_int s i t, fun _ e => nomatch e⟩
 | ref p =>
  cases r
  rcases ty with ⟨rfl, xs, hq⟩ | ⟨rfl, o, hk, hc, hd⟩ | ⟨rfl, hk⟩ | ⟨rfl, S, n, hk⟩
  ·obtain ⟨its, _, pl, _⟩ := I.list hq
   refine ⟨pl.isList.typeIs, fun a e => ?_⟩
   cases e
   obtain ⟨o, n, e, c, hd, _⟩ := pl
   exact ⟨o, e, hd⟩
  ·refine ⟨⟨o, I.kIn p o hk, hc⟩, fun a e => ?_⟩
   cases e
   exact ⟨o, I.kIn _ o hk, hd⟩
  ·have z : ∃ o, s.heap.get? p = some o ∧ o.ExactDict := by
    rcases hk with ⟨kvs, hk⟩ | ⟨kvs, hk⟩
    ·obtain ⟨_, _, _, _, o, _, _, e, ex, _⟩ := I.hok p _ hk
     exact ⟨o, e, ex⟩
    ·obtain ⟨_, _, _, _, o, _, _, e, ex, _⟩ := I.hok p _ hk
     exact ⟨o, e, ex⟩
   obtain ⟨o, e, ex⟩ := z
   refine ⟨⟨o, e, ex.1⟩, fun a e2 => ?_⟩
   cases e2
   exact ⟨o, e, ex.2.1⟩
  ·obtain ⟨o, _, _, _, e, ex, _⟩ := I.hok p _ hk
   refine ⟨⟨o, e, ex.1⟩, fun a e2 => ?_⟩
   cases e2
   exact ⟨o, e, ex.2.1⟩
 | _ => exact False.elim ty
noncomputable def tBM0 (K : PySem.W.Frag) (T : String) (r : V → List V → Hp → VK → Prop) (to : TE) : TE := fun σ H Q => to σ H fun x H1 => tyV K T x H1 ∧ r x [] H1 Q
noncomputable def tBM (K : PySem.W.Frag) (T : String) (r : V → List V → Hp → VK → Prop) (to : TE) (t : TA) : TE := fun σ H Q => to σ H fun x H1 => tyV K T x H1 ∧ t σ H1 fun xs H2 => r x xs H2 Q
variable {o e : Expr} {es : List Expr} {to : TE} {t : TA} {name : Str} {apos cpos : Pos} {T id : String} {r : V → List V → Hp → VK → Prop}
theorem pe_bm0 (pa : PlainAttrs T) (slot : Slot T name id) (hty : typeOf (.builtin id) = pure (.type "method_descriptor")) (hm : MtR X id r) (ho : PE X o to)
  (hbase : attributeBase o name X.env (eval o X.env) = eval o X.env := by rfl) (hline : (apos.endLine == cpos.line) = true := by rfl) : PE X (.Call (.Attribute o name apos) [] [] cpos) (tBM0 X.K T r to) := by
 intro pins s σ H Q I h
 refine wpAny_Call_method0_late hbase hline (thn (ho pins s σ H _ I h) fun v s1 ⟨x, H1, I1, r1, ty, q1⟩ => ?_)
 obtain ⟨h1, h2⟩ := tyV_is I1 r1 ty
 exact ⟨T, id, pa, slot, hty, h1, h2, Calls.callWith_builtin rfl (PySem.evalArgs_none (hm pins s1 σ H1 x [] v [] Q I1 r1 .nil q1))⟩
theorem pe_bm (pa : PlainAttrs T) (slot : Slot T name id) (hty : typeOf (.builtin id) = pure (.type "method_descriptor")) (hm : MtR X id r) (ho : PE X o to) (ha : PA X (e :: es) t)
  (hbase : attributeBase o name X.env (eval o X.env) = eval o X.env := by rfl)
  (hfew : ((backTo cpos (starEach (e :: es) X.env)).all (fun x => !x.1) && (backToKw cpos (keywordEach [] X.env)).all (fun x => x.1.isSome)
   && decide ((e :: es).length + ([] : List Keyword).length + (if ([] : List Keyword).isEmpty then 0 else 1) < 30)) = true := by rfl)
  (hline : (apos.endLine == cpos.line) = true := by rfl) (hs : starEach (e :: es) X.env = (false, eval e X.env) :: starEach es X.env := by rfl) (hplain : (backTo cpos (starEach es X.env)).any (·.1) = false := by rfl) :
  PE X (.Call (.Attribute o name apos) (e :: es) [] cpos) (tBM X.K T r to t) := by
 intro pins s σ H Q I h
 refine wpAny_Call_method_late hbase hfew hline rfl (thn (ho pins s σ H _ I h) fun v s1 ⟨x, H1, I1, r1, ty, q1⟩ => ?_)
 obtain ⟨h1, h2⟩ := tyV_is I1 r1 ty
 refine ⟨T, id, pa, slot, hty, h1, h2, ?_⟩
 have hA := ha cpos pins s1 σ H1 _ I1 q1
 rw [hs] at hA ⊢
 refine Calls.callWith_builtin (by show (false || (backTo cpos (starEach es X.env)).any (·.1)) = false; rw [hplain] <;> rfl) (Calls.evalArgs_plain ?_)
 exact thn hA fun us s2 ⟨vs, H2, I2, r2, q2⟩ => hm pins s2 σ H2 x vs v us Q I2 r1 r2 q2
end
end L2
namespace L2
open PySem PySem.Spec PyProof.Rows
noncomputable def MtM (X : Cx) (id : String) (r : V → List V → Hp → VK → Prop) : Prop :=
 ∀ (pins : List (Addr × Obj)) (s : Shared) (σ : St) (H : Hp) (x : V) (xs : List V) (v : Value) (us : List Value) (Q : VK), Inv X pins σ H s → RelV x v → Vals xs us → r x xs H Q →
  wpAny (model X.prog X.w) X.A (call (.builtin id) (v :: us)) (EP X pins σ Q) X.xe s
theorem Vals.hd {x : V} {xs : List V} {us : List Value} (h : Vals (x :: xs) us) : ∃ u vs, us = u :: vs ∧ RelV x u ∧ Vals xs vs := by
 cases h with
 | cons r t => exact ⟨_, _, rfl, r, t⟩
theorem Vals.nl {us : List Value} (h : Vals [] us) : us = [] := by
 cases h
 rfl
theorem Vals.one {x : V} {us : List Value} (h : Vals [x] us) : ∃ u, us = [u] ∧ RelV x u := by
 obtain ⟨u, vs, rfl, r, t⟩ := h.hd
 rw [t.nl]
 exact ⟨u, rfl, r⟩
theorem Vals.two {x y : V} {us : List Value} (h : Vals [x, y] us) : ∃ u v, us = [u, v] ∧ RelV x u ∧ RelV y v := by
 obtain ⟨u, vs, rfl, r, t⟩ := h.hd
 obtain ⟨v, ws, rfl, q, t⟩ := t.hd
 rw [t.nl]
 exact ⟨u, v, rfl, r, q⟩
theorem Vals.zero : ∀ {us : List Value}, Vals [] us → us = []
 | _, .nil => rfl
theorem Vals.dropLast {xs : List V} {us : List Value} (h : Vals xs us) : Vals xs.dropLast us.dropLast := by
 induction h with
 | nil => exact .nil
 | cons r t ih =>
  cases t with
  | nil => exact .nil
  | cons q t' => exact .cons r ih
theorem Vals.eraseIdx : ∀ {xs : List V} {us : List Value} (i : Nat), Vals xs us → Vals (xs.eraseIdx i) (us.eraseIdx i)
 | _, _, _, .nil => .nil
 | _, _, 0, .cons _ t => t
 | _, _, i + 1, .cons r t => .cons r (Vals.eraseIdx i t)
theorem Vals.reverse {xs : List V} {us : List Value} (h : Vals xs us) : Vals xs.reverse us.reverse := by
 induction h with
 | nil => exact .nil
 | cons r t ih => rw [List.reverse_cons, List.reverse_cons]; exact Vals.append ih (.cons r .nil)
theorem erase_last {α : Type} (l : List α) : l.eraseIdx (l.length - 1) = l.dropLast := by
 induction l with
 | nil => rfl
 | cons a r ih =>
  cases r with
  | nil => rfl
  | cons b r =>
   have e : (a :: b :: r).length - 1 = ((b :: r).length - 1) + 1 := by
    have h1 : (a :: b :: r).length = r.length + 2 := rfl
    have h2 : (b :: r).length = r.length + 1 := rfl
    omega
   rw [e, List.eraseIdx_cons_succ, ih]
   all_goals rfl
theorem len_erase {α : Type} : ∀ (l : List α) (i : Nat), (l.eraseIdx i).length ≤ l.length
 | [], _ => Nat.le_refl _
 | _ :: _, 0 => Nat.le_succ _
 | _ :: r, i + 1 => Nat.succ_le_succ (len_erase r i)
section
variable {X : Cx} {pins : List (Addr × Obj)} {σ : St} {H : Hp} {s : Shared} {l b : Addr} {xs ys zs : List V}
theorem Inv.lset {its its' : List Value} {n : Nat} {f : Array Value → Array Value} {t' : Nat} (I : Inv X pins σ H s) (hH : H l = some (.lst xs))
  (e : s.heap.get? l = some { cls := .type "list", data := .seq its.toArray n }) (hf : f its.toArray = its'.toArray) (hv : Vals ys its') (hz : ys.length ≤ sizeLine) :
  Inv X pins σ (upd H l (.lst ys)) { s with heap := s.heap.update l (Obj.mapSeq f), toks := t' } := by
 have q := PySem.IsL.update e f
 rw [hf] at q
 refine I.write (x := l) (e := l) (by rw [hH]; exact trivial) (.inl rfl) (fun b' u hb hu => (Heap.get?_update_other s.heap (Obj.mapSeq f) (Ne.symm hb)).trans hu) ⟨_, q⟩ ?_
 exact ⟨hz, its', _, hv, q⟩
theorem Inv.lnew {its : List Value} {t' : Nat} (I : Inv X pins σ H s) (hv : Vals ys its) (hz : ys.length ≤ sizeLine) :
  Inv X pins σ (upd H s.heap.objs.size (.lst ys)) { s with heap := s.heap.push { cls := .type "list", data := .seq its.toArray }, toks := t' } :=
 I.laid (fun _ _ q => Heap.get?_push_of_some _ q) (Nat.le_refl _) ⟨hz, its, 0, hv, Heap.get?_push_size _ rfl⟩
theorem Inv.fresh (I : Inv X pins σ H s) : H s.heap.objs.size = none := I.hok.fresh (Nat.le_refl _)
theorem Inv.lstM (I : Inv X pins σ H s) (hH : H l = some (.lst xs)) : xs.length ≤ sizeLine ∧ ∃ (its : List Value) (n : Nat), Vals xs its ∧ xs.length = its.length ∧ s.heap.get? l = some { cls := .type "list", data := .seq its.toArray n } := by
 obtain ⟨z, its, n, r, e⟩ := I.hok l _ hH
 exact ⟨z, its, n, r, r.length, e⟩
theorem notLongL {n : Nat} (h : n ≤ sizeLine) : Builtin.List.listTooLong n = false := by
 unfold Builtin.List.listTooLong
 exact decide_eq_false (by omega)
end
section
variable {X : Cx}
noncomputable def rAppend : V → List V → Hp → VK → Prop := fun x vs H Q => ∃ l xs y, x = .ref l ∧ vs = [y] ∧ H l = some (.lst xs) ∧ xs.length < sizeLine ∧ Q .non (upd H l (.lst (xs ++ [y])))
theorem mt_append : MtM X "list.append" rAppend := by
 intro pins s σ H x vs v us Q I rx rv h
 obtain ⟨l, xs, y, rfl, rfl, hH, hz, q⟩ := h
 cases rx
 obtain ⟨u, rfl, ru⟩ := rv.one
 obtain ⟨z, its, n, r, hl, e⟩ := I.lstM hH
 refine call_meets F.slot_list_append ⟨_, e, rfl⟩ F.entry_list_append (F.args_list_append_2 _ _) (PySem.list_append l its.toArray n u (by rw [List.size_toArray]; omega)) ⟨e, ?_⟩
 refine ⟨.non, _, I.lset (its' := its ++ [u]) hH e (by simp) (r.append (.cons ru .nil)) ?_, rfl, q⟩
 rw [List.length_append, List.length_singleton]
 omega
noncomputable def rExtend : V → List V → Hp → VK → Prop := fun x vs H Q => ∃ l b xs zs, x = .ref l ∧ vs = [.ref b] ∧ H l = some (.lst xs) ∧ H b = some (.lst zs) ∧ xs.length + zs.length ≤ sizeLine ∧ Q .non (upd H l (.lst (xs ++ zs)))
theorem mt_extend : MtM X "list.extend" rExtend := by
 intro pins s σ H x vs v us Q I rx rv h
 obtain ⟨l, b, xs, zs, rfl, rfl, hH, hB, hz, q⟩ := h
 cases rx
 obtain ⟨u, rfl, ru⟩ := rv.one
 cases ru
 obtain ⟨z, its, n, r, hl, e⟩ := I.lstM hH
 obtain ⟨z2, its2, n2, r2, hl2, e2⟩ := I.lstM hB
 have hsz : its.toArray.size + its2.toArray.size ≤ sizeLine := by rw [List.size_toArray, List.size_toArray]; omega
 have hlong : ¬ (!its.toArray.isEmpty && Builtin.List.listTooLong (its.toArray.size + its2.toArray.size)) = true := by
  rw [notLongL hsz, Bool.and_false]
  exact Bool.false_ne_true
 refine call_meets F.slot_list_extend ⟨_, e, rfl⟩ F.entry_list_extend (F.args_list_extend_2 _ _)
  (AutoSeq1.list_extend_list_list_0 l its.toArray n b its2.toArray n2 hlong (by rw [List.size_toArray]; omega) (by omega)) ⟨e, e2, ?_⟩
 refine ⟨.non, _, I.lset (its' := its ++ its2) hH e (by simp) (r.append r2) ?_, rfl, q⟩
 rw [List.length_append]
 omega
noncomputable def rPop : V → List V → Hp → VK → Prop := fun x vs H Q => ∃ l xs y, x = .ref l ∧ vs = [] ∧ H l = some (.lst xs) ∧ xs[xs.length - 1]? = some y ∧ Q y (upd H l (.lst xs.dropLast))
theorem mt_pop : MtM X "list.pop" rPop := by
 intro pins s σ H x vs v us Q I rx rv h
 obtain ⟨l, xs, y, rfl, rfl, hH, hy, q⟩ := h
 cases rx
 have hus := rv.zero
 subst hus
 obtain ⟨z, its, n, r, hl, e⟩ := I.lstM hH
 obtain ⟨u, hu, ru⟩ := r.get hy
 have hy' : its.toArray[its.toArray.size - 1]? = some u := by
  show its.toArray[its.length - 1]? = some u
  rw [← Array.getElem?_toList, ← hl]
  exact hu
 refine call_meets F.slot_list_pop ⟨_, e, rfl⟩ F.entry_list_pop (F.args_list_pop_1 _) (MeetsSeq.list_pop_last l its.toArray n u hy' (by rw [List.size_toArray]; omega)) ⟨e, ?_⟩
 refine ⟨y, _, I.lset (its' := its.dropLast) hH e ?_ r.dropLast ?_, ru, q⟩
 ·show its.toArray.eraseIdxIfInBounds (its.toArray.size - 1) = its.dropLast.toArray
  rw [List.size_toArray, List.eraseIdxIfInBounds_toArray, erase_last]
 ·rw [List.length_dropLast]
  omega
noncomputable def rPopAt : V → List V → Hp → VK → Prop := fun x vs H Q => ∃ l xs i k y, x = .ref l ∧ vs = [.int i] ∧ H l = some (.lst xs) ∧ -(2 ^ 63) ≤ i ∧ i < 2 ^ 63 ∧ seqIndex? i xs.length = some k ∧ xs[k]? = some y ∧ Q y (upd H l (.lst (xs.eraseIdx k)))
theorem mt_popAt : MtM X "list.pop" rPopAt := by
 intro pins s σ H x vs v us Q I rx rv h
 obtain ⟨l, xs, i, k, y, rfl, rfl, hH, h1, h2, hk, hy, q⟩ := h
 cases rx
 obtain ⟨u, rfl, ru⟩ := rv.one
 obtain ⟨t, rfl⟩ := ru
 obtain ⟨z, its, n, r, hl, e⟩ := I.lstM hH
 obtain ⟨w, hw, rw'⟩ := r.get hy
 refine call_meets F.slot_list_pop ⟨_, e, rfl⟩ F.entry_list_pop (F.args_list_pop_2 _ _)
  (MeetsSeq.list_pop_at l its.toArray n i t k w (fitsIndex_both h1 h2) (by rw [List.size_toArray, ← hl]; exact hk) (by rw [← Array.getElem?_toList]; exact hw) (by rw [List.size_toArray]; omega)) ⟨e, ?_⟩
 refine ⟨y, _, I.lset (its' := its.eraseIdx k) hH e ?_ (r.eraseIdx k) ?_, rw', q⟩
 ·show its.toArray.eraseIdxIfInBounds k = (its.eraseIdx k).toArray
  rw [List.eraseIdxIfInBounds_toArray]
 ·have := len_erase xs k
  omega
noncomputable def rReverse : V → List V → Hp → VK → Prop := fun x vs H Q => ∃ l xs, x = .ref l ∧ vs = [] ∧ H l = some (.lst xs) ∧ Q .non (upd H l (.lst xs.reverse))
theorem mt_reverse : MtM X "list.reverse" rReverse := by
 intro pins s σ H x vs v us Q I rx rv h
 obtain ⟨l, xs, rfl, rfl, hH, q⟩ := h
 cases rx
 have hus := rv.zero
 subst hus
 obtain ⟨z, its, n, r, hl, e⟩ := I.lstM hH
 refine call_meets F.slot_list_reverse ⟨_, e, rfl⟩ F.entry_list_reverse (F.args_list_reverse_1 _) (AutoSeq1.list_reverse_list_0 l its.toArray n (by rw [List.size_toArray]; omega)) ⟨e, ?_⟩
 refine ⟨.non, _, I.lset (its' := its.reverse) hH e (by simp) r.reverse ?_, rfl, q⟩
 rw [List.length_reverse]
 omega
noncomputable def rCat : R2 := fun x y H Q => ∃ l b xs zs, x = .ref l ∧ y = .ref b ∧ H l = some (.lst xs) ∧ H b = some (.lst zs) ∧ xs.length + zs.length ≤ sizeLine ∧ ∀ p, H p = none → Q (.ref p) (upd H p (.lst (xs ++ zs)))
theorem op_cat : OpR X (binaryOp .Add) rCat := by
 intro pins s σ H x y v u Q I rx ry h
 obtain ⟨l, b, xs, zs, rfl, rfl, hH, hB, hz, q⟩ := h
 cases rx
 cases ry
 obtain ⟨z, its, n, r, hl, e⟩ := I.lstM hH
 obtain ⟨z2, its2, n2, r2, hl2, e2⟩ := I.lstM hB
 refine PySem.P.add_list e e2 ?_ (by rw [List.size_toArray, List.size_toArray]; omega)
 have ea : its.toArray ++ its2.toArray = (its ++ its2).toArray := by simp
 rw [ea]
 exact ⟨.ref _, _, I.lnew (t' := s.toks) (r.append r2) (by rw [List.length_append]; omega), rfl, q _ I.fresh⟩
end
section
variable {prog : Program} {w : World} {A : Around} {E : Value → Shared → Prop} {s : Shared}
end
section
variable {X : Cx}
end
end L2
namespace Att
open PySem PySem.W PySem.Calls PyProof.Rows
theorem ints_of_wellAll {P : Params} {h : Heap} : ∀ (ns : List Int) (vs : List Value), WellAll P h vs (ns.map WData.int) → IntsAre vs ns := by
 intro ns
 induction ns with
 | nil =>
  intro vs w
  rw [List.map_nil] at w
  cases w
  exact .nil
 | cons n ns ih =>
  intro vs w
  rw [List.map_cons] at w
  cases w with
  | cons a b =>
   cases a
   exact .cons _ _ (ih _ b)
theorem script_of {l : OpenLaw} {n : Nat} (hn : l.most = some n) {P : Params} {h : Heap} {args : List WData} {vals : List Value}
  (hpre : l.row.toRowW.claim.pre args = true) (hwl : WellAll P h vals args) :
  ∃ a vs ns, vals = [Value.ref a] ∧ args = [WData.list (ns.map WData.int)] ∧ h.get? a = some { cls := .type "list", data := .seq vs.toArray } ∧ IntsAre vs ns ∧ ns.length ≤ n := by
 have hsh : WShape.hasAll [] args [.list .int] = true := (pre_splitW hpre).1
 have hc : l.pre.holds [] { args := args } = true := (pre_splitW hpre).2
 obtain ⟨d, r, rfl, h1, h2⟩ := hasAllW_cons hsh
 obtain rfl := hasAllW_nil h2
 obtain ⟨xs, rfl, h3⟩ := hasW_list h1
 obtain ⟨ns, rfl⟩ := items_int h3
 have hlen : ns.length ≤ n := by
  unfold OpenLaw.pre at hc
  have h4 : (WTm.not (.lt (.lit (.int (n : Int))) (.len (.arg 0)))).holds [] { args := [.list (ns.map .int)] } = true := by
   have h4 := (holds_andW hc).1
   rw [hn] at h4
   exact h4
  have h5 := condW_of h4 (w_not (w_lt w_lit (w_len_list (w_arg rfl))))
  rw [List.length_map] at h5
  refine Nat.le_of_not_lt fun q => ?_
  have q' : (n : Int) < ((ns.length : Nat) : Int) := by omega
  first
   | (rw [decide_eq_true q'] at h5; exact absurd h5 (by decide))
   | (simp at h5; omega)
 cases hwl with
 | cons w1 w2 =>
  cases w2
  cases w1 with
  | list ho hall => exact ⟨_, _, ns, rfl, rfl, ho, ints_of_wellAll ns _ hall, hlen⟩
theorem post_true (l : OpenLaw) (args : List WData) : l.row.toRowW.claim.post args (.bool true) args = true :=
 postW_of (r := l.row.toRowW) (X := (true == true))
  (show WShape.has [] (.bool true) .bool = true by first | rfl | decide | simp [WShape.has, WShape.arms, WShape.armsAll])
  (show (WTm.eq .res (.lit (.bool true))).value [] { args := args, res := some (.bool true), after := args } = some (.bool (true == true)) from w_eq_bool (w_res rfl) w_lit) rfl
theorem attach_call {l : OpenLaw} {n : Nat} {q : Program} {loose : List Str} {XP : (Str → Option Value) → Heap → Prop} {YP : World → Heap → Prop} {d : DefRec}
  (hn : l.most = some n) (hdf : d.params.defaults = [])
  (call : ∀ (w : World) (s₀ s₁ : Shared) (mg mb : Str → Option Value) (fa : Addr) (o : Obj) (pm cd doc : Value) (a : Addr) (vs : List Value) (ns : List Int),
   Ground q loose [] XP w s₀ mg mb s₁.heap → YP w s₁.heap →
   s₁.heap.get? fa = some o → o.data = .func (docDef d.name d.params d.body d.scope pm cd doc) → s₁.heap.CodeRec cd d.name → mg d.name = some (.ref fa) →
   s₁.heap.get? a = some { cls := .type "list", data := .seq vs.toArray } → IntsAre vs ns → ns.length ≤ n → s₁.gens = #[] →
   codeAny (model l.prog w) callerA (.call (.ref fa) ⟨[.ref a], []⟩) (fun r s' => r = .ok (.ret (.bool true)) ∧ OldK s₁.heap s'.heap ∧ s'.os = s₁.os ∧ AllBare s'.gens) s₁) :
  WalkO q loose XP YP l.row.toRowW d [] (fun f vs => PySem.call f vs) := by
 intro w s₀ s₁ mg mb G Y fa o pm cd doc dV kV ho hd hcd hD hmg hg args vals as hpre hlay hrd hwl hlo
 obtain rfl : dV = .none := Dflts.none hD hdf
 obtain rfl : kV = .none := Dflts.noKw hD
 obtain ⟨a, vs, ns, rfl, rfl, hobj, hints, hlen⟩ := script_of hn hpre hwl
 refine enter_call (codeAny_mono (call w s₀ s₁ mg mb fa o pm cd doc a vs ns G Y ho (fd_plain hd) hcd hmg hobj hints hlen hg) fun r s' hq => ?_)
 obtain ⟨rfl, h2, h3, h4⟩ := hq
 exact ⟨.inl ⟨.bool true, .bool true, [], rfl, fun _ => rfl, .bool true, post_true l _, fun _ => ⟨List.Pairwise.nil, fun _ hm => (nomatch hm)⟩⟩, h2, h3, h4⟩
section
variable {prog : Program} {w : World} {A : Around} {E : Value → Shared → Prop} {s : Shared} {K : Frag}
end
end Att
namespace L2
open PySem PySem.Spec PyProof.Rows
theorem vals_ints : ∀ {vs : List Value} {ns : List Int}, IntsAre vs ns → Vals (ns.map V.int) vs
 | _, _, .nil => .nil
 | _, _, .cons n t h => .cons ⟨t, rfl⟩ (vals_ints h)
noncomputable def Only (H : Hp) : Prop := ∀ b, H b = none ∨ ∃ o xs, H b = some (.frz o (.lst xs))
theorem law_call {P : Program} {w : World} {K : PySem.W.Frag} {mg mb : Str → Option Value} {CX : CXT} {k : Nat} {fa a : Addr} {fd : FuncData} {x : Str} {sp : Sp} {s₁ : Shared} {vs : List Value} {ns : List Int}
  (KX : K.In s₁.heap) (hns : s₁.heap.Ns mainGlobals mg) (hb : s₁.heap.Ns builtinsNs mb) (hbb : ∀ x : Str, x ≠ "__name__" → mb x = bootBuiltins x) (hlim : s₁.heap.NoLimit) (hg : s₁.gens = #[])
  (ha : s₁.heap.get? a = some { cls := .type "list", data := .seq vs.toArray }) (hi : IntsAre vs ns) (hl : ns.length ≤ sizeLine) (hr : Room k callerA)
  (F : ∀ base : Heap, K.In base → base.Ns mainGlobals mg → FnOk P w K mg base CX k fa fd [x] sp) (hbind : ∀ (s : Shared) (u : Value), BindsTo s fd ⟨[u], []⟩ [(x, u)])
  (hsp : ∀ H : Hp, Only H → SqL K H a (ns.map V.int) → sp [.ref a] H (fun v _ => v = .bl true) fun _ _ _ => False)
  (hCX : ∀ H e s', CX [] H s₁ (fun _ _ _ => False) e s' → False) :
  codeAny (model P w) callerA (.call (.ref fa) ⟨[.ref a], []⟩) (fun r s' => r = .ok (.ret (.bool true)) ∧ OldK s₁.heap s'.heap ∧ s'.os = s₁.os ∧ AllBare s'.gens) s₁ := by
 have rv := vals_ints hi
 have lenV := hi.length
 have core : ∀ H : Hp, Only H → SqL K H a (ns.map V.int) → HOk P w H s₁.heap → (∀ b, H b ≠ none → b = a) → (H a ≠ none → K.lookup a = none) →
   codeAny (model P w) callerA (.call (.ref fa) ⟨[.ref a], []⟩) (fun r s' => r = .ok (.ret (.bool true)) ∧ OldK s₁.heap s'.heap ∧ s'.os = s₁.os ∧ AllBare s'.gens) s₁ := by
  intro H hO hS hok hA hK
  have base_of : ∀ {b : Addr} {o : Obj}, s₁.heap.get? b = some o → H b = none → (hidT s₁.heap H).get? b = some o := fun e n => hidT_get e n
  have noA : ∀ {b : Addr} {o : Obj} {es : Array DictEntry} {ep : Nat}, s₁.heap.get? b = some o → o.data = .dict es ep → H b = none := fun {b o es ep} e d => by
   cases q : H b with
   | none => rfl
   | some u =>
    have e' : b = a := hA b (by rw [q]; simp)
    subst e'
    rw [ha] at e; cases e
    have d' : Data.seq vs.toArray _ = Data.dict es ep := d
    cases d'
  have nsK : ∀ {b : Addr} {m : Str → Option Value}, s₁.heap.Ns b m → (hidT s₁.heap H).Ns b m := fun {b m} ⟨o, es, ep, e, d, r⟩ => ⟨o, es, ep, base_of e (noA e d), d, r⟩
  have hKb : K.In (hidT s₁.heap H) := fun b o e => base_of (KX b o e) (by
   cases q : H b with
   | none => rfl
   | some u =>
    have e' : b = a := hA b (by rw [q]; simp)
    subst e'
    rw [hK (by rw [q]; simp)] at e; cases e)
  have hM : Mod K mg (hidT s₁.heap H) := ⟨hKb, nsK hns, ⟨mb, nsK hb, hbb⟩, let ⟨mc, h1, h2⟩ := hlim; ⟨mc, nsK h1, h2⟩⟩
  have e0 : Env0 P w K mg (hidT s₁.heap H) callerA [] s₁ H := ⟨rfl, hM, fun b o e => of_hidT e, Nat.le_of_eq (hidT_size _ _), trivial, fun b hb => absurd (show b ∈ ([] : List Addr) from hb) (by simp), hok, .of_eq hg⟩
  refine codeAny_mono ((F _ hKb (nsK hns)).run callerA [] s₁ H ⟨[.ref a], []⟩ [.ref a] [.ref a] _ _ hr e0 (hbind s₁ (.ref a)) (.cons rfl .nil) (hsp H hO hS)) fun r s' h => ?_
  cases r with
  | error e => exact (hCX H e s' h).elim
  | ok fl =>
   cases fl with
   | next => exact False.elim h
   | brk => exact False.elim h
   | cont => exact False.elim h
   | ret u =>
    obtain ⟨v, H', os, bare, un, hok', r', q⟩ := h
    have q' : v = .bl true := q
    subst q'
    obtain rfl : u = Value.bool true := r'
    refine ⟨rfl, OldK.of_keep fun b o e => ?_, os, bare⟩
    cases q : H b with
    | none => exact un.keep b o e q (by intro z; exact absurd (show b ∈ ([] : List Addr) from z) (by simp)) (by simp)
    | some u =>
     rcases hO b with z | ⟨ob, xs, z⟩
     ·rw [q] at z; cases z
     ·have z2 := un.frzs b ob _ z
      obtain ⟨e1, _⟩ := hok b _ z
      obtain ⟨e2, _⟩ := hok' b _ z2
      rw [e] at e1; cases e1
      exact e2
 cases hk : K.lookup a with
 | some o =>
  have e := KX a o hk
  rw [ha] at e
  cases e
  refine core (fun _ => none) (fun _ => .inl rfl) (.inr ⟨_, vs.toArray, _, hk, rfl, rfl, rfl, by rw [List.size_toArray, lenV]; exact hl, by simpa using rv⟩) (fun b u z => by have z' : (none : Option HO) = some u := z; cases z') (fun b z => absurd rfl z) fun z => absurd rfl z
 | none =>
  refine core (fun b => if b = a then some (.frz { cls := .type "list", data := .seq vs.toArray } (.lst (ns.map V.int))) else none) (fun b => ?_) (.inl (.inr ⟨{ cls := .type "list", data := .seq vs.toArray }, if_pos rfl⟩)) (fun b u z => ?_) (fun b z => ?_) fun _ => hk
  ·by_cases hb : b = a
   ·exact .inr ⟨_, _, if_pos hb⟩
   ·exact .inl (if_neg hb)
  ·by_cases hb : b = a
   ·have z' := (if_pos hb).symm.trans z
    cases z'
    subst hb
    exact ⟨ha, by rw [List.length_map]; exact hl, vs, _, rv, ha⟩
   ·have z' := (if_neg hb).symm.trans z
    cases z'
  ·by_cases hb : b = a
   ·exact hb
   ·exact absurd (if_neg hb) z
end L2
namespace L2
open PySem PySem.Spec PyProof.Rows
theorem walk_of {l : PySem.W.OpenLaw} {n k : Nat} {q : Program} {loose : List Str} {XP : (Str → Option Value) → Heap → Prop} {YP : World → Heap → Prop} {d : DefRec} {K : Params → PySem.W.Frag} {CX : World → CXT} {sp : World → Sp} {x : Str}
  (hn : l.most = some n) (hn2 : n ≤ sizeLine) (hdf : d.params.defaults = []) (hr : Room k callerA)
  (hY : ∀ (w : World) (h : Heap), YP w h → (K w.params).In h)
  (F : ∀ (w : World) (mg : Str → Option Value) (fa : Addr) (h : Heap), (K w.params).In h → h.Ns mainGlobals mg → mg d.name = some (.ref fa) →
   ∃ fd : FuncData, (∀ (s : Shared) (u : Value), BindsTo s fd ⟨[u], []⟩ [(x, u)]) ∧
    ∀ base : Heap, (K w.params).In base → base.Ns mainGlobals mg → FnOk l.prog w (K w.params) mg base (CX w) k fa fd [x] (sp w))
  (hsp : ∀ (w : World) (H : Hp) (a : Addr) (ns : List Int), ns.length ≤ n → Only H → SqL (K w.params) H a (ns.map V.int) → sp w [.ref a] H (fun v _ => v = .bl true) fun _ _ _ => False)
  (hCX : ∀ (w : World) (H : Hp) (s : Shared) (e : Value) (s' : Shared), CX w [] H s (fun _ _ _ => False) e s' → False) :
  PySem.W.WalkO q loose XP YP l.row.toRowW d [] (fun f vs => PySem.call f vs) := by
 refine Att.attach_call hn hdf fun w s₀ s₁ mg mb fa o pm cd doc a vs ns G Y ho hd hcd hmg hobj hints hlen hg => ?_
 have KX := hY w _ Y
 obtain ⟨fd, hb, hF⟩ := F w mg fa _ KX G.T.g hmg
 exact law_call KX G.T.g G.T.b G.T.builtins G.T.nolimit hg hobj hints (Nat.le_trans hlen hn2) hr hF hb (fun H hO hS => hsp w H a ns hlen hO hS) fun H e s' => hCX w H s₁ e s'
end L2
namespace L2
open PySem PySem.Spec PyProof.Rows
noncomputable def defArgs (s : Stmt) : Arguments := match s with
 | .FunctionDef _ a _ _ _ _ _ _ _ _ => a
 | _ => { posonlyargs := [], args := [], vararg := none, kwonlyargs := [], kw_defaults := [], kwarg := none, defaults := [] }
noncomputable def defBody (s : Stmt) : List Stmt := match s with
 | .FunctionDef _ _ b _ _ _ _ _ _ _ => b
 | _ => []
noncomputable def defScope (s : Stmt) : Scope := match s with
 | .FunctionDef _ _ _ _ _ _ sc _ _ _ => sc
 | _ => { kind := .function, names := [], isGenerator := false, isCoroutine := false }
noncomputable abbrev CX0 : CXT := fun _ _ _ _ _ _ => False
noncomputable abbrev E0 : XK := fun _ _ _ => False
theorem pass0 {X : Cx} : Passes CX0 X E0 := fun _ _ _ _ _ _ _ h => h.elim
structure Fun (K : PySem.W.Frag) (x qual : Str) (st : Stmt) (f : Addr) (fd : FuncData) : Prop where
 ex : ∃ (oc : Value) (od : Option Addr) (kV doc pm : Value) (an : Option Addr) (cdv ct : Value) (osl : Array (Option Value)),
  fd = PySem.W.fnOf x qual (defArgs st) (defBody st) (defScope st) .none kV doc pm an cdv ct ∧ K.lookup f = some ⟨oc, od, .func fd, osl⟩ ∧ PySem.W.codeIn K cdv qual = true
 kp : PySem.W.keepIn K (.ref f) = true
section
variable {P : Program} {w : World} {K : PySem.W.Frag} {mg : Str → Option Value} {base : Heap}
theorem Fun.ok {x qual : Str} {st : Stmt} {f : Addr} {fd : FuncData} {N ps : List Str} {k : Nat} {sp : Sp} (F : Fun K x qual st f fd) (S : FnScope N ps (defScope st)) (len : ∀ vs H Q E, sp vs H Q E → vs.length = ps.length)
  (hbody : ∀ (cdv : Value) (A : Around) (outer : List Env) (s : Shared) (H : Hp) (vs : List V) (Q : VK) (E : XK), Room k (A.deeper (envOfC qual (defScope st) s.heap.objs.size f cdv)) → sp vs H Q E →
   ∃ t, PSs (cxOf CX0 P w K mg base N qual (defScope st) f cdv A outer s H E).nox (defBody st) t ∧ t { nx := fun _ H' => Q .non H', rt := Q } (start N vs) H) : FnOk P w K mg base CX0 (k + 1) f fd ps sp := by
 obtain ⟨oc, od, kV, doc, pm, an, cdv, ct, osl, rfl, lk, hcd⟩ := F.ex
 refine fn_of lk hcd S len fun A outer s H vs Q E hr hsp => ?_
 obtain ⟨t, h, q⟩ := hbody cdv A outer s H vs Q E hr hsp
 exact ⟨t, h.nox, q⟩
theorem Fun.binds {x qual : Str} {st : Stmt} {f : Addr} {fd : FuncData} {ps : List Str} (F : Fun K x qual st f fd)
  (h : ∀ (kV doc pm : Value) (an : Option Addr) (cdv ct : Value) (us : List Value), us.length = ps.length → bindArgs (PySem.W.fnOf x qual (defArgs st) (defBody st) (defScope st) .none kV doc pm an cdv ct) ⟨us, []⟩ = pure (ps.zip us)) : Binds K fd ps [] := by
 obtain ⟨oc, od, kV, doc, pm, an, cdv, ct, osl, rfl, lk, hcd⟩ := F.ex
 exact .all (h kV doc pm an cdv ct)
theorem fun_mk {x qual : Str} {st : Stmt} {f : Addr} {oc : Value} {od an : Option Addr} {osl : Array (Option Value)} {kV doc pm cdv ct : Value} (l : K.lookup f = some ⟨oc, od, .func (PySem.W.fnOf x qual (defArgs st) (defBody st) (defScope st) .none kV doc pm an cdv ct), osl⟩)
  (c : PySem.W.codeIn K cdv qual = true) (k : PySem.W.keepIn K (.ref f) = true) : Fun K x qual st f (PySem.W.fnOf x qual (defArgs st) (defBody st) (defScope st) .none kV doc pm an cdv ct) := ⟨⟨oc, od, kV, doc, pm, an, cdv, ct, osl, rfl, l, c⟩, k⟩
end
section
variable {X : Cx}
end
theorem iteF {A B : Prop} (h : B) : if false = true then A else B := by
 rw [if_neg Bool.false_ne_true]
 exact h
theorem iteT {A B : Prop} (h : A) : if true = true then A else B := by
 rw [if_pos rfl]
 exact h
theorem ite2 {c A B : Prop} [Decidable c] (h1 : c → A) (h2 : ¬ c → B) : if c then A else B := by
 by_cases h : c
 ·rw [if_pos h]
  exact h1 h
 ·rw [if_neg h]
  exact h2 h
noncomputable def Same (H H' : Hp) : Prop := ∀ b o, H b = some o → H' b = some o
theorem Same.refl (H : Hp) : Same H H := fun _ _ h => h
theorem Same.trans {H H1 H2 : Hp} (a : Same H H1) (b : Same H1 H2) : Same H H2 := fun c o h => b c o (a c o h)
theorem Same.free {H H' : Hp} (e : Same H H') {l : Addr} (h : H' l = Option.none) : H l = Option.none := by
 cases q : H l with
 | none => rfl
 | some o =>
  rw [e l o q] at h
  cases h
theorem Same.seq {K : PySem.W.Frag} {H H' : Hp} {a : Addr} {xs : List V} (e : Same H H') (h : SqL K H a xs) : SqL K H' a xs := by
 rcases h with (h | ⟨o, h⟩) | h
 ·exact .inl (.inl (e _ _ h))
 ·exact .inl (.inr ⟨o, e _ _ h⟩)
 ·exact .inr h
end L2
namespace L2
open PySem PySem.Spec PyProof.Rows
section
variable {κ : Type} [DecidableEq κ]
noncomputable def valV (kvs : List (κ × V)) (k : κ) : Option V := (kvs.find? fun kv => decide (kv.1 = k)).map (·.2)
noncomputable def putK (kvs : List (κ × V)) (k : κ) (v : V) : List (κ × V) :=
 if (kvs.any fun kv => decide (kv.1 = k)) = true then kvs.map (fun kv => if kv.1 = k then (kv.1, v) else kv) else kvs ++ [(k, v)]
theorem valV_pos {p : κ × V} {r : List (κ × V)} {k : κ} (e : p.1 = k) : valV (p :: r) k = some p.2 := by simp [valV, List.find?_cons, e]
theorem valV_neg {p : κ × V} {r : List (κ × V)} {k : κ} (e : ¬ p.1 = k) : valV (p :: r) k = valV r k := by simp [valV, List.find?_cons, e]
theorem valV_any (k : κ) : ∀ kvs : List (κ × V), (kvs.any fun kv => decide (kv.1 = k)) = (valV kvs k).isSome
 | [] => rfl
 | p :: r => by
  rw [List.any_cons]
  by_cases e : p.1 = k
  ·simp only [valV_pos e, decide_eq_true e, Bool.true_or, Option.isSome_some]
  ·rw [valV_neg e, decide_eq_false e, Bool.false_or]; exact valV_any k r
theorem valV_map (k j : κ) (y : V) : ∀ kvs : List (κ × V), valV (kvs.map fun kv => if kv.1 = k then (kv.1, y) else kv) j = (valV kvs j).map fun x => if j = k then y else x
 | [] => rfl
 | p :: r => by
  have ih := valV_map k j y r
  rw [List.map_cons]
  by_cases h : p.1 = k
  ·rw [if_pos h]
   by_cases e : p.1 = j
   ·rw [valV_pos (p := (p.1, y)) e, valV_pos e, Option.map_some, if_pos (e.symm.trans h)]
   ·rw [valV_neg (p := (p.1, y)) e, valV_neg e, ih]
  ·rw [if_neg h]
   by_cases e : p.1 = j
   ·rw [valV_pos (p := p) e, valV_pos e, Option.map_some, if_neg (fun z => h (e.trans z))]
   ·rw [valV_neg (p := p) e, valV_neg e, ih]
theorem valV_snoc (k j : κ) (y : V) : ∀ kvs : List (κ × V), valV kvs k = none → valV (kvs ++ [(k, y)]) j = if j = k then some y else valV kvs j
 | [], _ => by
  by_cases e : k = j
  ·rw [if_pos e.symm]; exact valV_pos (p := (k, y)) e
  ·rw [if_neg (fun z => e z.symm)]; exact valV_neg (p := (k, y)) e
 | p :: r, hn => by
  rw [List.cons_append]
  have hk : ¬ p.1 = k := fun z => by rw [valV_pos z] at hn; cases hn
  rw [valV_neg hk] at hn
  have ih := valV_snoc k j y r hn
  by_cases e : p.1 = j
  ·rw [valV_pos e, valV_pos e, if_neg (fun z => hk (e.trans z))]
  ·rw [valV_neg e, valV_neg e, ih]
theorem valV_put (kvs : List (κ × V)) (k j : κ) (y : V) : valV (putK kvs k y) j = if j = k then some y else valV kvs j := by
 unfold putK
 by_cases a : (kvs.any fun kv => decide (kv.1 = k)) = true
 ·rw [if_pos a, valV_map]
  rw [valV_any] at a
  by_cases e : j = k
  ·obtain ⟨x, hx⟩ := Option.isSome_iff_exists.mp a
   rw [if_pos e, e, hx, Option.map_some, if_pos rfl]
  ·rw [if_neg e]
   cases valV kvs j with
   | none => rfl
   | some x => rw [Option.map_some, if_neg e]
 ·rw [if_neg a]
  refine valV_snoc k j y kvs ?_
  rw [valV_any] at a
  cases q : valV kvs k with
  | none => rfl
  | some x => rw [q] at a; exact (a rfl).elim
theorem length_putK (kvs : List (κ × V)) (k : κ) (v : V) : (putK kvs k v).length ≤ kvs.length + 1 := by
 unfold putK
 split
 ·rw [List.length_map]; omega
 ·rw [List.length_append, List.length_cons, List.length_nil]; omega
theorem putK_new {kvs : List (κ × V)} {k : κ} (v : V) (h : valV kvs k = none) : putK kvs k v = kvs ++ [(k, v)] := by
 unfold putK
 rw [valV_any, h]
 exact if_neg (by decide)
theorem RelO.isSome_eq {o : Option V} {u : Option Value} (r : RelO o u) : o.isSome = u.isSome := by
 cases o with
 | none => cases u with
  | none => rfl
  | some _ => exact (show False from r).elim
 | some _ => cases u with
  | none => exact (show False from r).elim
  | some _ => rfl
theorem KV.val {kvs : List (κ × V)} {vs : List (κ × Value)} (r : KV kvs vs) (k : κ) : RelO (valV kvs k) (valueAt vs k) := by
 unfold KV at r
 induction r with
 | nil => exact True.intro
 | @cons p q ps qs h t ih =>
  obtain ⟨h1, h2⟩ := h
  by_cases e : p.1 = k
  ·have e' : q.1 = k := h1.symm.trans e
   have b : valueAt (q :: qs) k = some q.2 := by simp [valueAt, List.find?_cons, e']
   rw [valV_pos e, b]; exact h2
  ·have e' : ¬ q.1 = k := fun z => e (h1.trans z)
   have b : valueAt (q :: qs) k = valueAt qs k := by simp [valueAt, List.find?_cons, e']
   rw [valV_neg e, b]; exact ih
theorem KV.any {kvs : List (κ × V)} {vs : List (κ × Value)} (r : KV kvs vs) (k : κ) : (kvs.any fun kv => decide (kv.1 = k)) = vs.any fun kv => decide (kv.1 = k) := by
 unfold KV at r
 induction r with
 | nil => rfl
 | cons h t ih => rw [List.any_cons, List.any_cons, ih, h.1]
theorem KV.repl {kvs : List (κ × V)} {vs : List (κ × Value)} (r : KV kvs vs) (k : κ) {y : V} {u : Value} (ry : RelV y u) :
  KV (kvs.map fun kv => if kv.1 = k then (kv.1, y) else kv) (vs.map fun kv => if kv.1 = k then (kv.1, u) else kv) := by
 unfold KV at r ⊢
 induction r with
 | nil => exact .nil
 | @cons p q ps qs h t ih =>
  rw [List.map_cons, List.map_cons]
  refine .cons ?_ ih
  obtain ⟨h1, h2⟩ := h
  by_cases e : p.1 = k
  ·rw [if_pos e, if_pos (h1.symm.trans e)]; exact ⟨h1, ry⟩
  ·rw [if_neg e, if_neg (fun z => e (h1.trans z))]; exact ⟨h1, h2⟩
theorem KV.put {kvs : List (κ × V)} {vs : List (κ × Value)} (r : KV kvs vs) (k : κ) {y : V} {u : Value} (ry : RelV y u) : KV (putK kvs k y) (stored vs k u) := by
 unfold putK stored
 rw [r.any k]
 by_cases e : (vs.any fun kv => decide (kv.1 = k)) = true
 ·rw [if_pos e, if_pos e]; exact r.repl k ry
 ·rw [if_neg e, if_neg e]; exact Paired.snoc r ⟨rfl, ry⟩
theorem KV.keys {kvs : List (κ × V)} {vs : List (κ × Value)} (r : KV kvs vs) : kvs.map (·.1) = vs.map (·.1) := by
 unfold KV at r
 induction r with
 | nil => rfl
 | cons h t ih => rw [List.map_cons, List.map_cons, ih, h.1]
theorem KV.length {kvs : List (κ × V)} {vs : List (κ × Value)} (r : KV kvs vs) : kvs.length = vs.length := Paired.length r
end
theorem kV_is {P : Program} {w : World} {k : Key} {u : Value} (r : RelV (kV k) u) : (mixKind P w).is k u = true := by
 cases k with
 | inl i => obtain ⟨t, e⟩ := (show ∃ t, u = Value.int i t from r); subst e; exact mixKind_int P w i t
 | inr x => obtain ⟨t, e⟩ := (show ∃ t, u = Value.str x t from r); subst e; exact mixKind_str P w x t
theorem items_are {P : Program} {w : World} : ∀ {ks : List Key} {us : List Value}, Vals (ks.map kV) us → ItemsAre (mixKind P w) ks us
 | [], _, r => by rw [List.map_nil] at r; cases r; exact .nil
 | k :: ks, _, r => by
  rw [List.map_cons] at r
  cases r with
  | cons h t => exact .cons (kV_is h) (items_are t)
noncomputable abbrev KT (H : Hp) : List (List Key × V) → List (List Key × Addr × Value) → Prop := Paired fun p q => p.1 = q.1 ∧ H q.2.1 = some (.tup (p.1.map kV)) ∧ RelV p.2 q.2.2
theorem KT.val {H : Hp} {kvs : List (List Key × V)} {xs : List (List Key × Addr × Value)} (r : KT H kvs xs) (k : List Key) : RelO (valV kvs k) ((atKey xs k).map (·.2)) := by
 induction r with
 | nil => exact True.intro
 | @cons p q ps qs h t ih =>
  obtain ⟨h1, _, h2⟩ := h
  by_cases e : p.1 = k
  ·have e' : q.1 = k := h1.symm.trans e
   have b : atKey (q :: qs) k = some q.2 := by simp [atKey, List.find?_cons, e']
   rw [valV_pos e, b]; exact h2
  ·have e' : ¬ q.1 = k := fun z => e (h1.trans z)
   have b : atKey (q :: qs) k = atKey qs k := by simp [atKey, List.find?_cons, e']
   rw [valV_neg e, b]; exact ih
theorem KT.repl {H : Hp} {kvs : List (List Key × V)} {xs : List (List Key × Addr × Value)} (r : KT H kvs xs) (k : List Key) {y : V} {u : Value} (ry : RelV y u) :
  KT H (kvs.map fun kv => if kv.1 = k then (kv.1, y) else kv) (xs.map (putAt k u)) := by
 induction r with
 | nil => exact .nil
 | @cons p q ps qs h t ih =>
  rw [List.map_cons, List.map_cons]
  refine .cons ?_ ih
  obtain ⟨h1, h2, h3⟩ := h
  unfold putAt
  by_cases e : p.1 = k
  ·rw [if_pos e, if_pos (h1.symm.trans e)]; exact ⟨h1, h2, ry⟩
  ·rw [if_neg e, if_neg (fun z => e (h1.trans z))]; exact ⟨h1, h2, h3⟩
theorem KT.put {H : Hp} {kvs : List (List Key × V)} {xs : List (List Key × Addr × Value)} (r : KT H kvs xs) (k : List Key) {b : Addr} {y : V} {u : Value} (hb : H b = some (.tup (k.map kV))) (ry : RelV y u) :
  KT H (putK kvs k y) (storedH xs k b u) := by
 have e : (kvs.any fun kv => decide (kv.1 = k)) = (atKey xs k).isSome := by
  rw [valV_any, (r.val k).isSome_eq, Option.isSome_map]
 unfold putK storedH
 rw [e]
 by_cases q : (atKey xs k).isSome = true
 ·rw [if_pos q, if_pos q]; exact r.repl k ry
 ·rw [if_neg q, if_neg q]; exact Paired.snoc r ⟨rfl, hb, ry⟩
theorem KT.keeps {H H' : Hp} {kvs : List (List Key × V)} {xs : List (List Key × Addr × Value)} (r : KT H kvs xs) (ht : ∀ b ys, H b = some (.tup ys) → H' b = some (.tup ys)) : KT H' kvs xs :=
 Paired.mapP r fun _ _ z => ⟨z.1, ht _ _ z.2.1, z.2.2⟩
section
variable {P : Program} {w : World} {H : Hp} {h : Heap} {a : Addr}
theorem rd_of {u : HO} (ok : HOk P w H h) (e : Rd H a u) : ObjOk P w H h a u := e.ok ok
theorem dk_rd {kvs : List (Key × V)} (ok : HOk P w H h) (e : Rd H a (.dK kvs)) : kvs.length ≤ sizeLine ∧ (a == sysModules) = false ∧ ∃ vs, KV kvs vs ∧ h.DictOf (mixKind P w) a vs :=
 show ObjOk P w H h a (.dK kvs) from rd_of ok e
theorem dk_of {kvs : List (Key × V)} (ok : HOk P w H h) (e : H a = some (.dK kvs)) : kvs.length ≤ sizeLine ∧ (a == sysModules) = false ∧ ∃ vs, KV kvs vs ∧ h.DictOf (mixKind P w) a vs := dk_rd ok (.inl e)
theorem key_of {ks : List Key} (ok : HOk P w H h) (e : H a = some (.tup (ks.map kV))) : (tupleKind (mixKind P w)).is h ks a := by
 obtain ⟨_, its, r, o, h1, h2, n, h3⟩ := (show ObjOk P w H h a (.tup (ks.map kV)) from ok a _ e)
 exact ⟨o, its.toArray, n, h1, h2, h3, by simpa using items_are r⟩
theorem dt_rd {kvs : List (List Key × V)} (ok : HOk P w H h) (e : Rd H a (.dT kvs)) : kvs.length ≤ sizeLine ∧ (a == sysModules) = false ∧
  ∃ xs, KT H kvs xs ∧ h.DictOfH (tupleKind (mixKind P w)) a xs := by
 obtain ⟨z, y, xs, r, o, es, ep, h1, h2, h3, h4, h5⟩ := (show ObjOk P w H h a (.dT kvs) from rd_of ok e)
 refine ⟨z, y, xs, r, o, es, ep, h1, h2, h3, h4, fun x hx => ?_, h5⟩
 have all : ∀ {l : List (List Key × V)} {m : List (List Key × Addr × Value)}, KT H l m → ∀ x ∈ m, (tupleKind (mixKind P w)).is h x.1 x.2.1 := by
  intro l m q
  induction q with
  | nil => intro x hx; exact nomatch hx
  | @cons p q ps qs hq t ih =>
   intro x hx
   rcases List.mem_cons.mp hx with e | hx
   ·subst e
    exact key_of ok (by rw [← hq.1]; exact hq.2.1)
   ·exact ih x hx
 exact all r x hx
theorem dt_of {kvs : List (List Key × V)} (ok : HOk P w H h) (e : H a = some (.dT kvs)) : kvs.length ≤ sizeLine ∧ (a == sysModules) = false ∧
  ∃ xs, KT H kvs xs ∧ h.DictOfH (tupleKind (mixKind P w)) a xs := dt_rd ok (.inl e)
end
noncomputable def DGet (H : Hp) (a : Addr) (y : V) (r : Option V) : Prop :=
 (∃ kvs k, Rd H a (.dK kvs) ∧ y = kV k ∧ r = valV kvs k) ∨ ∃ kvs k b, Rd H a (.dT kvs) ∧ y = .ref b ∧ H b = some (.tup (k.map kV)) ∧ r = valV kvs k
noncomputable def DPut (H : Hp) (a : Addr) (y v : V) (H' : Hp) : Prop :=
 (∃ kvs k, H a = some (.dK kvs) ∧ y = kV k ∧ kvs.length < sizeLine ∧ H' = upd H a (.dK (putK kvs k v))) ∨
 ∃ kvs k b, H a = some (.dT kvs) ∧ y = .ref b ∧ H b = some (.tup (k.map kV)) ∧ kvs.length < sizeLine ∧ H' = upd H a (.dT (putK kvs k v))
theorem DGet.k {H : Hp} {a : Addr} {kvs : List (Key × V)} {k : Key} (e : H a = some (.dK kvs)) : DGet H a (kV k) (valV kvs k) := .inl ⟨kvs, k, .inl e, rfl, rfl⟩
theorem DGet.t {H : Hp} {a b : Addr} {kvs : List (List Key × V)} {k : List Key} (e : H a = some (.dT kvs)) (eb : H b = some (.tup (k.map kV))) : DGet H a (.ref b) (valV kvs k) := .inr ⟨kvs, k, b, .inl e, rfl, eb, rfl⟩
theorem DPut.k {H : Hp} {a : Addr} {kvs : List (Key × V)} {k : Key} {v : V} (e : H a = some (.dK kvs)) (hl : kvs.length < sizeLine) : DPut H a (kV k) v (upd H a (.dK (putK kvs k v))) := .inl ⟨kvs, k, e, rfl, hl, rfl⟩
theorem DPut.t {H : Hp} {a b : Addr} {kvs : List (List Key × V)} {k : List Key} {v : V} (e : H a = some (.dT kvs)) (eb : H b = some (.tup (k.map kV))) (hl : kvs.length < sizeLine) :
  DPut H a (.ref b) v (upd H a (.dT (putK kvs k v))) := .inr ⟨kvs, k, b, e, rfl, eb, hl, rfl⟩
section
variable {X : Cx} {pins : List (Addr × Obj)} {σ : St} {H : Hp} {s : Shared} {a : Addr} {y v : V} {u r : Value} {o : Option V} {A : Around} {E : Value → Shared → Prop}
theorem Inv.big (I : Inv X pins σ H s) : sysModules < s.heap.objs.size := by
 have h : mainGlobals < s.heap.objs.size := (I.mod.glob.keeps I.bk).lt
 exact Nat.lt_trans (by decide) h
theorem d_getItem {Q : Value → Shared → Prop} (hu : A.units + 1 < cLine) (I : Inv X pins σ H s) (g : DGet H a y (some v)) (ry : RelV y u) (h : ∀ w' s', Inv X pins σ H s' → RelV v w' → Q w' s') :
  wpAny (model X.prog X.w) A (getItem (.ref a) u) Q E s := by
 rcases g with ⟨kvs, k, e, ey, l⟩ | ⟨kvs, k, b, e, ey, eb, l⟩
 ·subst ey
  obtain ⟨z, hd, vs, rel, dd⟩ := dk_rd I.hok e
  obtain ⟨w', hw, rw'⟩ := RelO.some_of (v := v) (o := valueAt vs k) (by rw [l]; exact rel.val k)
  exact wpAny_getItem_of (kV_is ry) dd.mapOf hw (h w' _ (I.tok _) rw')
 ·subst ey
  cases (show u = Value.ref b from ry)
  obtain ⟨z, hd, xs, rel, dd⟩ := dt_rd I.hok e
  obtain ⟨w', hw, rw'⟩ := RelO.some_of (v := v) (o := (atKey xs k).map (·.2)) (by rw [l]; exact rel.val k)
  obtain ⟨p, hp, hp2⟩ := Option.map_eq_some_iff.mp hw
  refine wpAny_getItem_heap (tupleKind_room_in1 hu) (key_of I.hok eb) dd hp ?_
  rw [hp2]
  exact h w' _ (I.tok _) rw'
theorem d_in {Q : Value → Shared → Prop} (hu : A.units + 1 < cLine) (I : Inv X pins σ H s) (g : DGet H a y o) (ry : RelV y u) (h : ∀ s', Inv X pins σ H s' → Q (.bool o.isSome) s') :
  wpAny (model X.prog X.w) A (compareOp .In u (.ref a)) Q E s := by
 rcases g with ⟨kvs, k, e, ey, l⟩ | ⟨kvs, k, b, e, ey, eb, l⟩
 ·subst ey
  obtain ⟨z, hd, vs, rel, dd⟩ := dk_rd I.hok e
  refine wpAny_in_of (kV_is ry) hd dd.mapOf ?_
  rw [← (rel.val k).isSome_eq, ← l]
  exact h _ (I.tok _)
 ·subst ey
  cases (show u = Value.ref b from ry)
  obtain ⟨z, hd, xs, rel, dd⟩ := dt_rd I.hok e
  refine wpAny_in_heap (tupleKind_room_in1 hu) (key_of I.hok eb) hd dd ?_
  have q := (rel.val k).isSome_eq
  rw [Option.isSome_map] at q
  rw [← q, ← l]
  exact h _ (I.tok _)
theorem d_notIn {Q : Value → Shared → Prop} (hu : A.units + 1 < cLine) (I : Inv X pins σ H s) (g : DGet H a y o) (ry : RelV y u) (h : ∀ s', Inv X pins σ H s' → Q (.bool (!o.isSome)) s') :
  wpAny (model X.prog X.w) A (compareOp .NotIn u (.ref a)) Q E s := by
 rcases g with ⟨kvs, k, e, ey, l⟩ | ⟨kvs, k, b, e, ey, eb, l⟩
 ·subst ey
  obtain ⟨z, hd, vs, rel, dd⟩ := dk_rd I.hok e
  refine wpAny_notIn_of (kV_is ry) hd dd.mapOf ?_
  rw [← (rel.val k).isSome_eq, ← l]
  exact h _ (I.tok _)
 ·subst ey
  cases (show u = Value.ref b from ry)
  obtain ⟨z, hd, xs, rel, dd⟩ := dt_rd I.hok e
  refine wpAny_notIn_heap (tupleKind_room_in1 hu) (key_of I.hok eb) hd dd ?_
  have q := (rel.val k).isSome_eq
  rw [Option.isSome_map] at q
  rw [← q, ← l]
  exact h _ (I.tok _)
theorem d_write {h' : Heap} {t' : Nat} {ob : HO} (I : Inv X pins σ H s) (mu : Mut (H a)) (hs : Heap.SameBut a s.heap h') (he : ∃ q, h'.get? a = some q) (new : ObjOk X.prog X.w (upd H a ob) h' a ob) :
  Inv X pins σ (upd H a ob) { s with heap := h', toks := t' } :=
 I.write (x := a) (e := a) mu (.inl rfl) (fun b q hb z => (hs.2 b hb).trans z) he new
theorem dk_new {P : Program} {w : World} {H' : Hp} {h' : Heap} {kvs : List (Key × V)} {vs : List (Key × Value)} (z : kvs.length ≤ sizeLine) (hd : (a == sysModules) = false) (rel : KV kvs vs) (dd : h'.DictOf (mixKind P w) a vs) :
  ObjOk P w H' h' a (.dK kvs) := ⟨z, hd, vs, rel, dd⟩
theorem d_setItem {H' : Hp} {Q : Unit → Shared → Prop} (hu : A.units + 1 < cLine) (I : Inv X pins σ H s) (g : DPut H a y v H') (ry : RelV y u) (rv : RelV v r) (h : ∀ s', Inv X pins σ H' s' → Q () s') :
  wpAny (model X.prog X.w) A (setItem (.ref a) u r) Q E s := by
 rcases g with ⟨kvs, k, e, ey, l, eH⟩ | ⟨kvs, k, b, e, ey, eb, l, eH⟩
 ·subst ey eH
  obtain ⟨z, hd, vs, rel, dd⟩ := dk_of I.hok e
  have hz : vs.length ≤ sizeLine := by rw [← rel.length]; exact z
  have hl : (putK kvs k v).length ≤ sizeLine := by have := length_putK kvs k v; omega
  refine wpAny_setItem_pairs (hsz := hz) (kV_is ry) dd fun h' dd' hs => h _ ?_
  have he : ∃ q, h'.get? a = some q := let ⟨q, _, _, hq, _⟩ := dd'; ⟨q, hq⟩
  exact d_write I (by rw [e]; exact True.intro) hs he (dk_new hl hd (rel.put k rv) dd')
 ·subst ey eH
  cases (show u = Value.ref b from ry)
  obtain ⟨z, hd, xs, rel, dd⟩ := dt_of I.hok e
  have hz : xs.length ≤ sizeLine := by rw [← Paired.length rel]; exact z
  have hl : (putK kvs k v).length ≤ sizeLine := by have := length_putK kvs k v; omega
  refine wpAny_setItem_heap (hsz := hz) (tupleKind_room_in1 hu) (key_of I.hok eb) dd fun h' dd' hs => h _ ?_
  obtain ⟨q, es, ep, hq, h2, h3, h4, _, h5⟩ := dd'
  refine d_write I (by rw [e]; exact True.intro) hs ⟨q, hq⟩ ⟨hl, hd, _, (rel.put k eb rv).keeps fun c ys ec => ?_, q, es, ep, hq, h2, h3, h4, h5⟩
  rw [upd_ne (ne_of ec e (fun z => nomatch z))]
  exact ec
end
section
variable {X : Cx} {pins : List (Addr × Obj)} {σ : St} {H : Hp} {s : Shared} {a : Addr} {kvs : List (Key × V)} {k : Key} {u : Value} {A : Around} {E : Value → Shared → Prop}
theorem d_len {Q : Value → Shared → Prop} (I : Inv X pins σ H s) (e : Rd H a (.dK kvs)) (h : ∀ t s', Inv X pins σ H s' → Q (.int kvs.length t) s') : wpAny (model X.prog X.w) A (call (.builtin "len") [.ref a]) Q E s := by
 obtain ⟨z, hd, vs, rel, dd⟩ := dk_rd I.hok e
 refine call_len_dict hd dd (by rw [← rel.length]; rw [sizeLine_eq] at z; omega) ?_
 rw [← rel.length]
 exact h _ _ (I.tok _)
end
noncomputable def NoSl (i : Expr) : Prop := ∀ ov iv, subscripted i false ov iv = operate [ov, iv] (getItem ov iv)
theorem subD_of {prog : Program} {w : World} {A : Around} {E : Value → Shared → Prop} {s : Shared} {env : Env} {value slice : Expr} {pos : Pos} {T id : String} {Q : Value → Shared → Prop}
  (hl : typeLookup (.type T) "__getitem__" = pure (some (.builtin id))) (hs : NoSl slice)
  (h : wpAny (model prog w) A (eval value env) (fun o s₁ => wpAny (model prog w) A (eval slice env) (fun i s₂ => s₂.TypeIs o T ∧ wpAny (model prog w) A (getItem o i) Q E s₂) E s₁) E s) :
  wpAny (model prog w) A (eval (.Subscript value slice pos) env) Q E s := by
 refine Subscript_ (wpAny_mono h (fun o s₁ h₁ => wpAny_mono h₁ (fun i s₂ h₂ => ?_) fun _ _ x => x) fun _ _ x => x)
 obtain ⟨hT, h₂⟩ := h₂
 unfold subscriptTail
 refine wpAny_bind ?_
 rw [getitemInPython_of_ne hT.not_modules]
 refine wpAny_bind (wpAny_specialOf hT hl ?_)
 have fin : wpAny (model prog w) A (subscripted slice false o i) (fun r s₃ => wpAny (model prog w) A (letTemporaryGo value o r >>= fun _ => pure r) Q E s₃) E s₂ := by
  rw [hs o i]
  exact wpAny_operating (wpAny_mono h₂ (fun r s₃ h₃ => wpAny_bind (wpAny_letTemporaryGo (wpAny_pure h₃))) fun _ _ x => x)
 first
  | exact wpAny_pure (wpAny_bind fin)
  | exact wpAny_bind (wpAny_pure (wpAny_bind fin))
  | exact wpAny_bind fin
theorem dict_typeIs {X : Cx} {pins : List (Addr × Obj)} {σ : St} {H : Hp} {s : Shared} {a : Addr} {y : V} {o : Option V} (I : Inv X pins σ H s) (g : DGet H a y o) : s.TypeIs (.ref a) "dict" := by
 rcases g with ⟨kvs, k, e, _, _⟩ | ⟨kvs, k, b, e, _, _, _⟩
 ·obtain ⟨_, _, vs, _, dd⟩ := dk_rd I.hok e
  exact dd.typeIs
 ·obtain ⟨_, _, xs, _, dd⟩ := dt_rd I.hok e
  exact dd.typeIs
noncomputable def tDGet (td ty : TE) : TE := fun σ H Q => td σ H fun x H1 => ty σ H1 fun y H2 => ∃ a v, x = .ref a ∧ DGet H2 a y (some v) ∧ Q v H2
noncomputable def tDIn (ty td : TE) : TE := fun σ H Q => ty σ H fun y H1 => td σ H1 fun x H2 => ∃ a o, x = .ref a ∧ DGet H2 a y o ∧ Q (.bl o.isSome) H2
noncomputable def tDNotIn (ty td : TE) : TE := fun σ H Q => ty σ H fun y H1 => td σ H1 fun x H2 => ∃ a o, x = .ref a ∧ DGet H2 a y o ∧ Q (.bl (!o.isSome)) H2
noncomputable def sDPut (td ty tv : TE) : TS := fun D σ H => tv σ H fun v H1 => td σ H1 fun x H2 => ty σ H2 fun y H3 => ∃ a H4, x = .ref a ∧ DPut H3 a y v H4 ∧ D.nx σ H4
section
variable {X : Cx} {o i e value : Expr} {pos pos' tpos : Pos} {td ty tv : TE}
theorem pe_dget (hu : X.A.units + 1 < cLine) (ho : PE X o td) (hi : PE X i ty) (hs : NoSl i) : PE X (.Subscript o i pos) (tDGet td ty) := by
 intro pins s σ H Q I h
 refine subD_of PySem.F.slot_dict_getitem.lookup hs (thn (ho pins s σ H _ I h) fun u s1 ⟨x, H1, I1, rx, q1⟩ => thn (hi pins s1 σ H1 _ I1 q1) fun iv s2 ⟨y, H2, I2, ry, a, v, ex, g, q2⟩ => ?_)
 subst ex
 obtain rfl : u = Value.ref a := rx
 exact ⟨dict_typeIs I2 g, d_getItem hu I2 g ry fun w' s3 I3 rw' => ⟨v, H2, I3, rw', q2⟩⟩
theorem pc_din (hu : X.A.units + 1 < cLine) (hi : PE X i ty) (ho : PE X o td) : PC X .In i o (tDIn ty td) := by
 intro pins s σ H Q I h
 refine thn (hi pins s σ H _ I h) fun iv s1 ⟨y, H1, I1, ry, q1⟩ => thn (ho pins s1 σ H1 _ I1 q1) fun u s2 ⟨x, H2, I2, rx, a, ov, ex, g, q2⟩ => ?_
 subst ex
 obtain rfl : u = Value.ref a := rx
 exact d_in hu I2 g ry fun s3 I3 => ⟨.bl ov.isSome, H2, I3, rfl, q2⟩
theorem pc_dnotin (hu : X.A.units + 1 < cLine) (hi : PE X i ty) (ho : PE X o td) : PC X .NotIn i o (tDNotIn ty td) := by
 intro pins s σ H Q I h
 refine thn (hi pins s σ H _ I h) fun iv s1 ⟨y, H1, I1, ry, q1⟩ => thn (ho pins s1 σ H1 _ I1 q1) fun u s2 ⟨x, H2, I2, rx, a, ov, ex, g, q2⟩ => ?_
 subst ex
 obtain rfl : u = Value.ref a := rx
 exact d_notIn hu I2 g ry fun s3 I3 => ⟨.bl (!ov.isSome), H2, I3, rfl, q2⟩
theorem ps_dput (hu : X.A.units + 1 < cLine) (ho : PE X o td) (hi : PE X i ty) (hv : PE X value tv) (hs : swapsWith value (some (.Subscript o i pos')) pos.line X.env = pure false) :
  PS X (.Assign [.Subscript o i pos'] value pos) (sDPut td ty tv) := by
 intro pins s σ H D I h
 refine wpAny_Assign_Subscript (thn (hv pins s σ H _ I h) fun r s1 ⟨v, H1, I1, rv, q1⟩ => thn (ho pins s1 σ H1 _ I1 q1) fun u s2 ⟨x, H2, I2, rx, q2⟩ => thn (hi pins s2 σ H2 _ I2 q2) fun iv s3 ⟨y, H3, I3, ry, a, H4, ex, g, q3⟩ => ?_) hs
 subst ex
 obtain rfl : u = Value.ref a := rx
 exact d_setItem hu I3 g ry rv fun s4 I4 => ⟨σ, H4, I4, q3⟩
end
theorem dk_empty {P : Program} {w : World} {H : Hp} (h : Heap) (hb : sysModules < h.objs.size) : ObjOk P w H (h.push { cls := .type "dict", data := .dict #[] }) h.objs.size (.dK []) :=
 ⟨Nat.zero_le _, beq_eq_false_iff_ne.mpr (Ne.symm (Nat.ne_of_lt hb)), [], .nil, Heap.DictOf.new h⟩
theorem dt_empty {P : Program} {w : World} {H : Hp} (h : Heap) (hb : sysModules < h.objs.size) : ObjOk P w H (h.push { cls := .type "dict", data := .dict #[] }) h.objs.size (.dT []) :=
 ⟨Nat.zero_le _, beq_eq_false_iff_ne.mpr (Ne.symm (Nat.ne_of_lt hb)), [], .nil, _, #[], 0, Heap.get?_push_size _ rfl, ⟨rfl, rfl, rfl⟩, rfl, rfl, List.nodup_nil⟩
noncomputable def tDNewK : TE := fun _ H Q => ∀ p, H p = none → Q (.ref p) (upd H p (.dK []))
noncomputable def tDNewT : TE := fun _ H Q => ∀ p, H p = none → Q (.ref p) (upd H p (.dT []))
section
variable {X : Cx} {pos : Pos}
theorem pe_dnewK : PE X (.Dict [] [] pos) tDNewK := fun pins s σ H Q I h =>
 wpAny_Dict_empty ⟨.ref s.heap.objs.size, _, I.laid (a := s.heap.objs.size) (o := .dK []) (t' := s.toks) (fun _ _ q => Heap.get?_push_of_some _ q) (Nat.le_refl _) (dk_empty s.heap I.big), rfl, h _ (I.hok.fresh (Nat.le_refl _))⟩
theorem pe_dnewT : PE X (.Dict [] [] pos) tDNewT := fun pins s σ H Q I h =>
 wpAny_Dict_empty ⟨.ref s.heap.objs.size, _, I.laid (a := s.heap.objs.size) (o := .dT []) (t' := s.toks) (fun _ _ q => Heap.get?_push_of_some _ q) (Nat.le_refl _) (dt_empty s.heap I.big), rfl, h _ (I.hok.fresh (Nat.le_refl _))⟩
end
section
variable {X : Cx} {pins : List (Addr × Obj)} {σ : St} {H : Hp} {s : Shared} {a : Addr} {y d : V} {u r : Value} {o : Option V} {A : Around} {E : Value → Shared → Prop}
end
section
variable {X : Cx} {o e f : Expr} {apos cpos : Pos} {td ty tx : TE}
end
section
variable {X : Cx} {pins : List (Addr × Obj)} {σ : St} {H : Hp} {s : Shared} {a : Addr} {kvs : List (Key × V)} {A : Around} {E : Value → Shared → Prop}
end
section
variable {X : Cx} {pins : List (Addr × Obj)} {σ : St} {H : Hp} {s : Shared} {a : Addr} {y : V} {u : Value} {A : Around} {E : Value → Shared → Prop}
end
end L2
namespace L2
open PySem PySem.Spec PyProof.Rows
section
variable {X : Cx}
theorem call_lenD : CallR X (.builtin "len") (fun xs H Q => ∃ a kvs, xs = [V.ref a] ∧ H a = some (.dK kvs) ∧ Q (.int kvs.length) H) := by
 intro pins s σ H xs us Q I r h
 obtain ⟨a, kvs, rfl, ha, q⟩ := h
 obtain ⟨u, rfl, ru⟩ := vals1 r
 cases ru
 exact d_len I (.inl ha) fun t s' I' => ⟨.int kvs.length, H, I', ⟨t, rfl⟩, q⟩
end
section
variable {κ : Type} [DecidableEq κ]
theorem valV_in {kvs : List (κ × V)} {k : κ} {v : V} (h : valV kvs k = some v) : k ∈ kvs.map (·.1) := by
 have q : (kvs.any fun kv => decide (kv.1 = k)) = true := by
  rw [valV_any, h]
  all_goals rfl
 obtain ⟨p, hp, e⟩ := List.any_eq_true.mp q
 exact List.mem_map.mpr ⟨p, hp, of_decide_eq_true e⟩
theorem nd_snoc : ∀ {l : List κ} {k : κ}, l.Nodup → ¬ k ∈ l → (l ++ [k]).Nodup
 | [], k, _, _ => by simp
 | a :: r, k, h, hk => by
  obtain ⟨h1, h2⟩ := List.nodup_cons.mp h
  show (a :: (r ++ [k])).Nodup
  refine List.nodup_cons.mpr ⟨fun m => ?_, nd_snoc h2 fun m => hk (List.mem_cons.mpr (Or.inr m))⟩
  rcases List.mem_append.mp m with q | q
  ·exact h1 q
  ·exact hk (List.mem_cons.mpr (Or.inl (List.mem_singleton.mp q).symm))
end
end L2
set_option maxHeartbeats 4000000
namespace L2
open PySem PySem.Spec PyProof.Rows
section
variable {X : Cx} {tg : Expr}
end
theorem lookup_relabel_vis {env : Env} : ∀ {names : List (Str × NameKind)} {x : Str} {k' : NameKind},
  (names.map fun (n, k) => if (k == NameKind.free && env.scope.kind == .function && env.kindOf n == some .cell) then (n, NameKind.cell) else (n, k)).lookup x = some k' →
  ∃ k, names.lookup x = some k ∧ (k' = k ∨ (k = .free ∧ k' = .cell))
 | [], _, _, h => by simp at h
 | (n, k) :: r, x, k', h => by
  have ih := @lookup_relabel_vis env r x k'
  change List.lookup x ((if (k == NameKind.free && env.scope.kind == .function && env.kindOf n == some .cell) = true then (n, NameKind.cell) else (n, k)) :: _) = _ at h
  cases hx : x == n with
  | true =>
   by_cases hc : (k == NameKind.free && env.scope.kind == .function && env.kindOf n == some .cell) = true
   ·rw [if_pos hc] at h
    simp only [List.lookup_cons, hx] at h
    cases h
    have hk : k = .free := by
     have := (Bool.and_eq_true _ _ ▸ (Bool.and_eq_true _ _ ▸ hc).1).1
     cases k <;> first | rfl | (exact absurd this (by decide))
    exact ⟨k, by simp [List.lookup_cons, hx], .inr ⟨hk, rfl⟩⟩
   ·rw [if_neg hc] at h
    simp only [List.lookup_cons, hx] at h
    cases h
    exact ⟨k, by simp [List.lookup_cons, hx], .inl rfl⟩
  | false =>
   have h2 : ∃ k, r.lookup x = some k ∧ (k' = k ∨ (k = .free ∧ k' = .cell)) := by
    by_cases hc : (k == NameKind.free && env.scope.kind == .function && env.kindOf n == some .cell) = true
    ·rw [if_pos hc] at h
     simp only [List.lookup_cons, hx] at h
     exact ih h
    ·rw [if_neg hc] at h
     simp only [List.lookup_cons, hx] at h
     exact ih h
   obtain ⟨k2, e2, r2⟩ := h2
   exact ⟨k2, by simp [List.lookup_cons, hx, e2], r2⟩
noncomputable def closeL (names : List (Str × NameKind)) (cells : List (Str × Addr)) (acc : List (Str × Addr)) : List (Str × Addr) :=
 names.foldl (fun a x => if x.2 == .free then (match cells.lookup x.1 with | some c => (x.1, c) :: a | none => a) else a) acc
theorem closure_eq {scope : Scope} {env : Env} (h : ∀ x ∈ scope.names, x.2 = .free → ∃ c, env.cells.lookup x.1 = some c) : closureFor scope env = pure (closeL scope.names env.cells []) := by
 have all : ∀ (l : List (Str × NameKind)) (acc : List (Str × Addr)), (∀ x ∈ l, x.2 = .free → ∃ c, env.cells.lookup x.1 = some c) →
   (forIn l acc fun (x : Str × NameKind) (cs : List (Str × Addr)) => (if x.2 == .free then (do let c ← cellOf env x.1; pure (ForInStep.yield ((x.1, c) :: cs))) else pure (ForInStep.yield cs) : Sem _)) = pure (closeL l env.cells acc) := by
  intro l
  induction l with
  | nil => intro acc _; rfl
  | cons x r ih =>
   intro acc hl
   rw [List.forIn_cons]
   have hr : ∀ y ∈ r, y.2 = .free → ∃ c, env.cells.lookup y.1 = some c := fun y hy => hl y (List.mem_cons_of_mem _ hy)
   cases hk : x.2 == .free with
   | true =>
    have hkk : x.2 = .free := by
     revert hk
     cases x.2 <;> intro hk <;> first | rfl | (exact absurd hk (by decide))
    obtain ⟨c, hc⟩ := hl x List.mem_cons_self hkk
    simp only [if_true, cellOf, hc]
    rw [show closeL (x :: r) env.cells acc = closeL r env.cells ((x.1, c) :: acc) by unfold closeL; rw [List.foldl_cons]; simp [hk, hc]]
    exact ih _ hr
   | false =>
    simp only [Bool.false_eq_true, if_false]
    rw [show closeL (x :: r) env.cells acc = closeL r env.cells acc by unfold closeL; rw [List.foldl_cons]; simp [hk]]
    exact ih _ hr
 have q := all scope.names [] h
 simp only [closureFor]
 exact (congrArg (· >>= fun r => pure r) q).trans rfl
end L2
namespace L2
open PySem PySem.Spec PyProof.Rows
theorem closeL_sub : ∀ (names : List (Str × NameKind)) (cells acc : List (Str × Addr)), (∀ x c, (x, c) ∈ acc → cells.lookup x = some c) → ∀ x c, (x, c) ∈ closeL names cells acc → cells.lookup x = some c
 | [], _, _, h => h
 | y :: r, cells, acc, h => by
  have e : closeL (y :: r) cells acc = closeL r cells (if y.2 == .free then (match cells.lookup y.1 with | some c => (y.1, c) :: acc | none => acc) else acc) := rfl
  rw [e]
  refine closeL_sub r cells _ ?_
  cases hk : y.2 == .free with
  | false => simpa using h
  | true =>
   cases hc : cells.lookup y.1 with
   | none => simpa using h
   | some c =>
    intro x d hx
    simp only [if_true] at hx
    rcases List.mem_cons.mp hx with e | hx
    ·cases e; exact hc
    ·exact h x d hx
theorem closeL_keep : ∀ (names : List (Str × NameKind)) (cells acc : List (Str × Addr)) (x : Str) (c : Addr), (x, c) ∈ acc → (x, c) ∈ closeL names cells acc
 | [], _, _, _, _, h => h
 | y :: r, cells, acc, x, c, h => by
  have e : closeL (y :: r) cells acc = closeL r cells (if y.2 == .free then (match cells.lookup y.1 with | some c => (y.1, c) :: acc | none => acc) else acc) := rfl
  rw [e]
  refine closeL_keep r cells _ x c ?_
  cases hk : y.2 == .free with
  | false => simpa using h
  | true =>
   cases hc : cells.lookup y.1 with
   | none => simpa using h
   | some d => simp only [if_true]; exact List.mem_cons_of_mem _ h
theorem closeL_has : ∀ (names : List (Str × NameKind)) (cells acc : List (Str × Addr)) (x : Str) (c : Addr), (x, NameKind.free) ∈ names → cells.lookup x = some c → (x, c) ∈ closeL names cells acc
 | [], _, _, _, _, h, _ => by cases h
 | y :: r, cells, acc, x, c, h, hc => by
  have e : closeL (y :: r) cells acc = closeL r cells (if y.2 == .free then (match cells.lookup y.1 with | some c => (y.1, c) :: acc | none => acc) else acc) := rfl
  rw [e]
  rcases List.mem_cons.mp h with e2 | h
  ·subst e2
   refine closeL_keep r cells _ x c ?_
   have : (NameKind.free == NameKind.free) = true := rfl
   simp only [hc, this, if_true]
   exact List.mem_cons_self
  ·exact closeL_has r cells _ x c h hc
theorem lookup_of_mem_some {α : Type} : ∀ {l : List (Str × α)} {x : Str} {c : α}, (x, c) ∈ l → ∃ d, l.lookup x = some d
 | [], _, _, h => by cases h
 | (n, d) :: r, x, c, h => by
  cases hx : x == n with
  | true => exact ⟨d, by simp [List.lookup_cons, hx]⟩
  | false =>
   rcases List.mem_cons.mp h with e | h
   ·cases e; simp at hx
   ·obtain ⟨d', e⟩ := lookup_of_mem_some h
    exact ⟨d', by simp [List.lookup_cons, hx, e]⟩
section
variable {prog : Program} {w : World} {A : Around} {R : Result → Shared → Prop} {s : Shared}
theorem codeAny_compLoop_gen {elt target iter : Expr} {ifs : List Expr} {scope : Scope} {pos : Pos} {it acc : Value} {env : Env} (I : Nat → Shared → Prop)
  (turn : ∀ n s, I n s → wpAny (model prog w) A (pyNext it) (fun r s₁ => match r with
   | none => R (.ok .next) s₁
   | some v => wpAny (model prog w) A (letOwnedTupleGo target it v) (fun _ s₁' => wpAny (model prog w) A (assign target env v) (fun _ s₂ =>
     wpAny (model prog w) A (forIn ifs true fun c r => if r = true then do let ok ← isTrue c env (eval c env); pure (ForInStep.yield ok) else pure (ForInStep.yield r)) (fun ok s₃ =>
      if ok = true then wpAny (model prog w) A (eval elt env) (fun x s₄ =>
       wpAny (model prog w) A (call (.builtin "list.append") [acc, x]) (fun _ s₅ => ∃ m, m < n ∧ I m s₅) (notedBy (model prog w) A env fun e s' => R (.error e) s') s₄) (notedBy (model prog w) A env fun e s' => R (.error e) s') s₃
      else ∃ m, m < n ∧ I m s₃) (notedBy (model prog w) A env fun e s' => R (.error e) s') s₂) (notedBy (model prog w) A env fun e s' => R (.error e) s') s₁') (notedBy (model prog w) A env fun e s' => R (.error e) s') s₁) (notedBy (model prog w) A env fun e s' => R (.error e) s') s)
  (n : Nat) (h : I n s) :
  codeAny (model prog w) A (.compLoop (.ListComp elt [⟨target, iter, ifs, 0⟩] scope pos) 0 it acc env) R s := by
 refine codeAny_loop rfl I (fun n s hI => ?_) n h
 show wpAny _ A ((compTurn (.ListComp elt [⟨target, iter, ifs, 0⟩] scope pos) 0 it acc env).onRaise (fun x => do noteFrame x env; theTreesLotGoes x)) _ _ s
 refine wpAny_noted ?_
 rw [compTurn_list]
 refine wpAny_bind (wpAny_standAt (wpAny_bind (wpAny_mono (turn n s hI) (fun r s₁ h₁ => ?_) fun _ _ h' => h')))
 cases r with
 | none => exact wpAny_pure h₁
 | some v =>
  refine wpAny_bind (wpAny_mono h₁ (fun _ s₁' h₁' => ?_) fun _ _ h' => h')
  refine wpAny_bind (wpAny_mono h₁' (fun _ s₂ h₂ => wpAny_bind (wpAny_mono h₂ (fun ok s₃ h₃ => ?_) fun _ _ h' => h')) fun _ _ h' => h')
  cases ok with
  | false => exact wpAny_pure ⟨rfl, h₃⟩
  | true =>
   exact wpAny_bind (wpAny_bind (wpAny_mono h₃ (fun x s₄ h₄ => wpAny_bind (wpAny_mono h₄ (fun _ s₅ h₅ => wpAny_pure (wpAny_pure ⟨rfl, h₅⟩)) fun _ _ h' => h')) fun _ _ h' => h'))
end
noncomputable def PIf (X : Cx) (ifs : List Expr) (t : TT) : Prop :=
 ∀ (pins : List (Addr × Obj)) (s : Shared) (σ : St) (H : Hp) (Q : Bool → Hp → Prop), Inv X pins σ H s → t σ H Q →
  wpAny (model X.prog X.w) X.A (forIn ifs true fun c r => if r = true then do let ok ← isTrue c X.env (eval c X.env); pure (ForInStep.yield ok) else pure (ForInStep.yield r)) (TP X pins σ Q) X.xe s
noncomputable def tYes : TT := fun _ H Q => Q true H
theorem pif_nil {X : Cx} : PIf X [] tYes := fun _ _ _ H _ I h => wpAny_tests_nil ⟨H, I, h⟩
theorem pif_one {X : Cx} {c : Expr} {t : TT} (h : PT X c t) : PIf X [c] t := fun pins s σ H Q I hq => wpAny_tests_one (h pins s σ H Q I hq)
noncomputable def cxComp (X : Cx) (N' : List Str) (scope : Scope) (cl : List (Str × Addr)) (C : Addr) (s₀ : Shared) (H₀ : Hp) (ex : List Addr) : Cx :=
 { prog := X.prog, w := X.w, K := X.K, mg := X.mg, base := X.base, A := X.A, N := N', s₀ := s₀, H₀ := H₀, env := compEnvC scope cl C X.env, outer := X.stack, stack := X.stack, ex := ex, fn := fun _ => false, calm := X.calm, pn := [], xe := fun _ _ => False }
noncomputable def compOk (sc scope : Scope) (N N' : List Str) : Bool :=
 (match scope.kind with | .function => true | _ => false) &&
 scope.names.all (fun y => match y.2 with
  | .cell => false
  | .local => (match scope.names.lookup y.1 with | some .local => true | _ => false)
  | .free => (match sc.names.lookup y.1 with | some .cell => true | some .free => true | _ => false)
  | _ => true) &&
 (List.range N'.length).all fun i => match N'[i]? with
  | none => true
  | some x => match scope.names.lookup x with
   | some .local => decide (N.length ≤ i)
   | some .free => decide (N[i]? = some x)
   | _ => true
structure CompOk (sc scope : Scope) (N N' : List Str) : Prop where
 kind : scope.kind = .function
 cell : ∀ y ∈ scope.names, y.2 ≠ .cell
 names : ∀ y ∈ scope.names, y.2 = .local → scope.names.lookup y.1 = some .local
 free : ∀ y ∈ scope.names, y.2 = .free → sc.names.lookup y.1 = some .cell ∨ sc.names.lookup y.1 = some .free
 own : ∀ (i : Nat) x, N'[i]? = some x → scope.names.lookup x = some .local → N.length ≤ i
 out : ∀ (i : Nat) x, N'[i]? = some x → scope.names.lookup x = some .free → N[i]? = some x
theorem CompOk.of {sc scope : Scope} {N N' : List Str} (h : compOk sc scope N N' = true) : CompOk sc scope N N' := by
 unfold compOk at h
 rw [Bool.and_eq_true, Bool.and_eq_true] at h
 obtain ⟨⟨h1, h2⟩, h3⟩ := h
 have h2' := List.all_eq_true.mp h2
 have h3' := List.all_eq_true.mp h3
 refine ⟨?_, fun y hy e => ?_, fun y hy e => ?_, fun y hy e => ?_, fun i x hi e => ?_, fun i x hi e => ?_⟩
 ·revert h1; cases scope.kind <;> intro h1 <;> first | rfl | cases h1
 ·have q := h2' y hy
  rw [e] at q
  cases q
 ·have q := h2' y hy
  rw [e] at q
  simp only at q
  split at q
  ·assumption
  ·cases q
 ·have q := h2' y hy
  rw [e] at q
  simp only at q
  split at q
  ·exact .inl (by assumption)
  ·exact .inr (by assumption)
  ·cases q
 ·have q := h3' i (List.mem_range.mpr (List.getElem?_eq_some_iff.mp hi).1)
  rw [hi] at q
  simp only [e] at q
  exact of_decide_eq_true q
 ·have q := h3' i (List.mem_range.mpr (List.getElem?_eq_some_iff.mp hi).1)
  rw [hi] at q
  simp only [e] at q
  exact of_decide_eq_true q
section
variable {X : Cx} {pins : List (Addr × Obj)} {σ : St} {H : Hp} {s : Shared}
theorem inv_comp {N' : List Str} {scope : Scope} {n : Nat} {fp : List Addr} {h₁ : Heap} {t' : Nat} {m : Str → Option Value} (I : Inv X pins σ H s) (ck : CompOk X.env.scope scope X.N N') (hl : N'.length = X.N.length + n)
  (hns : h₁.Ns s.heap.objs.size m) (old : ∀ b o, s.heap.get? b = some o → h₁.get? b = some o) (hfp : ∀ b ∈ fp, FpOk X pins H b ∧ b < s.heap.objs.size) :
  Inv (cxComp X N' scope (closeL scope.names X.env.cells []) s.heap.objs.size s H fp) [] (σ ++ List.replicate n none) H { s with heap := h₁, toks := t' } := by
 have sub : ∀ x c, (closeL scope.names X.env.cells []).lookup x = some c → X.env.cells.lookup x = some c := fun x c e => closeL_sub _ _ _ (fun _ _ z => by simp at z) x c (PySem.mem_of_lookup e)
 have fre : H s.heap.objs.size = none := I.hok.fresh (Nat.le_refl _)
 have ok' : (cxComp X N' scope (closeL scope.names X.env.cells []) s.heap.objs.size s H fp).Ok := by
  refine ⟨I.ok.mod, ck.kind, I.ok.glob, I.ok.blt, Nat.le_refl _, fun x y c e1 e2 => I.ok.inj x y c (sub x c e1) (sub y c e2), fun x hx => ?_, fun x c hf _ => ?_, I.ok.hd, I.ok.frames, .inl rfl, fun b hb => ⟨Nat.ne_of_lt (hfp b hb).2, fun x c e => (hfp b hb).1.2.2.2.2.1 x c (sub x c e)⟩,
   I.bs, Nat.le_trans I.ok.bsz I.sz, fun b o e hb => ?_, fun b hb hf => ?_, I.stack, I.stkFree⟩
  ·have hx' : (relabel scope X.env).names.lookup x = some .cell ∨ (relabel scope X.env).names.lookup x = some .free := hx
   have : ∃ k, scope.names.lookup x = some k ∧ k = .free := by
    rcases hx' with z | z
    ·obtain ⟨k, e, r⟩ := lookup_relabel_vis z
     rcases r with r | ⟨r, _⟩
     ·exact absurd (r.symm ▸ rfl : k = .cell) (ck.cell (x, k) (PySem.mem_of_lookup e))
     ·exact ⟨k, e, r⟩
    ·obtain ⟨k, e, r⟩ := lookup_relabel_vis z
     rcases r with r | ⟨r, _⟩
     ·exact ⟨k, e, r.symm⟩
     ·exact ⟨k, e, r⟩
   obtain ⟨k, e, rfl⟩ := this
   have hm := PySem.mem_of_lookup e
   obtain ⟨c, hc⟩ := I.ok.has x (ck.free _ hm rfl)
   exact lookup_of_mem_some (closeL_has scope.names X.env.cells [] x c hm hc)
  ·cases hf
  ·have := (hfp b hb).1.2.2.2.1
   rcases this with z | z
   ·exact I.ok.noex b o e z
   ·exact absurd (Nat.lt_of_lt_of_le (Heap.lt_size e) (Nat.le_trans I.ok.bsz z)) (Nat.lt_irrefl _)
  ·rcases List.mem_cons.mp (I.stkSub b hf) with z | z
   ·exact (hfp b hb).1.2.1 z
   ·exact (hfp b hb).1.2.2.1 z
 refine ⟨ok', rfl, I.bare, Un.kept old, ⟨m, hns, fun i x v e1 e2 e3 => ?_⟩, fun x c e => ?_, fre, fun x c e => I.freeC x c (sub x c e), fun p hp => absurd hp (by simp [cxComp]), I.hok.kept old, ?_⟩
 ·have hi : i < σ.length := by
   by_cases hi : i < σ.length
   ·exact hi
   ·rw [List.getElem?_append_right (by omega), List.getElem?_replicate] at e2
    split at e2 <;> cases e2
  rw [List.getElem?_append_left hi] at e2
  have e1' : N'[i]? = some x := e1
  have vis : ∃ k', (relabel scope X.env).names.lookup x = some k' ∧ (k' = .local ∨ k' = .cell ∨ k' = .free) := by
   rcases e3 with z | z | z
   ·exact ⟨_, z, .inl rfl⟩
   ·exact ⟨_, z, .inr (.inl rfl)⟩
   ·exact ⟨_, z, .inr (.inr rfl)⟩
  obtain ⟨k', ek', hk'⟩ := vis
  obtain ⟨k, ek, r⟩ := lookup_relabel_vis ek'
  have kf : k = .free := by
   rcases r with r | ⟨r, _⟩
   ·subst r
    rcases hk' with z | z | z
    ·subst z
     have := ck.own i x e1' ek
     rw [I.len] at hi
     omega
    ·subst z
     exact absurd rfl (ck.cell _ (PySem.mem_of_lookup ek))
    ·exact z
   ·exact r
  subst kf
  have hm := PySem.mem_of_lookup ek
  have hxN := ck.out i x e1' ek
  obtain ⟨m0, hn0, hl0⟩ := I.loc
  have kx := ck.free _ hm rfl
  obtain ⟨u, ru, lk⟩ := hl0 i x v hxN e2 (by rcases kx with z | z; exact .inr (.inl z); exact .inr (.inr z))
  refine ⟨u, ru, .inr ⟨?_, ?_⟩⟩
  ·rcases r with r | ⟨_, r⟩
   ·subst r
    exact .inr ek'
   ·subst r
    exact .inl ek'
  ·rcases lk with ⟨k1, _⟩ | ⟨_, c, hc, hcell⟩
   ·have k1' : X.env.scope.names.lookup x = some .local := k1
    rcases kx with z | z
    ·rw [k1'] at z; cases z
    ·rw [k1'] at z; cases z
   ·have hin := closeL_has scope.names X.env.cells [] x c hm hc
    obtain ⟨d, hd⟩ := lookup_of_mem_some hin
    have : d = c := Option.some.inj ((sub x d hd).symm.trans hc)
    subst this
    obtain ⟨o, ho, hdat⟩ := hcell
    exact ⟨d, hd, o, old _ _ ho, hdat⟩
 ·obtain ⟨v, o, ho, hdat⟩ := I.cell x c (sub x c e)
  exact ⟨v, o, old _ _ ho, hdat⟩
 ·rw [List.length_append, List.length_replicate, I.len]
  exact hl.symm
end
noncomputable def tComp (n : Nat) (wi : TI) (g : TG) (tc : TT) (te : TE) : TE := fun σ H Q => wi σ H fun J H1 => ∀ D, H1 D = none → ∃ W : Nat → Nat → St → Hp → Prop, (∃ m, W 0 m (σ ++ List.replicate n none) (upd H1 D (.lst []))) ∧ ∀ i m σ' H', W i m σ' H' →
 (J.stop i H' ∧ Q (.ref D) H') ∨ (J.go i H' ∧ ∃ N : St → Hp → Prop, (∀ σ' H', N σ' H' → ∃ m', m' < m ∧ W (i + 1) m' σ' H') ∧ ∀ x H2, J.yld i H' x H2 → g x σ' H2 fun σ2 H3 => tc σ2 H3 fun b H4 =>
  if b = true then te σ2 H4 fun v H5 => ∃ ys, H5 D = some (.lst ys) ∧ ys.length < sizeLine ∧ N σ2 (upd H5 D (.lst (ys ++ [v]))) else N σ2 H4)
theorem thnF {α : Type} {t : Sem α} {Q Q' : α → Shared → Prop} {M : Model} {A : Around} {E : Value → Shared → Prop} {s : Shared} (h : wpAny M A t Q (fun _ _ => False) s) (hQ : ∀ a s, Q a s → Q' a s) : wpAny M A t Q' E s := wpAny_mono h hQ fun _ _ z => z.elim
section
variable {X : Cx} {elt tg iter : Expr} {ifs : List Expr} {scope : Scope} {pos : Pos} {N' : List Str} {n : Nat} {wi : TI} {g : TG} {tc : TT} {te : TE}
theorem comp_core {pins : List (Addr × Obj)} {σ : St} {H2 : Hp} {s2 : Shared} {E : Value → Shared → Prop} {RR : Value → Addr → Result → Shared → Prop} {it : Addr} {fp : List Addr} {tn : Nat → Heap → Prop} {J : It} {Q : VK}
  (hc : X.calm = true) (ck : CompOk X.env.scope scope X.N N') (hl : N'.length = X.N.length + n)
  (hg : ∀ cl C s₀ H₀ ex, PG (cxComp X N' scope cl C s₀ H₀ ex) tg g) (hif : ∀ cl C s₀ H₀ ex, PIf (cxComp X N' scope cl C s₀ H₀ ex) ifs tc) (he : ∀ cl C s₀ H₀ ex, PE (cxComp X N' scope cl C s₀ H₀ ex) elt te)
  (I2 : Inv X pins σ H2 s2) (T : Turn X.prog X.w X.K tg J fp it tn) (st2 : tn 0 s2.heap) (f2 : ∀ b ∈ fp, FpOk X pins H2 b)
  (q : ∀ D, H2 D = none → ∃ W : Nat → Nat → St → Hp → Prop, (∃ m, W 0 m (σ ++ List.replicate n none) (upd H2 D (.lst []))) ∧ ∀ i m σ' H', W i m σ' H' →
   (J.stop i H' ∧ Q (.ref D) H') ∨ (J.go i H' ∧ ∃ N : St → Hp → Prop, (∀ σ' H', N σ' H' → ∃ m', m' < m ∧ W (i + 1) m' σ' H') ∧ ∀ x H2, J.yld i H' x H2 → g x σ' H2 fun σ2 H3 => tc σ2 H3 fun b H4 =>
    if b = true then te σ2 H4 fun v H5 => ∃ ys, H5 D = some (.lst ys) ∧ ys.length < sizeLine ∧ N σ2 (upd H5 D (.lst (ys ++ [v]))) else N σ2 H4))
  (hRR : ∀ D C H' s' m, Inv X pins σ H' s' → s'.heap.Ns C m → H' C = none → C ≠ X.env.locals → X.s₀.heap.objs.size ≤ C → (∀ x c, X.env.cells.lookup x = some c → c ≠ C) → (∀ p ∈ X.pn ++ pins, p.1 ≠ C) → Q (.ref D) H' → RR (.ref D) C (.ok .next) s') :
  wpAny (model X.prog X.w) X.A (newList []) (fun acc s₃ => wpAny (model X.prog X.w) X.A (newFunctionEnv scope X.env.globals (closeL scope.names X.env.cells []) [] X.env.qual none .none (some X.env)) (fun cenv s₄ =>
   codeAny (model X.prog X.w) X.A (.compStart (.ListComp elt [⟨tg, iter, ifs, 0⟩] scope pos) 0 (.ref it) acc { cenv with scope := relabel scope X.env }) (RR acc cenv.locals) s₄) E s₃) E s2 := by
 refine wpAny_newObj_type (wpAny_newFunctionEnv ck.cell (by intro y hy; simp at hy) (fun h₁ hns₁ hsb₁ => ?_) ck.kind) (by show (0 : Nat) ≤ sizeLine; exact Nat.zero_le _)
 have hD : H2 s2.heap.objs.size = none := I2.hok.fresh (Nat.le_refl _)
 obtain ⟨W, ⟨m0, w0⟩, turn⟩ := q s2.heap.objs.size hD
 have fl : ∀ b ∈ fp, b < s2.heap.objs.size := fun b hb => by
  obtain ⟨o, e, _⟩ := T.obj 0 _ st2 b hb
  exact Heap.lt_size e
 have I3 : Inv X pins σ (upd H2 s2.heap.objs.size (.lst [])) { s2 with heap := s2.heap.push { cls := .type "list", dict := none, data := .seq ([] : List Value).toArray } } :=
  I2.laid (t' := s2.toks) (fun b o e => Heap.get?_push_of_some _ e) (Nat.le_refl _) (show ObjOk X.prog X.w _ _ _ (.lst []) from ⟨Nat.zero_le _, [], 0, .nil, Heap.get?_push_size _ rfl⟩)
 generalize hs3 : ({ s2 with heap := s2.heap.push { cls := .type "list", dict := none, data := .seq ([] : List Value).toArray } } : Shared) = s3 at I3 hns₁ hsb₁ ⊢
 have hz3 : s3.heap.objs.size = s2.heap.objs.size + 1 := by rw [← hs3]; exact Heap.size_push ..
 have old2 : ∀ b o, s2.heap.get? b = some o → s3.heap.get? b = some o := fun b o e => by rw [← hs3]; exact Heap.get?_push_of_some _ e
 have old : ∀ b o, s3.heap.get? b = some o → h₁.get? b = some o := fun b o e =>
  hsb₁.extBut b o (Nat.ne_of_lt (Heap.lt_size e)) (Heap.get?_push_of_some _ e)
 have f3 : ∀ b ∈ fp, FpOk X pins (upd H2 s2.heap.objs.size (.lst [])) b ∧ b < s3.heap.objs.size := fun b hb => by
  refine ⟨⟨?_, (f2 b hb).2⟩, by rw [hz3]; exact Nat.lt_succ_of_lt (fl b hb)⟩
  rw [upd_ne (Nat.ne_of_lt (fl b hb))]
  exact (f2 b hb).1
 have I4 := fun (t' : Nat) => inv_comp (N' := N') (scope := scope) (n := n) (fp := fp) (h₁ := h₁) (t' := t') I3 ck hl hns₁ old f3
 generalize hX : cxComp X N' scope (closeL scope.names X.env.cells []) s3.heap.objs.size s3 (upd H2 s2.heap.objs.size (.lst [])) fp = X' at I4
 have eP : X'.prog = X.prog := by rw [← hX]; rfl
 have ew : X'.w = X.w := by rw [← hX]; rfl
 have eK : X'.K = X.K := by rw [← hX]; rfl
 have eA : X'.A = X.A := by rw [← hX]; rfl
 have eE : X'.env = compEnvC scope (closeL scope.names X.env.cells []) s3.heap.objs.size X.env := by rw [← hX]; rfl
 have ec : X'.calm = true := by rw [← hX]; exact hc
 have ex' : X'.xe = fun _ _ => False := by rw [← hX]; rfl
 have hg' : PG X' tg g := by rw [← hX]; exact hg _ _ _ _ _
 have hif' : PIf X' ifs tc := by rw [← hX]; exact hif _ _ _ _ _
 have he' : PE X' elt te := by rw [← hX]; exact he _ _ _ _ _
 have stat : ∀ {H' : Hp}, (∀ b ∈ fp, H' b = none) → ∀ b ∈ fp, FpOk X' [] H' b := fun hn b hb => by
  refine ⟨hn b hb, ?_, ?_, ?_, ?_, ?_⟩
  ·rw [eE]; exact Nat.ne_of_lt (f3 b hb).2
  ·rw [← hX]
   intro hf
   rcases List.mem_cons.mp (I3.stkSub b hf) with z | z
   ·exact (f3 b hb).1.2.1 z
   ·exact (f3 b hb).1.2.2.1 z
  ·rw [← hX]; exact .inl hb
  ·rw [eE]
   intro x c e
   exact (f3 b hb).1.2.2.2.2.1 x c (closeL_sub _ _ _ (fun _ _ z => by simp at z) x c (PySem.mem_of_lookup e))
  ·rw [← hX]; intro p hp; exact absurd hp (by simp [cxComp])
 have fin : ∀ {σ' : St} {H' : Hp} {s' : Shared}, Inv X' [] σ' H' s' → Q (.ref s2.heap.objs.size) H' → RR (.ref s2.heap.objs.size) s3.heap.objs.size (.ok .next) s' := fun {σ' H' s'} I' q' => by
  obtain ⟨m', hn', _⟩ := id I'.loc
  rw [eE] at hn'
  have hos : s'.os = s3.os := by have := I'.os; rw [← hX] at this; exact this
  have hun : Un (frs X.stack) fp (upd H2 s2.heap.objs.size (.lst [])) H' s3.heap s'.heap := by have := I'.base; rw [← hX] at this; exact this
  have hok : HOk X.prog X.w H' s'.heap := by have := I'.hok; rw [eP, ew] at this; exact this
  have IX : Inv X pins σ H' s' := I3.call' (ch := fp) hos hun hok I'.bare fun b hb => ⟨(f3 b hb).1.2.2.2.1, (f3 b hb).1.2.1, (f3 b hb).1.2.2.2.2.1, (f3 b hb).1.2.2.2.2.2⟩
  have hfr := I'.free
  rw [eE] at hfr
  refine hRR _ _ H' s' m' IX hn' hfr (Nat.ne_of_gt I3.lt) I3.sz (fun x c e z => ?_) (fun p hp z => ?_) q'
  ·obtain ⟨v, o, ho, _⟩ := I3.cell x c e
   exact absurd (Heap.lt_size ho) (by rw [z]; exact Nat.lt_irrefl _)
  ·exact absurd (Heap.lt_size (I3.pin p hp).1) (by rw [z]; exact Nat.lt_irrefl _)
 have loop : ∀ t', codeAny (model X.prog X.w) X.A (.compLoop (.ListComp elt [⟨tg, iter, ifs, 0⟩] scope pos) 0 (.ref it) (.ref s2.heap.objs.size) (compEnvC scope (closeL scope.names X.env.cells []) s3.heap.objs.size X.env)) (RR (.ref s2.heap.objs.size) s3.heap.objs.size) { s3 with heap := h₁, toks := t' } := fun t' => by
  refine codeAny_compLoop_gen (fun k s' => ∃ i σ' H', Inv X' [] σ' H' s' ∧ tn i s'.heap ∧ (∀ b ∈ fp, H' b = none) ∧ W i k σ' H') ?_ m0
   ⟨0, _, _, I4 t', T.keep 0 _ _ st2 fun b _ o e => old b o (old2 b o e), fun b hb => (f3 b hb).1.1, w0⟩
  rintro k s4 ⟨i, σ4, H4, J4, st4, fr4, w4⟩
  rw [← eP, ← ew, ← eA, ← eE]
  rcases turn i k σ4 H4 w4 with ⟨stop, qn⟩ | ⟨go, N, hN, step⟩
  ·have d1 := T.done X' eP ew eK ec i [] s4 σ4 H4 (fun _ _ => False) J4 (stat fr4) st4 stop
   rw [← eP, ← ew] at d1
   refine thnF d1 fun r s5 ⟨hr, I5⟩ => ?_
   subst hr
   exact fin I5 qn
  ·have d1 := T.item X' eP ew eK ec i [] s4 σ4 H4 (fun _ _ => False) J4 (stat fr4) st4 go
   rw [← eP, ← ew] at d1
   refine thnF d1 fun r s5 ⟨u, hr, h5⟩ => ?_
   subst hr
   refine thnF h5 fun _ s6 ⟨x, H6, I6, r6, y6, st6, fr6⟩ => ?_
   have I6' := I6.pinned (stat fr6) (T.obj _ _ st6)
   have again : ∀ {σ7 : St} {H7 : Hp} {s7 : Shared}, Inv X' ([] ++ pinsAt fp s6.heap) σ7 H7 s7 → N σ7 H7 → ∃ m, m < k ∧ ∃ i σ' H', Inv X' [] σ' H' s7 ∧ tn i s7.heap ∧ (∀ b ∈ fp, H' b = none) ∧ W i m σ' H' := fun {σ7 H7 s7} I7 n7 => by
    obtain ⟨m', hm, w7⟩ := hN σ7 H7 n7
    refine ⟨m', hm, i + 1, σ7, H7, I7.unpinned, T.keep _ _ _ st6 fun b hb o e => (I7.pin (b, o) (List.mem_append_right _ (List.mem_append_right _ (mem_pinsAt hb e)))).1, fun b hb => ?_, w7⟩
    obtain ⟨o, e, d⟩ := T.obj _ _ st6 b hb
    exact (I7.pin (b, o) (List.mem_append_right _ (List.mem_append_right _ (mem_pinsAt hb e)))).2.1
   have a1 := hg' _ s6 σ4 H6 x u _ I6' r6 (step x H6 y6)
   rw [ex'] at a1
   refine thnF a1 fun _ s7 ⟨σ7, H7, I7, q7⟩ => ?_
   have a2 := hif' _ s7 σ7 H7 _ I7 q7
   rw [ex'] at a2
   refine thnF a2 fun ok s8 ⟨H8, I8, q8⟩ => ?_
   cases ok with
   | false =>
    rw [if_neg Bool.false_ne_true] at q8 ⊢
    exact again I8 q8
   | true =>
    rw [if_pos rfl] at q8 ⊢
    have a3 := he' _ s8 σ7 H8 _ I8 q8
    rw [ex'] at a3
    refine thnF a3 fun v s9 ⟨vv, H9, I9, r9, ys, hy, hz, q9⟩ => ?_
    have a4 := mt_append (X := X') _ s9 σ7 H9 (.ref s2.heap.objs.size) [vv] (.ref s2.heap.objs.size) [v] (fun _ H' => N σ7 H') I9 rfl (.cons r9 .nil) ⟨_, ys, vv, rfl, rfl, hy, hz, q9⟩
    rw [ex'] at a4
    exact thnF a4 fun _ s10 ⟨_, H10, I10, _, q10⟩ => again I10 q10
 refine codeAny_compStart_list (loop _) (T.self _ 0 _ _ _ ?_ (loop _))
 exact T.keep 0 _ _ st2 fun b _ o e => old b o (old2 b o e)
theorem pe_comp (sc : Scope) (N N' : List Str) (n : Nat) (hi : PI X tg iter wi)
  (hg : ∀ cl C s₀ H₀ ex, PG (cxComp X N' scope cl C s₀ H₀ ex) tg g) (hif : ∀ cl C s₀ H₀ ex, PIf (cxComp X N' scope cl C s₀ H₀ ex) ifs tc) (he : ∀ cl C s₀ H₀ ex, PE (cxComp X N' scope cl C s₀ H₀ ex) elt te)
  (hc : X.calm = true := by rfl) (hsc : X.env.scope = sc := by rfl) (hN : X.N = N := by rfl) (hk : compOk sc scope N N' = true := by decide +kernel) (hl : N'.length = N.length + n := by rfl)
  (hs : ∀ x, foldedSetIterable iter X.env x = pure x := by intro _; rfl) : PE X (.ListComp elt [⟨tg, iter, ifs, 0⟩] scope pos) (tComp n wi g tc te) := by
 intro pins s σ H Q I h
 subst hsc hN
 have ck := CompOk.of hk
 rw [eval_ListComp]
 refine wpAny_comprehension_free (use := none) rfl hs (closure_eq fun x hx hf => I.ok.has x.1 (ck.free x hx hf)) ck.kind ck.names (thn (hi pins s σ H _ I h) fun v s1 h1 => thn h1 fun itv s2 h2 => ?_)
 obtain ⟨it, fp, tn, J, H2, e, I2, T, st2, f2, q⟩ := h2
 subst e
 refine comp_core (RR := fun acc C => compPost (model X.prog X.w) X.A X.xe none (EP X pins σ Q) acc C) hc ck hl hg hif he I2 T st2 f2 q ?_
 intro D C H' s' m IX hn hC c1 c2 c3 c4 qq
 exact ⟨m, hn, fun h' hs' => ⟨.ref D, H', IX.turned (t' := s'.toks) (fun b o hb e => hs'.extBut b o hb e) hC (Ne.symm (Ne.symm c1)) (.inr c2) c3 c4, rfl, qq⟩⟩
end
end L2
namespace L2
open PySem PySem.Spec PyProof.Rows
section
variable {X : Cx}
theorem call_isi : CallR X (.builtin "isinstance") (fun xs H Q => ∃ x t T b, xs = [x, .ty T] ∧ TyOf X.K H x t ∧ PySem.W.kitOne X.K t (.type T) = some b ∧ Q (.bl b) H) := by
 intro pins s σ H xs us Q I r h
 obtain ⟨x, t, T, b, rfl, ty, e, q⟩ := h
 obtain ⟨u, w', rfl, ru, rw'⟩ := vals2 r
 cases (show w' = Value.type T from rw')
 exact isinst_ok I ru ty e fun tk => ⟨.bl b, H, I.tok tk, rfl, q⟩
theorem op_repS : OpR X (binaryOp .Mult) (fun x y H Q => ∃ z i, x = .str z ∧ y = .int i ∧ 0 ≤ i ∧ i ≤ 100000 ∧ z.length * i.toNat ≤ 100000 ∧ Q (.str (Txt.mul z i)) H) := by
 intro pins s σ H x y v u Q I rx ry h
 obtain ⟨z, i, rfl, rfl, h0, h1, h2, q⟩ := h
 obtain ⟨t, rfl⟩ := rx
 obtain ⟨t', rfl⟩ := ry
 have hsz : sizeLine = 16777216 := sizeLine_eq
 refine SB.mul ⟨?_, fun h3 h4 => ?_, fun h3 h4 => ?_⟩ fun t' k => ⟨.str _, H, I.tok k, ⟨_, rfl⟩, q⟩
 ·rw [decide_eq_false (by omega), decide_eq_false (by omega)]; rfl
 ·have h5 : (z.length : Int) ≤ 100000 := by
   have h6 : z.length * 1 ≤ z.length * i.toNat := Nat.mul_le_mul_left _ (by omega)
   omega
  have h7 : (100000 : Int) ≤ (2 ^ 63 - 1) / i := by
   rw [Int.le_ediv_iff_mul_le (by omega)]
   have : (100000 : Int) * i ≤ 100000 * 100000 := Int.mul_le_mul_of_nonneg_left h1 (by decide)
   have e : (2 : Int) ^ 63 - 1 = 9223372036854775807 := by decide
   omega
  omega
 ·unfold Builtin.Str.tooLong
  rw [hsz]
  exact decide_eq_false (by omega)
end
end L2
namespace L2
open PySem PySem.Spec PyProof.Rows
noncomputable def isStar : Expr → Bool
 | .Starred _ _ => true
 | _ => false
noncomputable def noStar (es : List Expr) : Bool := es.all fun e => !isStar e
theorem star_one (e : Expr) (es : List Expr) (env : Env) (h : isStar e = false) : starEach (e :: es) env = (false, eval e env) :: starEach es env := by
 cases e <;> first | rfl | (exact absurd h (by simp [isStar]))
theorem star_any (pos : Pos) (env : Env) : ∀ es : List Expr, noStar es = true → (backTo pos (starEach es env)).any (·.1) = false
 | [], _ => rfl
 | e :: es, h => by
  have h' : (!isStar e) = true ∧ noStar es = true := by
   have := h
   unfold noStar at this ⊢
   rw [List.all_cons, Bool.and_eq_true] at this
   exact this
  have hs : isStar e = false := by
   have := h'.1
   cases q : isStar e with
   | true => rw [q] at this; cases this
   | false => rfl
  rw [star_one e es env hs]
  show (false || (backTo pos (starEach es env)).any (·.1)) = false
  rw [star_any pos env es h'.2]; rfl
theorem noStar_cons {e : Expr} {es : List Expr} (h : noStar (e :: es) = true) : isStar e = false ∧ noStar es = true := by
 unfold noStar at h ⊢
 rw [List.all_cons, Bool.and_eq_true] at h
 refine ⟨?_, h.2⟩
 cases q : isStar e with
 | true => rw [q] at h; cases h.1
 | false => rfl
section
variable {X : Cx} {CX : CXT} {k : Nat} {f C : Addr} {fd : FuncData} {ps : List Str} {sp : Sp} {dvs : List V} {ds : List Value} {E : XK} {x m : Str} {p pos apos : Pos} {e o : Expr} {es : List Expr} {ta te : TE} {t : TA} {id T : String} {r : List V → Hp → VK → Prop}
theorem pac (ha : PE X e te) (hr : PA X es t) (hs : isStar e = false := by rfl) : PA X (e :: es) (tCons te t) := pa_cons ha hr (star_one _ _ _ hs)
theorem pcall (F : FnOk X.prog X.w X.K X.mg X.base CX k f fd ps sp) (hr : Room k X.A) (hm : X.mg x = some (.ref f)) (hk : PySem.W.keepIn X.K (.ref f) = true) (hb : Binds X.K fd ps []) (hx : Passes CX X E)
  (ha : PA X (e :: es) t) (hg : Gl X x := by rfl) (hdb : (x == ("__debug__" : Str)) = false := by decide) (hs : noStar (e :: es) = true := by rfl) : PE X (.Call (.Name x p) (e :: es) [] pos) (tCall sp [] E t) :=
 pe_call F hr hg hm hk hb .nil hx ha hdb (star_one _ _ _ (noStar_cons hs).1) (star_any _ _ _ (noStar_cons hs).2)
theorem pblt (hc : CallR X (.builtin id) r) (hm : X.mg x = none) (hv : bootBuiltins x = some (.builtin id)) (ha : PA X (e :: es) t) (hg : Gl X x := by rfl) (hn : x ≠ "__name__" := by decide) (hdb : (x == ("__debug__" : Str)) = false := by decide)
  (hs : noStar (e :: es) = true := by rfl) : PE X (.Call (.Name x p) (e :: es) [] pos) (tCB r t) :=
 pe_callB hc hg hm hv ha hn hdb (star_one _ _ _ (noStar_cons hs).1) (star_any _ _ _ (noStar_cons hs).2)
theorem ptyp (hc : CallR X (.type T) r) (hm : X.mg x = none) (hv : bootBuiltins x = some (.type T)) (ha : PA X (e :: es) t) (hg : Gl X x := by rfl) (hn : x ≠ "__name__" := by decide) (hdb : (x == ("__debug__" : Str)) = false := by decide)
  (hs : noStar (e :: es) = true := by rfl) : PE X (.Call (.Name x p) (e :: es) [] pos) (tCB r t) :=
 pe_callTy hc hg hm hv ha hn hdb (star_one _ _ _ (noStar_cons hs).1) (star_any _ _ _ (noStar_cons hs).2)
end
end L2
namespace L2
open PySem PySem.Spec PyProof.Rows
structure Ev (X : Cx) (e : Expr) (σ : St) (H : Hp) (Q : VK) : Prop where
 run : ∀ (pins : List (Addr × Obj)) (s : Shared), Inv X pins σ H s → wpAny (model X.prog X.w) X.A (eval e X.env) (EP X pins σ Q) X.xe s
structure Et (X : Cx) (e : Expr) (σ : St) (H : Hp) (Q : Bool → Hp → Prop) : Prop where
 run : ∀ (pins : List (Addr × Obj)) (s : Shared), Inv X pins σ H s → wpAny (model X.prog X.w) X.A (isTrue e X.env (eval e X.env)) (TP X pins σ Q) X.xe s
structure Ew (X : Cx) (e : Expr) (σ : St) (H : Hp) (Q : Bool → Hp → Prop) : Prop where
 run : ∀ (whole : Sem Value) (pins : List (Addr × Obj)) (s : Shared), Inv X pins σ H s → wpAny (model X.prog X.w) X.A (isTrue e X.env whole) (TP X pins σ Q) X.xe s
structure Ea (X : Cx) (es : List Expr) (σ : St) (H : Hp) (Q : List V → Hp → Prop) : Prop where
 run : ∀ (pos : Pos) (pins : List (Addr × Obj)) (s : Shared), Inv X pins σ H s → wpAny (model X.prog X.w) X.A (spliced (backTo pos (starEach es X.env))) (AP X pins σ Q) X.xe s
structure Eo (X : Cx) (e : Option Expr) (σ : St) (H : Hp) (Q : Option Int → Hp → Prop) : Prop where
 run : ∀ (pins : List (Addr × Obj)) (s : Shared), Inv X pins σ H s → wpAny (model X.prog X.w) X.A (evalPart e X.env) (fun u s' => ∃ o H', Inv X pins σ H' s' ∧ IsPart u o ∧ Q o H') X.xe s
structure Eg (X : Cx) (e : Expr) (v : V) (σ : St) (H : Hp) (Q : St → Hp → Prop) : Prop where
 run : ∀ (pins : List (Addr × Obj)) (s : Shared) (u : Value), Inv X pins σ H s → RelV v u → wpAny (model X.prog X.w) X.A (assign e X.env u) (fun _ s' => ∃ σ' H', Inv X pins σ' H' s' ∧ Q σ' H') X.xe s
structure Run (X : Cx) (l : List Stmt) (D : Ends) (σ : St) (H : Hp) : Prop where
 run : ∀ (pins : List (Addr × Obj)) (s : Shared), Inv X pins σ H s → wpAny (model X.prog X.w) X.A (execs l X.env) (SP X pins D) X.xe s
noncomputable def tEv (X : Cx) (e : Expr) : TE := fun σ H Q => Ev X e σ H Q
noncomputable def tEt (X : Cx) (e : Expr) : TT := fun σ H Q => Et X e σ H Q
noncomputable def tEw (X : Cx) (e : Expr) : TT := fun σ H Q => Ew X e σ H Q
noncomputable def tEa (X : Cx) (es : List Expr) : TA := fun σ H Q => Ea X es σ H Q
noncomputable def tEo (X : Cx) (e : Option Expr) : TO := fun σ H Q => Eo X e σ H Q
noncomputable def tEg (X : Cx) (e : Expr) : TG := fun v σ H Q => Eg X e v σ H Q
noncomputable def tRun (X : Cx) (l : List Stmt) : TS := fun D σ H => Run X l D σ H
section
variable {X : Cx} {e a b c o : Expr} {es : List Expr} {st : Stmt} {rest body els : List Stmt} {σ : St} {H : Hp} {Q : VK} {T : Bool → Hp → Prop} {L : List V → Hp → Prop} {D : Ends} {pos p p2 : Pos}
theorem pe_ev : PE X e (tEv X e) := fun pins s _ _ _ I h => h.run pins s I
theorem pt_et : PT X e (tEt X e) := fun pins s _ _ _ I h => h.run pins s I
theorem pw_ew : PW X e (tEw X e) := fun wh pins s _ _ _ I h => h.run wh pins s I
theorem pa_ea : PA X es (tEa X es) := fun pos pins s _ _ _ I h => h.run pos pins s I
theorem po_eo {e : Option Expr} : PO X e (tEo X e) := fun pins s _ _ _ I h => h.run pins s I
theorem pg_eg : PG X e (tEg X e) := fun pins s _ _ _ u _ I r h => h.run pins s u I r
theorem pss_run {l : List Stmt} : PSs X l (tRun X l) := fun pins s _ _ _ I h => h.run pins s I
theorem ev_of {t : TE} (h1 : PE X e t) (h2 : t σ H Q) : Ev X e σ H Q := ⟨fun pins s I => h1 pins s σ H Q I h2⟩
theorem et_of {t : TT} (h1 : PT X e t) (h2 : t σ H T) : Et X e σ H T := ⟨fun pins s I => h1 pins s σ H T I h2⟩
theorem ew_of {t : TT} (h1 : PW X e t) (h2 : t σ H T) : Ew X e σ H T := ⟨fun wh pins s I => h1 wh pins s σ H T I h2⟩
theorem ea_of {t : TA} (h1 : PA X es t) (h2 : t σ H L) : Ea X es σ H L := ⟨fun pos pins s I => h1 pos pins s σ H L I h2⟩
theorem eo_of {e : Option Expr} {t : TO} {R : Option Int → Hp → Prop} (h1 : PO X e t) (h2 : t σ H R) : Eo X e σ H R := ⟨fun pins s I => h1 pins s σ H R I h2⟩
theorem eg_of {t : TG} {v : V} {R : St → Hp → Prop} (h1 : PG X e t) (h2 : t v σ H R) : Eg X e v σ H R := ⟨fun pins s u I r => h1 pins s σ H v u R I r h2⟩
theorem run_cons {t : TS} (h1 : PS X st t) (h2 : t { D with nx := fun σ' H' => Run X rest D σ' H' } σ H) : Run X (st :: rest) D σ H := ⟨fun pins s I => pss_cons h1 pss_run pins s σ H D I h2⟩
theorem run_nil (h : D.nx σ H) : Run X [] D σ H := ⟨fun pins s I => pss_nil pins s σ H D I h⟩
theorem Ev.mono {Q' : VK} (h : Ev X e σ H Q) (f : ∀ v H', Q v H' → Q' v H') : Ev X e σ H Q' := ⟨fun pins s I => thn (h.run pins s I) fun _ _ ⟨v, H', I', r, q⟩ => ⟨v, H', I', r, f v H' q⟩⟩
theorem Et.mono {T' : Bool → Hp → Prop} (h : Et X e σ H T) (f : ∀ v H', T v H' → T' v H') : Et X e σ H T' := ⟨fun pins s I => thn (h.run pins s I) fun v _ ⟨H', I', q⟩ => ⟨H', I', f v H' q⟩⟩
theorem Ea.mono {L' : List V → Hp → Prop} (h : Ea X es σ H L) (f : ∀ v H', L v H' → L' v H') : Ea X es σ H L' := ⟨fun pos pins s I => thn (h.run pos pins s I) fun _ _ ⟨v, H', I', r, q⟩ => ⟨v, H', I', r, f v H' q⟩⟩
theorem ev_v (i : Nat) {x : Str} {v : V} (h : Q v H) (hv : σ[i]? = some (some v) := by rfl) (hN : X.N[i]? = some x := by rfl) (hs : Vis X.env.scope x := by first | exact Or.inl rfl | exact Or.inr (Or.inl rfl) | exact Or.inr (Or.inr rfl)) (hd : (x == ("__debug__" : Str)) = false := by decide)
  (hcd : (x == ("__classdict__" : Str)) = false := by decide) : Ev X (.Name x p) σ H Q := ev_of (pe_var (i := i) hN hs hd hcd) ⟨v, hv, h⟩
theorem ev_int {i : Int} {j : Nat} (h : Q (.int i) H) : Ev X (.Constant (.int i) j p) σ H Q := ev_of (pe_int) h
theorem ev_non {j : Nat} (h : Q .non H) : Ev X (.Constant .none j p) σ H Q := ev_of (pe_non) h
theorem ev_str {i : Str} {j : Nat} (h : Q (.str i) H) : Ev X (.Constant (.str i) j p) σ H Q := ev_of (pe_str) h
theorem ev_glob {x : Str} {v : V} {u : Value} (hm : X.mg x = some u) (r : RelV v u) (h : Q v H) (hg : Gl X x := by rfl) (hd : (x == ("__debug__" : Str)) = false := by decide) : Ev X (.Name x p) σ H Q := ev_of (pe_glob hg hm r hd) h
theorem ev_bltn {x : Str} (v : V) {u : Value} (hm : X.mg x = none) (hv : bootBuiltins x = some u) (r : RelV v u) (h : Q v H) (hg : Gl X x := by rfl) (hn : x ≠ "__name__" := by decide) (hd : (x == ("__debug__" : Str)) = false := by decide) : Ev X (.Name x p) σ H Q := ev_of (pe_bltn hg hm hv r hn hd) h
theorem ev_op {op : Operator} {r : R2} (ho : OpR X (binaryOp op) r) (h : Ev X a σ H fun x H1 => Ev X b σ H1 fun y H2 => r x y H2 Q) : Ev X (.BinOp a op b pos) σ H Q := ev_of (pe_op ho pe_ev pe_ev) h
theorem ev_un {op : UnaryOp} {r : V → Hp → VK → Prop} (ho : UnR X (unaryOp op) r) (h : Ev X a σ H fun x H1 => r x H1 Q) : Ev X (.UnaryOp op a pos) σ H Q := ev_of (pe_un ho pe_ev) h
theorem ev_cmp {op : CmpOp} {r : R2} (ho : OpR X (compareOp op) r) (h : Ev X a σ H fun x H1 => Ev X b σ H1 fun y H2 => r x y H2 Q) (hm : behindInMarks op b = false := by with_unfolding_all rfl) : Ev X (.Compare a [op] [b] pos) σ H Q := ev_of (pe_cmpR ho pe_ev pe_ev hm) h
theorem ev_not (h : Ev X a σ H fun x H1 => ∃ k, x = .bl k ∧ Q (.bl (!k)) H1) : Ev X (.UnaryOp .Not a pos) σ H Q := ev_of (pe_not pe_ev) h
theorem ev_and (h : Ev X a σ H fun x H1 => ∃ k, x = .bl k ∧ if k = true then Ev X (.BoolOp .And (b :: es) pos) σ H1 Q else Q (.bl false) H1) : Ev X (.BoolOp .And (a :: b :: es) pos) σ H Q := ev_of (pe_and pe_ev pe_ev) h
theorem ev_last {op : BoolOp} (h : Ev X a σ H Q) : Ev X (.BoolOp op [a] pos) σ H Q := ev_of (pe_one pe_ev) h
theorem ev_ix {r : R2} (hr : IxR X r) (h : Ev X a σ H fun x H1 => Ev X b σ H1 fun y H2 => r x y H2 Q) (hs : PlainIx b := by intro _ _; rfl) : Ev X (.Subscript a b pos) σ H Q := ev_of (pe_ix hr pe_ev pe_ev hs) h
theorem ev_slice {r : V → Option Int → Option Int → Hp → VK → Prop} {lo hi : Option Expr} (hr : SlR X r) (h : Ev X a σ H fun x H1 => Eo X lo σ H1 fun l H2 => Eo X hi σ H2 fun u H3 => r x l u H3 Q) : Ev X (.Subscript a (.Slice lo hi none p2) pos) σ H Q := ev_of (pe_slice hr pe_ev po_eo po_eo) h
theorem eo_none {R : Option Int → Hp → Prop} (h : R none H) : Eo X none σ H R := eo_of (po_none) h
theorem eo_some {R : Option Int → Hp → Prop} (h : Ev X a σ H fun x H1 => ∃ i, x = .int i ∧ R (some i) H1) : Eo X (some a) σ H R := eo_of (po_some pe_ev) h
theorem ea_nil (h : L [] H) : Ea X [] σ H L := ea_of (pa_nil) h
theorem ea_cons (h : Ev X e σ H fun x H1 => Ea X es σ H1 fun xs H2 => L (x :: xs) H2) (hs : isStar e = false := by rfl) : Ea X (e :: es) σ H L := ea_of (pac pe_ev pa_ea hs) h
theorem ev_tup {k : Nat} (h : Ea X es σ H fun xs H1 => xs.length ≤ sizeLine ∧ ∀ p, H1 p = none → Q (.ref p) (upd H1 p (.tup xs))) : Ev X (.Tuple es k pos) σ H Q := ev_of (pe_tup pa_ea) h
theorem ev_lst (h : Ea X es σ H fun xs H1 => xs.length ≤ sizeLine ∧ ∀ p, H1 p = none → Q (.ref p) (upd H1 p (.lst xs))) : Ev X (.List es pos) σ H Q := ev_of (pe_lst pa_ea) h
theorem ev_call {CX : CXT} {k : Nat} {f : Addr} {fd : FuncData} {ps : List Str} {sp : Sp} {E : XK} {x : Str} (F : FnOk X.prog X.w X.K X.mg X.base CX k f fd ps sp) (hr : Room k X.A) (hm : X.mg x = some (.ref f)) (hk : PySem.W.keepIn X.K (.ref f) = true) (hb : Binds X.K fd ps []) (hx : Passes CX X E)
  (h : Ea X (e :: es) σ H fun vs H1 => sp vs H1 Q E) (hg : Gl X x := by rfl) (hdb : (x == ("__debug__" : Str)) = false := by decide) (hs : noStar (e :: es) = true := by rfl) : Ev X (.Call (.Name x p) (e :: es) [] pos) σ H Q :=
 ev_of (pcall F hr hm hk hb hx pa_ea hg hdb hs) (show Ea X (e :: es) σ H _ from h.mono fun vs H1 q => by rw [List.append_nil]; exact q)
theorem ev_blt {id : String} {r : List V → Hp → VK → Prop} {x : Str} (hc : CallR X (.builtin id) r) (hm : X.mg x = none) (hv : bootBuiltins x = some (.builtin id)) (h : Ea X (e :: es) σ H fun vs H1 => r vs H1 Q) (hg : Gl X x := by rfl) (hn : x ≠ "__name__" := by decide) (hdb : (x == ("__debug__" : Str)) = false := by decide)
  (hs : noStar (e :: es) = true := by rfl) : Ev X (.Call (.Name x p) (e :: es) [] pos) σ H Q := ev_of (pblt hc hm hv pa_ea hg hn hdb hs) h
theorem ev_typ {T : String} {r : List V → Hp → VK → Prop} {x : Str} (hc : CallR X (.type T) r) (hm : X.mg x = none) (hv : bootBuiltins x = some (.type T)) (h : Ea X (e :: es) σ H fun vs H1 => r vs H1 Q) (hg : Gl X x := by rfl) (hn : x ≠ "__name__" := by decide) (hdb : (x == ("__debug__" : Str)) = false := by decide)
  (hs : noStar (e :: es) = true := by rfl) : Ev X (.Call (.Name x p) (e :: es) [] pos) σ H Q := ev_of (ptyp hc hm hv pa_ea hg hn hdb hs) h
theorem et_cmp {op : CmpOp} {r : R2} (ho : OpR X (compareOp op) r) (h : Ev X a σ H fun x H1 => Ev X b σ H1 fun y H2 => r x y H2 fun z H3 => ∃ k, z = .bl k ∧ T k H3) (hm : behindInMarks op b = false := by with_unfolding_all rfl) : Et X (.Compare a [op] [b] pos) σ H T := et_of (pt_cmpR ho pe_ev pe_ev hm) h
theorem et_not (h : Et X a σ H fun k H1 => T (!k) H1) : Et X (.UnaryOp .Not a pos) σ H T := et_of (pt_not pt_et) h
theorem et_val (h : Ev X e σ H fun x H1 => ∃ k, x = .bl k ∧ T k H1) (he : ∀ whole, isTrue e X.env whole = (do let v ← whole; standAt e.pos; holding [v] (truthy v)) := by intro _; rfl) : Et X e σ H T := et_of (pt_val pe_ev he) h
theorem et_bool (h : Ew X e σ H T) : Et X e σ H T := ⟨fun pins s I => h.run _ pins s I⟩
theorem ew_and (h : Et X a σ H fun k H1 => if k = true then Ew X (.BoolOp .And (b :: es) pos) σ H1 T else T false H1) : Ew X (.BoolOp .And (a :: b :: es) pos) σ H T := ew_of (pw_and pt_et pw_ew) h
theorem ew_or (h : Et X a σ H fun k H1 => if k = true then T true H1 else Ew X (.BoolOp .Or (b :: es) pos) σ H1 T) : Ew X (.BoolOp .Or (a :: b :: es) pos) σ H T := ew_of (pw_or pt_et pw_ew) h
theorem ew_and1 (h : Et X a σ H T) : Ew X (.BoolOp .And [a] pos) σ H T := ew_of (pw_and1 pt_et) h
theorem ew_or1 (h : Et X a σ H T) : Ew X (.BoolOp .Or [a] pos) σ H T := ew_of (pw_or1 pt_et) h
theorem eg_name (i : Nat) {x : Str} {v : V} {R : St → Hp → Prop} (hN : X.N.Nodup) (h : R (σ.set i (some v)) H) (hi : X.N[i]? = some x := by rfl) (hx : Loc X.env.scope x := by first | exact Or.inl rfl | exact Or.inr rfl) (hf : X.fn x = true ∨ X.env.scope.names.lookup x = some .local := by first | exact .inl rfl | exact .inr rfl | assumption) : Eg X (.Name x p) v σ H R := eg_of (pg_name hN hi hx hf) h
theorem run_set (i : Nat) {x : Str} {pos' : Pos} (hN : X.N.Nodup) (h : Ev X e σ H fun v H1 => Run X rest D (σ.set i (some v)) H1) (hi : X.N[i]? = some x := by rfl) (hx : Loc X.env.scope x := by first | exact Or.inl rfl | exact Or.inr rfl) (hs : swapsWith e (some (.Name x pos')) pos.line X.env = pure false := by rfl)
  (hf : X.fn x = true ∨ X.env.scope.names.lookup x = some .local := by first | exact .inl rfl | exact .inr rfl | assumption) : Run X (.Assign [.Name x pos'] e pos :: rest) D σ H := run_cons (ps_set hN hi hx pe_ev hs hf) h
theorem run_if (h : Et X c σ H fun k H1 => if k = true then Run X body { D with nx := fun σ' H' => Run X rest D σ' H' } σ H1 else Run X els { D with nx := fun σ' H' => Run X rest D σ' H' } σ H1) : Run X (.If c body els pos :: rest) D σ H := run_cons (ps_if pt_et pss_run pss_run) h
theorem run_ifJ (φ ψ : Prop) (hc : ∀ T : Bool → Hp → Prop, (∀ k : Bool, (k = true → φ) → (k = false → ψ) → T k H) → Et X c σ H T) (ht : φ → Run X body { D with nx := fun σ' H' => Run X rest D σ' H' } σ H) (hu : ψ → Run X els { D with nx := fun σ' H' => Run X rest D σ' H' } σ H) : Run X (.If c body els pos :: rest) D σ H :=
 run_if (hc _ fun k p q => by
  cases k with
  | true => rw [if_pos rfl]; exact ht (p rfl)
  | false => rw [if_neg Bool.false_ne_true]; exact hu (q rfl))
theorem run_ret (h : Ev X e σ H D.rt) : Run X (.Return (some e) pos :: rest) D σ H := run_cons (ps_ret pe_ev) h
theorem run_expr (h : Ev X e σ H fun _ H1 => Run X rest D σ H1) (hs : swapsWith e none pos.line X.env = pure false := by rfl) : Run X (.Expr e pos :: rest) D σ H := run_cons (ps_expr pe_ev hs) h
theorem run_asg {tg : Expr} (h : Ev X e σ H fun v H1 => Eg X tg v σ H1 fun σ' H' => Run X rest D σ' H') (hs : swapsWithSole [tg] e pos.line X.env = pure false := by rfl) (hw : swappedStores [tg] e X.env = pure none := by rfl)
  (h1 : (assignEach [tg] X.env).map (·.2) = [assign tg X.env] := by rfl) : Run X (.Assign [tg] e pos :: rest) D σ H := run_cons (ps_asg pe_ev pg_eg hs hw h1) h
noncomputable def Loop (X : Cx) (tg : Expr) (body : List Stmt) (J : It) (D : Ends) (after : St → Hp → Prop) (σ : St) (H : Hp) : Prop :=
 ∃ W : Nat → Nat → St → Hp → Prop, (∃ m, W 0 m σ H) ∧ ∀ i m σ H, W i m σ H → (J.stop i H ∧ after σ H) ∨ (J.go i H ∧ ∃ N : St → Hp → Prop, (∀ σ' H', N σ' H' → ∃ m', m' < m ∧ W (i + 1) m' σ' H') ∧
  ∀ x H', J.yld i H x H' → Eg X tg x σ H' fun σ2 H2 => Run X body { D with nx := N, ct := N, bk := after } σ2 H2)
theorem run_for {tg iter : Expr} {wi : TI} (hi : PI X tg iter wi) (h : wi σ H fun J H1 => Loop X tg body J D (fun σ' H' => Run X rest D σ' H') σ H1) (hp : PassesOwn (model X.prog X.w) X.A X.env X.xe := by exact PassesOwn.never) (hc : X.calm = true := by rfl)
  (hs : ∀ x, foldedSetIterable iter X.env x = pure x := by intro _; rfl) : Run X (.For tg iter body [] pos :: rest) D σ H := run_cons (ps_for hp hc hi pg_eg pss_run hs) h
theorem run_forR1 {tg : Expr} {q : Pos} (hm : X.mg "range" = none) (h : Ev X a σ H fun x H1 => ∃ j : Int, x = .int j ∧ -(2 ^ 62) ≤ j ∧ j < 2 ^ 62 ∧ Loop X tg body (Itr 0 j.toNat) D (fun σ' H' => Run X rest D σ' H') σ H1) (hg : Gl X "range" := by rfl) (hp : PassesOwn (model X.prog X.w) X.A X.env X.xe := by exact PassesOwn.never) (hc : X.calm = true := by rfl) (hs : isStar a = false := by rfl) :
  Run X (.For tg (.Call (.Name "range" q) [a] [] p) body [] pos :: rest) D σ H :=
 run_for (wi := iRng1 (tEa X [a])) (pi_range1 hg hm pa_ea (star_one a [] _ hs)) (show Ea X [a] σ H _ from ea_cons (h.mono fun x H1 ⟨j, e, h1, h2, h3⟩ => ea_nil ⟨j, by rw [e], h1, h2, h3⟩) hs) hp hc (by intro _; rfl)
theorem run_forL {tg iter : Expr} (h : Ev X iter σ H fun x H1 => ∃ a, x = .ref a ∧ (∃ xs, SqL X.K H1 a xs) ∧ Loop X tg body (Itl X.K a) D (fun σ' H' => Run X rest D σ' H') σ H1) (hp : PassesOwn (model X.prog X.w) X.A X.env X.xe := by exact PassesOwn.never) (hc : X.calm = true := by rfl)
  (hs : ∀ x, foldedSetIterable iter X.env x = pure x := by intro _; rfl) : Run X (.For tg iter body [] pos :: rest) D σ H := run_for (pi_list pe_ev) h hp hc hs
theorem loop_range {tg : Expr} {lo : Int} {n : Nat} {after : St → Hp → Prop} (Pv : Nat → St → Hp → Prop) (h0 : Pv 0 σ H)
  (hs : ∀ i σ H, i < n → Pv i σ H → Eg X tg (.int (lo + i)) σ H fun σ2 H2 => Run X body { D with nx := Pv (i + 1), ct := Pv (i + 1), bk := after } σ2 H2) (hd : ∀ σ H, Pv n σ H → after σ H) : Loop X tg body (Itr lo n) D after σ H := by
 refine ⟨fun i m σ H => m = n - i ∧ i ≤ n ∧ Pv i σ H, ⟨n, by simp, Nat.zero_le _, h0⟩, ?_⟩
 rintro i m σ H ⟨rfl, hi, p⟩
 by_cases hlt : i < n
 ·refine .inr ⟨hlt, Pv (i + 1), fun σ' H' p' => ⟨n - (i + 1), by omega, rfl, hlt, p'⟩, fun x H' y => ?_⟩
  obtain ⟨e, y⟩ := y
  subst e y
  exact hs i σ _ hlt p
 ·have e : i = n := by omega
  subst e
  exact .inl ⟨Nat.le_refl _, hd σ H p⟩
theorem loop_tup {tg : Expr} {at_ : Addr} {xs : List V} {after : St → Hp → Prop} (Pv : Nat → St → Hp → Prop) (h0 : Pv 0 σ H) (hl : ∀ i σ H, i ≤ xs.length → Pv i σ H → SqT X.K H at_ xs)
  (hs : ∀ i x σ H, xs[i]? = some x → Pv i σ H → Eg X tg x σ H fun σ2 H2 => Run X body { D with nx := Pv (i + 1), ct := Pv (i + 1), bk := after } σ2 H2) (hd : ∀ σ H, Pv xs.length σ H → after σ H) : Loop X tg body (Itt X.K at_) D after σ H := by
 refine ⟨fun i m σ H => m = xs.length - i ∧ i ≤ xs.length ∧ Pv i σ H, ⟨xs.length, by simp, Nat.zero_le _, h0⟩, ?_⟩
 rintro i m σ H ⟨rfl, hi, p⟩
 have q := hl i σ H hi p
 by_cases hlt : i < xs.length
 ·refine .inr ⟨⟨xs, xs[i], q, by simp [hlt]⟩, Pv (i + 1), fun σ' H' p' => ⟨xs.length - (i + 1), by omega, rfl, hlt, p'⟩, fun x H' y => ?_⟩
  obtain ⟨e, y⟩ := y
  subst e
  exact hs i x σ _ (y xs q) p
 ·have e : i = xs.length := by omega
  subst e
  exact .inl ⟨⟨xs, q, Nat.le_refl _⟩, hd σ H p⟩
theorem loop_list {tg : Expr} {at_ : Addr} {xs : List V} {after : St → Hp → Prop} (Pv : Nat → St → Hp → Prop) (h0 : Pv 0 σ H) (hl : ∀ i σ H, i ≤ xs.length → Pv i σ H → SqL X.K H at_ xs)
  (hs : ∀ i x σ H, xs[i]? = some x → Pv i σ H → Eg X tg x σ H fun σ2 H2 => Run X body { D with nx := Pv (i + 1), ct := Pv (i + 1), bk := after } σ2 H2) (hd : ∀ σ H, Pv xs.length σ H → after σ H) : Loop X tg body (Itl X.K at_) D after σ H := by
 refine ⟨fun i m σ H => m = xs.length - i ∧ i ≤ xs.length ∧ Pv i σ H, ⟨xs.length, by simp, Nat.zero_le _, h0⟩, ?_⟩
 rintro i m σ H ⟨rfl, hi, p⟩
 have q := hl i σ H hi p
 by_cases hlt : i < xs.length
 ·refine .inr ⟨⟨xs, xs[i], q, by simp [hlt]⟩, Pv (i + 1), fun σ' H' p' => ⟨xs.length - (i + 1), by omega, rfl, hlt, p'⟩, fun x H' y => ?_⟩
  obtain ⟨e, y⟩ := y
  subst e
  exact hs i x σ _ (y xs q) p
 ·have e : i = xs.length := by omega
  subst e
  exact .inl ⟨⟨xs, q, Nat.le_refl _⟩, hd σ H p⟩
theorem Fun.go {P : Program} {w : World} {K : PySem.W.Frag} {mg : Str → Option Value} {base : Heap} {x qual : Str} {st : Stmt} {f : Addr} {fd : FuncData} {N ps : List Str} {k : Nat} {sp : Sp} (F : Fun K x qual st f fd) (S : FnScope N ps (defScope st)) (len : ∀ vs H Q E, sp vs H Q E → vs.length = ps.length)
  (hbody : ∀ (cdv : Value) (A : Around) (outer : List Env) (s : Shared) (H : Hp) (vs : List V) (Q : VK) (E : XK), Room k (A.deeper (envOfC qual (defScope st) s.heap.objs.size f cdv)) → sp vs H Q E →
   Run (cxOf CX0 P w K mg base N qual (defScope st) f cdv A outer s H E).nox (defBody st) { nx := fun _ H' => Q .non H', rt := Q } (start N vs) H) : FnOk P w K mg base CX0 (k + 1) f fd ps sp :=
 F.ok S len fun cdv A outer s H vs Q E hr hsp => ⟨_, pss_run, hbody cdv A outer s H vs Q E hr hsp⟩
end
end L2
namespace L2
open PySem PySem.Spec PyProof.Rows
structure Ei (X : Cx) (ifs : List Expr) (σ : St) (H : Hp) (Q : Bool → Hp → Prop) : Prop where
 run : ∀ (pins : List (Addr × Obj)) (s : Shared), Inv X pins σ H s →
  wpAny (model X.prog X.w) X.A (forIn ifs true fun c r => if r = true then do let ok ← isTrue c X.env (eval c X.env); pure (ForInStep.yield ok) else pure (ForInStep.yield r)) (TP X pins σ Q) X.xe s
noncomputable def CEv (X : Cx) (N' : List Str) (scope : Scope) (e : Expr) (σ : St) (H : Hp) (Q : VK) : Prop := ∀ cl C s₀ H₀ ex, Ev (cxComp X N' scope cl C s₀ H₀ ex) e σ H Q
noncomputable def CEg (X : Cx) (N' : List Str) (scope : Scope) (e : Expr) (v : V) (σ : St) (H : Hp) (Q : St → Hp → Prop) : Prop := ∀ cl C s₀ H₀ ex, Eg (cxComp X N' scope cl C s₀ H₀ ex) e v σ H Q
noncomputable def CEi (X : Cx) (N' : List Str) (scope : Scope) (ifs : List Expr) (σ : St) (H : Hp) (Q : Bool → Hp → Prop) : Prop := ∀ cl C s₀ H₀ ex, Ei (cxComp X N' scope cl C s₀ H₀ ex) ifs σ H Q
noncomputable def CompL (X : Cx) (N' : List Str) (scope : Scope) (tg : Expr) (ifs : List Expr) (elt : Expr) (J : It) (D : Addr) (after : Hp → Prop) (σ : St) (H : Hp) : Prop :=
 ∃ W : Nat → Nat → St → Hp → Prop, (∃ m, W 0 m σ H) ∧ ∀ i m σ' H', W i m σ' H' →
  (J.stop i H' ∧ after H') ∨ (J.go i H' ∧ ∃ N : St → Hp → Prop, (∀ σ' H', N σ' H' → ∃ m', m' < m ∧ W (i + 1) m' σ' H') ∧ ∀ x H2, J.yld i H' x H2 → CEg X N' scope tg x σ' H2 fun σ2 H3 => CEi X N' scope ifs σ2 H3 fun b H4 =>
   if b = true then CEv X N' scope elt σ2 H4 fun v H5 => ∃ ys, H5 D = some (.lst ys) ∧ ys.length < sizeLine ∧ N σ2 (upd H5 D (.lst (ys ++ [v]))) else N σ2 H4)
section
variable {X : Cx} {elt tg iter c : Expr} {ifs : List Expr} {scope : Scope} {pos p : Pos} {wi : TI} {σ : St} {H : Hp} {Q : VK} {T : Bool → Hp → Prop} {rest : List Stmt} {D : Ends}
theorem ei_nil (h : T true H) : Ei X [] σ H T := ⟨fun pins s I => pif_nil pins s σ H T I h⟩
theorem ei_one (h : Et X c σ H T) : Ei X [c] σ H T := ⟨fun pins s I => pif_one pt_et pins s σ H T I h⟩
theorem ev_comp (sc : Scope) (N N' : List Str) (n : Nat) (hi : PI X tg iter wi)
  (h : wi σ H fun J H1 => ∀ D, H1 D = none → CompL X N' scope tg ifs elt J D (fun H' => Q (.ref D) H') (σ ++ List.replicate n none) (upd H1 D (.lst [])))
  (hc : X.calm = true := by rfl) (hsc : X.env.scope = sc := by rfl) (hN : X.N = N := by rfl) (hk : compOk sc scope N N' = true := by decide +kernel) (hl : N'.length = N.length + n := by rfl)
  (hs : ∀ x, foldedSetIterable iter X.env x = pure x := by intro _; rfl) : Ev X (.ListComp elt [⟨tg, iter, ifs, 0⟩] scope pos) σ H Q :=
 ev_of (pe_comp (g := fun v σ H Q => CEg X N' scope tg v σ H Q) (tc := fun σ H Q => CEi X N' scope ifs σ H Q) (te := fun σ H Q => CEv X N' scope elt σ H Q) sc N N' n hi
  (fun cl C s₀ H₀ ex pins s σ H v u Q I r h => (h cl C s₀ H₀ ex).run pins s u I r) (fun cl C s₀ H₀ ex pins s σ H Q I h => (h cl C s₀ H₀ ex).run pins s I) (fun cl C s₀ H₀ ex pins s σ H Q I h => (h cl C s₀ H₀ ex).run pins s I) hc hsc hN hk hl hs) h
end
end L2
namespace L2
open PySem PySem.Spec PyProof.Rows
structure Has (P : Program) (w : World) (K : PySem.W.Frag) (mg : Str → Option Value) (base : Heap) (k : Nat) (x : Str) (ps : List Str) (sp : Sp) : Prop where
 ex : ∃ f fd, FnOk P w K mg base CX0 k f fd ps sp ∧ Binds K fd ps [] ∧ PySem.W.keepIn K (.ref f) = true ∧ mg x = some (.ref f)
theorem Has.mono {P : Program} {w : World} {K : PySem.W.Frag} {mg : Str → Option Value} {base : Heap} {j k : Nat} {x : Str} {ps : List Str} {sp : Sp} (h : Has P w K mg base j x ps sp) (le : j ≤ k) : Has P w K mg base k x ps sp :=
 let ⟨f, fd, F, r⟩ := h.ex; ⟨f, fd, F.mono le, r⟩
theorem ev_has {X : Cx} {k : Nat} {ps : List Str} {sp : Sp} {x : Str} {e : Expr} {es : List Expr} {σ : St} {H : Hp} {Q : VK} {p pos : Pos} (G : Has X.prog X.w X.K X.mg X.base k x ps sp) (hr : Room k X.A)
  (h : Ea X (e :: es) σ H fun vs H1 => sp vs H1 Q E0) (hg : Gl X x := by rfl) (hdb : (x == ("__debug__" : Str)) = false := by decide) (hs : noStar (e :: es) = true := by rfl) : Ev X (.Call (.Name x p) (e :: es) [] pos) σ H Q :=
 let ⟨_, _, F, b, kp, m⟩ := G.ex; ev_call F hr m kp b pass0 h hg hdb hs
theorem _root_.L2.Room.u100 {k : Nat} {A : Around} (hr : Room k A) : A.units + 100 < cLine := by have := hr.un; omega
theorem _root_.L2.Room.u1 {k : Nat} {A : Around} (hr : Room k A) : A.units + 1 < cLine := by have := hr.un; omega
noncomputable def Df (K : PySem.W.Frag) (x : Str) (st : Stmt) : Prop := ∃ (f : Addr) (fd : FuncData), PySem.W.nsIn K mainGlobals x = some (some (.ref f)) ∧ Fun K x x st f fd
theorem df_mk {K : PySem.W.Frag} {x : Str} {st : Stmt} {f : Addr} {oc kV doc pm cdv ct : Value} {od an : Option Addr} {sl : Array (Option Value)} (a : PySem.W.nsIn K mainGlobals x = some (some (.ref f)))
  (l : K.lookup f = some ⟨oc, od, .func (PySem.W.fnOf x x (defArgs st) (defBody st) (defScope st) .none kV doc pm an cdv ct), sl⟩) (c : PySem.W.codeIn K cdv x = true) (k : PySem.W.keepIn K (.ref f) = true) : Df K x st := ⟨f, _, a, fun_mk l c k⟩
structure Bun where
 f : Addr
 cdv : Value
 A : Around
 outer : List Env
 s : Shared
 H : Hp
 E : XK
noncomputable def cxB (N : List Str) (qual : Str) (scope : Scope) (P : Program) (w : World) (K : PySem.W.Frag) (mg : Str → Option Value) (base : Heap) (b : Bun) : Cx := (cxOf CX0 P w K mg base N qual scope b.f b.cdv b.A b.outer b.s b.H b.E).nox
noncomputable def En (Q : VK) : Ends := { nx := fun _ H' => Q .non H', rt := Q }
theorem Fun.gb {P : Program} {w : World} {K : PySem.W.Frag} {mg : Str → Option Value} {base : Heap} {x qual : Str} {st : Stmt} {f : Addr} {fd : FuncData} {N ps : List Str} {k : Nat} {sp : Sp} (F : Fun K x qual st f fd) (S : FnScope N ps (defScope st)) (len : ∀ vs H Q E, sp vs H Q E → vs.length = ps.length)
  (hbody : ∀ (b : Bun) (H : Hp) (vs : List V) (Q : VK) (E : XK), Room k (b.A.deeper (envOfC qual (defScope st) b.s.heap.objs.size b.f b.cdv)) → sp vs H Q E → Run (cxB N qual (defScope st) P w K mg base b) (defBody st) (En Q) (start N vs) H) : FnOk P w K mg base CX0 (k + 1) f fd ps sp :=
 F.go S len fun cdv A outer s H vs Q E hr hsp => hbody ⟨f, cdv, A, outer, s, H, E⟩ H vs Q E hr hsp
theorem len_s {us : List Value} {k : Nat} (h : us.length = k + 1) : ∃ a r, us = a :: r ∧ r.length = k := by
 cases us with
 | nil => cases h
 | cons a r => exact ⟨a, r, rfl, Nat.succ.inj h⟩
theorem bd1 {fd : FuncData} {ps : List Str} (f : ∀ a : Value, bindArgs fd ⟨[a], []⟩ = pure (ps.zip [a])) : ∀ us : List Value, us.length = 1 → bindArgs fd ⟨us, []⟩ = pure (ps.zip us) := fun us h => by
 obtain ⟨a, r0, e0, h0⟩ := len_s h
 have z := List.length_eq_zero_iff.mp h0
 subst z e0
 exact f a
theorem bd2 {fd : FuncData} {ps : List Str} (f : ∀ a b : Value, bindArgs fd ⟨[a, b], []⟩ = pure (ps.zip [a, b])) : ∀ us : List Value, us.length = 2 → bindArgs fd ⟨us, []⟩ = pure (ps.zip us) := fun us h => by
 obtain ⟨a, r0, e0, h0⟩ := len_s h
 obtain ⟨b, r1, e1, h1⟩ := len_s h0
 have z := List.length_eq_zero_iff.mp h1
 subst z e1 e0
 exact f a b
theorem bd3 {fd : FuncData} {ps : List Str} (f : ∀ a b c : Value, bindArgs fd ⟨[a, b, c], []⟩ = pure (ps.zip [a, b, c])) : ∀ us : List Value, us.length = 3 → bindArgs fd ⟨us, []⟩ = pure (ps.zip us) := fun us h => by
 obtain ⟨a, r0, e0, h0⟩ := len_s h
 obtain ⟨b, r1, e1, h1⟩ := len_s h0
 obtain ⟨c, r2, e2, h2⟩ := len_s h1
 have z := List.length_eq_zero_iff.mp h2
 subst z e2 e1 e0
 exact f a b c
theorem bd4 {fd : FuncData} {ps : List Str} (f : ∀ a b c d : Value, bindArgs fd ⟨[a, b, c, d], []⟩ = pure (ps.zip [a, b, c, d])) : ∀ us : List Value, us.length = 4 → bindArgs fd ⟨us, []⟩ = pure (ps.zip us) := fun us h => by
 obtain ⟨a, r0, e0, h0⟩ := len_s h
 obtain ⟨b, r1, e1, h1⟩ := len_s h0
 obtain ⟨c, r2, e2, h2⟩ := len_s h1
 obtain ⟨d, r3, e3, h3⟩ := len_s h2
 have z := List.length_eq_zero_iff.mp h3
 subst z e3 e2 e1 e0
 exact f a b c d
theorem Df.has {P : Program} {w : World} {K : PySem.W.Frag} {mg : Str → Option Value} {h base : Heap} {k : Nat} {x : Str} {st : Stmt} {ps : List Str} {sp : Sp} (d : Df K x st) (X : K.In h) (G : h.Ns mainGlobals mg)
  (hb : ∀ (kV doc pm : Value) (an : Option Addr) (cdv ct : Value) (us : List Value), us.length = ps.length → bindArgs (PySem.W.fnOf x x (defArgs st) (defBody st) (defScope st) .none kV doc pm an cdv ct) ⟨us, []⟩ = pure (ps.zip us))
  (ok : ∀ {f : Addr} {fd : FuncData}, Fun K x x st f fd → FnOk P w K mg base CX0 k f fd ps sp) : Has P w K mg base k x ps sp :=
 let ⟨f, fd, a, F⟩ := d; ⟨f, fd, ok F, F.binds hb, F.kp, PySem.W.mg_of X G a⟩
theorem Df.law {P : Program} {w : World} {K : PySem.W.Frag} {mg : Str → Option Value} {h : Heap} {k : Nat} {x y : Str} {st : Stmt} {sp : Sp} {fa : Addr} (d : Df K x st) (X : K.In h) (G : h.Ns mainGlobals mg) (hfa : mg x = some (.ref fa))
  (hb : ∀ (kV doc pm : Value) (an : Option Addr) (cdv ct : Value) (s : Shared) (v : Value), BindsTo s (PySem.W.fnOf x x (defArgs st) (defBody st) (defScope st) .none kV doc pm an cdv ct) ⟨[v], []⟩ [(y, v)])
  (ok : ∀ (base : Heap) {f : Addr} {fd : FuncData}, Fun K x x st f fd → FnOk P w K mg base CX0 k f fd [y] sp) :
  ∃ fd : FuncData, (∀ (s : Shared) (v : Value), BindsTo s fd ⟨[v], []⟩ [(y, v)]) ∧ ∀ base : Heap, K.In base → base.Ns mainGlobals mg → FnOk P w K mg base CX0 k fa fd [y] sp := by
 obtain ⟨f, fd, a, F⟩ := d
 have e := hfa.symm.trans (PySem.W.mg_of X G a)
 cases e
 obtain ⟨oc, od, kV, doc, pm, an, cdv, ct, osl, rfl, lk, hcd⟩ := id F.ex
 exact ⟨_, hb kV doc pm an cdv ct, fun base _ _ => ok base F⟩
end L2
namespace SetT
open PySem
end SetT
namespace SetT
open PySem
noncomputable def byTx (w : World) : Bool := w.params.followText "set-order"
noncomputable def keyOf (e : Int × Value) : Str := match e.2 with
 | .str x _ => x
 | _ => ⟨#[]⟩
section
variable (prog : Program) (w : World)
noncomputable def Elt (e : Int × Value) : Prop := ∃ z t, e = ((strKind prog w).hash z, Value.str z t)
structure Tab (es : Array (Int × Value)) (t : SetTable) (zs : List Str) : Prop where
 elts : ∀ e ∈ es.toList, Elt prog w e
 keys : (es.toList.map keyOf).Perm zs
 nodup : zs.Nodup
 few : zs.length < 1000
 fits : t.fits es.size = true
 led : t.led = !byTx w
 plain : es = #[] ∨ t.plain = false
noncomputable def SetAt (h : Heap) (a : Addr) (zs : List Str) : Prop := ∃ o es ep t, h.get? a = some o ∧ o.ExactSet ∧ o.data = .set es ep t ∧ Tab prog w es t zs
end
section
variable {prog : Program} {w : World} {es : Array (Int × Value)} {t : SetTable} {zs : List Str} {h h' : Heap} {a : Addr}
theorem Tab.elems (T : Tab prog w es t zs) : ElemsOf (strKind prog w) es.toList := fun e he => by
 obtain ⟨z, u, rfl⟩ := T.elts e he
 exact ⟨⟨z, strKind_is _ _ _ _, rfl⟩, rfl⟩
theorem Tab.size (T : Tab prog w es t zs) : es.size = zs.length := by
 have := T.keys.length_eq
 rw [List.length_map, Array.length_toList] at this
 exact this
theorem Tab.few' (T : Tab prog w es t zs) : es.size < 1000 := by rw [T.size]; exact T.few
theorem Tab.scan (T : Tab prog w es t zs) : es.size < scanBound := by have := T.few'; unfold scanBound; omega
theorem Tab.perm {es' : Array (Int × Value)} {t' : SetTable} (T : Tab prog w es t zs) (p : es'.toList.Perm es.toList) (hf : t'.fits es'.size = true) (hl : t'.led = t.led) (hp : es' = #[] ∨ t'.plain = false) : Tab prog w es' t' zs :=
 ⟨fun e he => T.elts e (p.mem_iff.mp he), (p.map keyOf).trans T.keys, T.nodup, T.few, hf, hl.trans T.led, hp⟩
theorem SetAt.keep (S : SetAt prog w h a zs) (k : ∀ o, h.get? a = some o → h'.get? a = some o) : SetAt prog w h' a zs := let ⟨o, es, ep, t, h1, h2⟩ := S; ⟨o, es, ep, t, k o h1, h2⟩
theorem SetAt.typeIs {s : Shared} (S : SetAt prog w s.heap a zs) : s.TypeIs (.ref a) "set" := let ⟨o, _, _, _, h1, h2, _⟩ := S; ⟨o, h1, h2.1⟩
theorem set_put {o : Obj} {ep : Nat} {es' : Array (Int × Value)} {t' : SetTable} {zs' : List Str} (ho : h.get? a = some o) (hx : o.ExactSet) (hd : o.data = .set es ep t) (T' : Tab prog w es' t' zs') :
  (h.update a (Obj.putSet es' t')).get? a = some { o with data := .set es' (ep + 1) t' } ∧ SetAt prog w (h.update a (Obj.putSet es' t')) a zs' := by
 have q := Heap.get?_update_self (Obj.putSet es' t') ho (by rw [putSet_of es' t' hd]; rfl)
 rw [putSet_of es' t' hd] at q
 exact ⟨q, _, es', ep + 1, t', q, hx, rfl, T'⟩
theorem is_key {e : Int × Value} (he : Elt prog w e) (z : Str) : (strKind prog w).is z e.2 = decide (z = keyOf e) := by
 obtain ⟨y, u, rfl⟩ := he
 exact KeyKind.is_eq_decide (strKind_is prog w y u) z
theorem find_none (T : Tab prog w es t zs) {z : Str} (hz : z ∉ zs) : es.toList.findIdx? (fun e => (strKind prog w).is z e.2) = none := by
 rw [List.findIdx?_eq_none_iff]
 intro e he
 rw [is_key (T.elts e he), decide_eq_false_iff_not]
 rintro rfl
 exact hz (T.keys.mem_iff.mp (List.mem_map_of_mem he))
theorem find_some (T : Tab prog w es t zs) {z : Str} (hz : z ∈ zs) : ∃ j, ∃ hj : j < es.toList.length, es.toList.findIdx? (fun e => (strKind prog w).is z e.2) = some j ∧ keyOf es.toList[j] = z := by
 obtain ⟨e, he, e2⟩ := List.mem_map.mp (T.keys.mem_iff.mpr hz)
 cases q : es.toList.findIdx? (fun e => (strKind prog w).is z e.2) with
 | none =>
  have := List.findIdx?_eq_none_iff.mp q e he
  rw [is_key (T.elts e he), decide_eq_false_iff_not] at this
  exact absurd e2.symm this
 | some j =>
  obtain ⟨hj, p, _⟩ := List.findIdx?_eq_some_iff_getElem.mp q
  rw [is_key (T.elts _ (List.getElem_mem hj)), decide_eq_true_eq] at p
  exact ⟨j, hj, rfl, p.symm⟩
theorem orIn_led (t : SetTable) (n : Nat) : (t.orStandIn n).led = t.led ∧ ((t.orStandIn n).plain = true → t.plain = true) := by
 unfold SetTable.orStandIn
 split
 ·exact ⟨rfl, id⟩
 ·exact ⟨rfl, fun h => by cases h⟩
theorem layNew_led (t : SetTable) (es : Array (Int × Value)) (x : Int) (v : Value) : (layNew t es x v).2.1.led = t.led := by
 unfold layNew
 split
 ·exact (orIn_led _ _).1
 ·rfl
theorem laid_led {mask f m : Nat} {l p : Bool} {hs : Array Int} {t' : SetTable} {o : Array Nat} (e : SetTable.laid mask f m l p hs = some (t', o)) : t'.led = l ∧ t'.plain = p := by
 unfold SetTable.laid at e
 cases c : SetTable.layClean mask hs with
 | none => rw [c] at e; cases e
 | some ow => rw [c] at e; cases e; exact ⟨rfl, rfl⟩
theorem relay_led (t : SetTable) (es : Array (Int × Value)) (n : Nat) (hp : t.plain = false) : (relayAll t es n).2.1.led = t.led ∧ (relayAll t es n).2.1.plain = false := by
 unfold relayAll
 split
 ·rename_i t' o e
  have q := laid_led e
  dsimp only
  split
  ·exact ⟨q.1, q.2.trans hp⟩
  ·exact ⟨rfl, rfl⟩
 ·exact ⟨rfl, rfl⟩
end
section
variable {prog : Program} {w : World} {A : Around} {E : Value → Shared → Prop} {s : Shared} {a : Addr} {zs : List Str}
theorem sz_ok {n : Nat} (h : n < 1001) : n ≤ sizeLine := by rw [sizeLine_eq]; omega
theorem wp_laid {g : Bool → Sem Unit} (hg : ∀ (b : Bool) (s₁ : Shared) (Q' : Unit → Shared → Prop), Q' () s₁ → wpAny (model prog w) A (g b) Q' E s₁)
  {o : Obj} {es : Array (Int × Value)} {ep : Nat} {t : SetTable} (ho : s.heap.get? a = some o) (hx : o.ExactSet) (hd : o.data = .set es ep t)
  {es1 : Array (Int × Value)} {t2 : SetTable} (T : Tab prog w es1 t2 zs) (hp : t2.plain = false) {c : Bool} {R : Option Bool → Shared → Prop}
  (k : ∀ h', Heap.SameBut a s.heap h' → SetAt prog w h' a zs → R (some true) { s with heap := h' }) :
  wpAny (model prog w) A (do
   storeSet a es1 t2
   if c = true then do
     g (relayAll t2 es1 (SetTable.grown es1.size)).2.2
     storeSet a (relayAll t2 es1 (SetTable.grown es1.size)).1 (relayAll t2 es1 (SetTable.grown es1.size)).2.1
     pure (some true)
    else pure (some true)) R E s := by
 refine wpAny_bind (wpAny_storeSet_of ho hd ?_ (sz_ok (Nat.lt_succ_of_lt T.few')))
 obtain ⟨q1, q2⟩ := set_put ho hx hd T
 have sb := Heap.SameBut.update s.heap a (Obj.putSet es1 t2)
 cases c with
 | false => exact wpAny_pure (k _ sb q2)
 | true =>
  have p := relayAll_perm t2 es1 (SetTable.grown es1.size)
  have T3 := T.perm p (relayAll_fits t2 es1 (SetTable.grown es1.size)) (relay_led t2 es1 _ hp).1 (.inr (relay_led t2 es1 _ hp).2)
  refine wpAny_bind (hg _ _ _ ?_)
  refine wpAny_bind (wpAny_storeSet_of q1 rfl ?_ (sz_ok (Nat.lt_succ_of_lt T3.few')))
  exact wpAny_pure (k _ (sb.trans (Heap.SameBut.update _ a _)) (set_put q1 hx rfl T3).2)
noncomputable def added (zs : List Str) (z : Str) : List Str := if z ∈ zs then zs else zs ++ [z]
theorem wp_add {z : Str} {tk : Tok} {Q : Bool → Shared → Prop} (S : SetAt prog w s.heap a zs) (hb : zs.length + 1 < 1000)
  (k : ∀ (b : Bool) h', Heap.SameBut a s.heap h' → SetAt prog w h' a (added zs z) → Q b { s with heap := h' }) :
  wpAny (model prog w) A (setAddHashed a (.str z tk) ((strKind prog w).hash z)) Q E s := by
 obtain ⟨o, es, ep, t, ho, hx, hd, T⟩ := S
 unfold setAddHashed setAddHashedIn
 refine wpAny_holding (wpAny_bind (wpAny_setState_of ho hd T.fits ?_))
 dsimp only
 rw [byScan_of (knd := strKind prog w) (x := .str z tk) rfl T.scan T.elems]
 simp only [↓reduceIte]
 unfold setAddByScan
 refine wpAny_bind (wpAny_bind (wpAny_rule (wpAny_bind (wpAny_setScan_of (knd := strKind prog w) (k := z) (strKind_is _ _ _ _) ho hd T.fits T.elems ?_))))
 by_cases hz : z ∈ zs
 ·obtain ⟨j, hj, e, _⟩ := find_some T hz
  rw [e]
  dsimp only
  refine wpAny_pure (wpAny_pure (k false s.heap (Heap.SameBut.refl a s.heap) ?_))
  unfold added
  rw [if_pos hz]
  exact ⟨o, es, ep, t, ho, hx, hd, T⟩
 ·rw [find_none T hz]
  dsimp only
  have gw : ∀ (b : Bool) (s₁ : Shared) (Q' : Unit → Shared → Prop), Q' () s₁ → wpAny (model prog w) A (match b with | true => rule "set.scan.the-table-gave-way" | false => pure ()) Q' E s₁ :=
   fun b s₁ Q' q => by cases b <;> first | exact wpAny_pure q | exact wpAny_rule q
  have p := layNew_perm t es ((strKind prog w).hash z) (.str z tk)
  have f := layNew_fits t es ((strKind prog w).hash z) (.str z tk)
  have l := layNew_led t es ((strKind prog w).hash z) (.str z tk)
  generalize layNew t es ((strKind prog w).hash z) (.str z tk) = L at p f l ⊢
  obtain ⟨es1, t1, wd, gv⟩ := L
  dsimp only at p f l ⊢
  rw [Array.toList_push] at p
  have tab : ∀ t2 : SetTable, t2.fits es1.size = true → t2.led = t1.led → t2.plain = false → Tab prog w es1 t2 (zs ++ [z]) := fun t2 h1 h2 h3 => {
   elts := fun e he => by
    rcases List.mem_append.mp (p.mem_iff.mp he) with he | he
    ·exact T.elts e he
    ·exact ⟨z, tk, List.mem_singleton.mp he⟩
   keys := by
    refine (p.map keyOf).trans ?_
    rw [List.map_append]
    exact T.keys.append (List.Perm.refl _)
   nodup := by
    rw [List.nodup_append]
    refine ⟨T.nodup, by simp, fun x hx y hy e => ?_⟩
    rw [List.mem_singleton] at hy
    subst hy e
    exact hz hx
   few := by rw [List.length_append]; exact hb
   fits := h1
   led := h2.trans (l.trans T.led)
   plain := .inr h3 }
  have fin : ∀ h', Heap.SameBut a s.heap h' → SetAt prog w h' a (zs ++ [z]) → Q true { s with heap := h' } := fun h' q1 q2 => k true h' q1 (by unfold added; rw [if_neg hz]; exact q2)
  refine wpAny_bind (gw _ _ _ ?_)
  split
  ·rename_i hp
   refine wpAny_bind ?_
   rw [hashByValue_scannable 8 rfl]
   refine wpAny_pure ?_
   refine wp_laid gw ho hx hd (tab { t1 with plain := false } (SetTable.fits_plain_off f) rfl rfl) rfl fun h' q1 q2 => ?_
   dsimp only
   exact wpAny_pure (fin h' q1 q2)
  ·rename_i hp
   refine wpAny_bind (wpAny_pure ?_)
   simp only [↓reduceIte]
   refine wp_laid gw ho hx hd (tab t1 f rfl (Bool.eq_false_iff.mpr hp)) (Bool.eq_false_iff.mpr hp) fun h' q1 q2 => ?_
   dsimp only
   exact wpAny_pure (fin h' q1 q2)
theorem wp_find {z : Str} {tk : Tok} {Q : Option Nat → Shared → Prop} {o : Obj} {es : Array (Int × Value)} {ep : Nat} {t : SetTable} (ho : s.heap.get? a = some o) (hd : o.data = .set es ep t) (T : Tab prog w es t zs)
  (k0 : z ∉ zs → Q none s) (k1 : ∀ j, (hj : j < es.toList.length) → keyOf es.toList[j] = z → Q (some j) s) : wpAny (model prog w) A (setFind a (.str z tk) ((strKind prog w).hash z)) Q E s := by
 unfold setFind setFindIn
 refine wpAny_bind (wpAny_setState_of ho hd T.fits ?_)
 dsimp only
 rw [byScan_of (knd := strKind prog w) (x := .str z tk) rfl T.scan T.elems]
 simp only [↓reduceIte]
 refine wpAny_bind (wpAny_rule (wpAny_bind (wpAny_setScan_of (knd := strKind prog w) (k := z) (strKind_is _ _ _ _) ho hd T.fits T.elems ?_)))
 by_cases hz : z ∈ zs
 ·obtain ⟨j, hj, e, q⟩ := find_some T hz
  rw [e]
  dsimp only
  rw [Nat.zero_add]
  exact wpAny_pure (k1 j hj q)
 ·rw [find_none T hz]
  exact wpAny_pure (k0 hz)
theorem pick_perm {α : Type} : ∀ (l : List α) (j : Nat) (hj : j < l.length), (l[j] :: l.eraseIdx j).Perm l
 | [], _, h => by simp at h
 | x :: r, 0, _ => List.Perm.refl _
 | x :: r, j + 1, h => (List.Perm.swap x _ _).trans ((pick_perm r j (Nat.lt_of_succ_lt_succ h)).cons x)
end
end SetT
namespace SetT
open PySem
theorem pick_go {α : Type} (next : Nat → Nat) : ∀ (fuel k : Nat) (left : List α) (out : Array α), left.length ≤ fuel → (pickOrder.go next fuel k left out).toList.Perm (out.toList ++ left)
 | 0, k, left, out, h => by
  have : left = [] := List.length_eq_zero_iff.mp (by omega)
  subst this
  unfold pickOrder.go
  simp
 | fuel + 1, k, left, out, h => by
  unfold pickOrder.go
  cases e : left[next k % left.length]? with
  | none =>
   have : left = [] := by
    cases left with
    | nil => rfl
    | cons x r =>
     have hl : next k % (x :: r).length < (x :: r).length := Nat.mod_lt _ (by simp)
     rw [List.getElem?_eq_getElem hl] at e
     cases e
   subst this
   simp
  | some x =>
   dsimp only
   obtain ⟨hl, e2⟩ := List.getElem?_eq_some_iff.mp e
   refine (pick_go next fuel (k + 1) _ _ (by rw [List.length_eraseIdx, if_pos hl]; omega)).trans ?_
   rw [Array.toList_push, List.append_assoc]
   refine List.Perm.append_left _ ?_
   have := pick_perm left _ hl
   rw [e2] at this
   exact this
theorem pick_ok {α : Type} (next : Nat → Nat) (xs : Array α) : (pickOrder next xs).toList.Perm xs.toList := by
 have := pick_go next xs.size 0 xs.toList #[] (by simp)
 simpa [pickOrder] using this
section
variable {prog : Program} {w : World} {A : Around} {E : Value → Shared → Prop} {s : Shared} {a : Addr} {zs : List Str}
theorem wp_choose {src : Source} {n : Nat} {Q : Nat → Shared → Prop} (hn : n ≠ 0) (h : ∀ i d, i < n → Q i { s with drawn := d }) : wpAny (model prog w) A (choose src n) Q E s :=
 fun Γ p _ => ⟨hn, h _ _ (Nat.mod_lt _ (Nat.pos_of_ne_zero hn))⟩
theorem wp_draw {α : Type} : ∀ (n : Nat) (xs : List α) (s : Shared) (Q : List α → Shared → Prop), xs.length ≤ n → (∀ ys d, ys.Perm xs → Q ys { s with drawn := d }) → wpAny (model prog w) A (drawOrder n xs) Q E s
 | 0, xs, s, Q, h, k => by
  have : xs = [] := List.length_eq_zero_iff.mp (by omega)
  subst this
  unfold drawOrder
  exact wpAny_pure (k [] s.drawn (List.Perm.refl _))
 | n + 1, [], s, Q, h, k => by
  unfold drawOrder
  exact wpAny_pure (k [] s.drawn (List.Perm.refl _))
 | n + 1, x :: r, s, Q, h, k => by
  unfold drawOrder
  refine wpAny_bind (wp_choose (by simp) fun i d hi => ?_)
  rw [List.getElem?_eq_getElem hi]
  dsimp only
  refine wpAny_bind (wp_draw n _ _ _ (by rw [List.length_eraseIdx, if_pos hi]; omega) fun ys d2 p => ?_)
  exact wpAny_pure (k _ d2 ((p.cons _).trans (pick_perm _ i hi)))
theorem wp_text {Q : Bool → Shared → Prop} (k : Q (byTx w) s) : wpAny (model prog w) A setsByText Q E s := by
 unfold setsByText
 exact wpAny_bind (wpAny_askSetting (wpAny_pure k))
variable {o : Obj} {es : Array (Int × Value)} {ep : Nat} {t : SetTable}
end
end SetT
namespace SetT
open PySem
open Builtin.Frozenset
section
variable {prog : Program} {w : World} {A : Around} {E : Value → Shared → Prop} {s : Shared} {a : Addr} {zs : List Str}
structure Bare (w : World) (t : SetTable) : Prop where
 place : t.place = #[]
 dummies : t.dummies = #[]
 led : t.led = !byTx w
 plain : t.plain = true
theorem Bare.tab {t : SetTable} (B : Bare w t) : Tab prog w #[] t [] :=
 ⟨fun e he => by simp at he, by simp, List.nodup_nil, by decide, by unfold SetTable.fits SetTable.fill; rw [B.place, B.dummies]; simp, B.led, .inl rfl⟩
variable {o : Obj} {ep : Nat} {t : SetTable}
end
end SetT
namespace SetT
open PySem
open Builtin.Frozenset
section
variable {prog : Program} {w : World} {A : Around} {E : Value → Shared → Prop} {s : Shared} {a r : Addr} {za zr : List Str}
end
end SetT
namespace SetT
open PySem
open Builtin.Frozenset
theorem added_mem (zs : List Str) (z y : Str) : y ∈ added zs z ↔ y ∈ zs ∨ y = z := by
 unfold added
 split
 ·rename_i h
  exact ⟨.inl, fun q => q.elim id fun e => e ▸ h⟩
 ·rw [List.mem_append, List.mem_singleton]
section
variable {prog : Program} {w : World} {A : Around} {E : Value → Shared → Prop} {s : Shared}
noncomputable def setNew (w : World) : Obj := { cls := .type "set", dict := none, data := .set #[] 0 (.fresh 0 0 (!byTx w)) }
theorem setNew_at {h : Heap} {a : Addr} (e : h.get? a = some (setNew w)) : SetAt prog w h a [] := ⟨_, _, _, _, e, ⟨rfl, rfl, rfl⟩, rfl, Bare.tab ⟨rfl, rfl, rfl, rfl⟩⟩
variable {R : Result → Shared → Prop} {I : Addr} {fp wr : List Addr} {G : Array GenState → Array GenState → Prop} {n : Nat} {P : Nat → Value → Prop} {St : Nat → Shared → Prop}
end
end SetT
namespace SetT
open PySem
open Builtin.Frozenset
theorem slot_next : Slot "set_iterator" "__next__" "set_iterator.__next__" :=
 .of (owner := "set_iterator") (n := "__next__") (by rw [typeLookup_type, builtinLookup_eq_fast]; kernel_rfl) (by decide +kernel) (by decide +kernel) (by decide +kernel)
  (by first | exact .inl (by decide +kernel) | exact .inr (by decide +kernel)) (by rw [isSubtype_type]; kernel_rfl)
theorem entry_next : entryFor table "set_iterator.__next__" = some Builtin.«set_iterator.__next__» := entryFor_of_fast (by kernel_rfl)
theorem args_next (a : Value) : argsOk "set_iterator.__next__" ⟨[a], []⟩ := by unfold argsOk; kernel_rfl
theorem entry_iter : entryFor table "set.__iter__" = some Builtin.«frozenset.__iter__» :=
 entryFor_alias (id' := "frozenset.__iter__") (by kernel_rfl) rfl (by decide +kernel) (by kernel_rfl)
noncomputable def itO (first : Value) (i : Nat) (a : Addr) (n ep : Nat) : Obj := { cls := .type "set_iterator", data := .fields #[first, .int i 0, .ref a, .int n 0, .int ep 0] }
noncomputable def tupO (ys : List Nat) : Obj := { cls := .type "tuple", data := .seq (ys.map fun (i : Nat) => rawInt i).toArray }
inductive Way (w : World) (h : Heap) (a tp : Addr) (es : Array (Int × Value)) (ep : Nat) (t : SetTable) (ws : List (Int × Value)) (i : Nat) : Value → Prop where
 | drawn (ys : List Nat) (ht : h.get? tp = some (tupO ys)) (hl : ys.length = es.size) (hw : ∀ j : Nat, ∀ y, ys[j]? = some y → es[y]? = ws[j]?) : Way w h a tp es ep t ws i (.ref tp)
 | text (c : Int) (hb : byTx w = true) (hw : ws = (pickOrder (w.params.setOrder a ep) es).toList) : Way w h a tp es ep t ws i (.int c 0)
 | one (c : Nat) (hb : byTx w = false) (hs : es.size ≤ 1) (hw : ws = es.toList) (hc : SetTable.below t.place c = i) : Way w h a tp es ep t ws i (.int c 0)
section
variable {prog : Program} {w : World} {A : Around} {E : Value → Shared → Prop} {s : Shared} {a tp it : Addr} {zs : List Str} {o : Obj} {es : Array (Int × Value)} {ep : Nat} {t : SetTable} {ws : List (Int × Value)} {i : Nat} {first : Value}
theorem below_one (j c : Nat) : SetTable.below #[j] c = if j < c then 1 else 0 := by
 unfold SetTable.below
 show SetTable.below.go #[j] c 1 0 1 = _
 unfold SetTable.below.go
 simp only [Nat.zero_lt_one, if_true]
 show (if (#[j] : Array Nat).getD 0 c < c then SetTable.below.go #[j] c 0 1 1 else SetTable.below.go #[j] c 0 0 0) = _
 rw [show (#[j] : Array Nat).getD 0 c = j by rfl]
 split <;> rfl
theorem Way.keep {h h' : Heap} (W : Way w h a tp es ep t ws i first) (k : ∀ o, h.get? tp = some o → h'.get? tp = some o) : Way w h' a tp es ep t ws i first := by
 cases W with
 | drawn ys ht hl hw => exact .drawn ys (k _ ht) hl hw
 | text c hb hw => exact .text c hb hw
 | one c hb hs hw hc => exact .one c hb hs hw hc
theorem up0 {h : Heap} {n : Nat} (x : Value) (e : h.get? it = some (itO first i a n ep)) : (h.update it (Obj.mapFields (·.setIfInBounds 0 x))).get? it = some (itO x i a n ep) := Heap.get?_update_self _ e rfl
theorem up1 {h : Heap} {n : Nat} (e : h.get? it = some (itO first i a n ep)) : (h.update it (Obj.mapFields (·.setIfInBounds 1 (rawInt ((i : Int) + 1))))).get? it = some (itO first (i + 1) a n ep) := Heap.get?_update_self _ e rfl
theorem one_of {p : Array Nat} (h : p.size = 1) : ∃ j, p = #[j] := by
 obtain ⟨l⟩ := p
 match l, h with
 | [j], _ => exact ⟨j, rfl⟩
theorem place_size (T : Tab prog w es t zs) : t.place.size = es.size := by
 have := T.fits
 unfold SetTable.fits at this
 rw [Bool.and_eq_true, beq_iff_eq] at this
 exact this.1
theorem wp_next_item {Q : Option Value → Shared → Prop} (hi : s.heap.get? it = some (itO first i a es.size ep)) (ho : s.heap.get? a = some o) (hd : o.data = .set es ep t) (T : Tab prog w es t zs) (hW : Way w s.heap a tp es ep t ws i first)
  (hne : tp ≠ it) (hp : ws.Perm es.toList) {e : Int × Value} (he : ws[i]? = some e) (k : ∀ h' first', Heap.SameBut it s.heap h' → h'.get? it = some (itO first' (i + 1) a es.size ep) → Way w h' a tp es ep t ws (i + 1) first' → Q (some e.2) { s with heap := h' }) :
  wpAny (model prog w) A (pyNext (.ref it)) Q E s := by
 have hT : s.TypeIs (.ref it) "set_iterator" := ⟨_, hi, rfl⟩
 unfold pyNext
 refine wpAny_bind (wpAny_attempt (wpAny_callSpecial?_slot (name := Str.ofString "__next__") hT slot_next (wpAny_call_entry slot_next hT entry_next ?_ (args_next _))))
 unfold Builtin.«set_iterator.__next__»
 refine wpAny_bind (wpAny_pure ?_)
 refine wpAny_bind (wpAny_fieldsOf hi rfl ?_)
 dsimp only
 refine wpAny_bind (wpAny_setEntries_of ho hd T.fits ?_)
 rw [if_neg (by simp)]
 have sb0 : ∀ x, Heap.SameBut it s.heap ((s.heap.update it (Obj.mapFields (·.setIfInBounds 0 x))).update it (Obj.mapFields (·.setIfInBounds 1 (rawInt ((i : Int) + 1))))) := fun x => (Heap.SameBut.update ..).trans (Heap.SameBut.update ..)
 have hil : i < es.size := by
  have h1 : ws.length = es.size := by simpa using hp.length_eq
  rcases Nat.lt_or_ge i ws.length with h | h
  ·omega
  ·rw [List.getElem?_eq_none h] at he; cases he
 have sb1 : Heap.SameBut it s.heap (s.heap.update it (Obj.mapFields (·.setIfInBounds 1 (rawInt ((i : Int) + 1))))) := Heap.SameBut.update ..
 cases hW with
 | drawn ys ht hl hw =>
  dsimp only
  have hy : ys[i]? = some (ys[i]'(by omega)) := List.getElem?_eq_getElem _
  generalize ys[i]'(by omega) = y at hy
  refine wpAny_bind (wpAny_seqItems ht rfl ?_)
  dsimp only
  have e1 : (ys.map fun (i : Nat) => rawInt i).toArray[(i : Int).toNat]? = some (.int y 0) := by
   rw [Int.toNat_natCast, List.getElem?_toArray, List.getElem?_map, hy]
   rfl
  rw [e1]
  dsimp only
  unfold setNextDrawn
  refine wpAny_bind (wpAny_bind (wpAny_setState_of ho hd T.fits ?_))
  dsimp only
  rw [if_neg (by simp)]
  have e2 : es[(y : Int).toNat]? = some e := by
   rw [Int.toNat_natCast, hw i y hy]
   exact he
  rw [e2]
  dsimp only
  refine wpAny_pure (wpAny_bind (wpAny_setField hi rfl (by simp) ?_))
  refine wpAny_pure ⟨_, rfl, wpAny_pure (k _ _ sb1 (up1 hi) (.drawn ys ?_ hl hw))⟩
  rw [sb1.2 tp hne]
  exact ht
 | text c hb hw =>
  dsimp only
  unfold setNext
  refine wpAny_bind (wpAny_bind (wpAny_setState_of ho hd T.fits ?_))
  dsimp only
  refine wpAny_bind (wp_text ?_)
  rw [hb]
  simp only [if_true]
  rw [if_neg (by simp)]
  unfold setWalk
  refine wpAny_bind (wpAny_bind (wpAny_setState_of ho hd T.fits ?_))
  dsimp only
  refine wpAny_bind (wp_text ?_)
  rw [hb]
  simp only [if_true]
  refine wpAny_bind (wpAny_askSetting ?_)
  refine wpAny_pure ?_
  have e1 : (pickOrder ((model prog w).w.params.setOrder a ep) es)[(i : Int).toNat]? = some e := by
   rw [Int.toNat_natCast, ← Array.getElem?_toList]
   show (pickOrder (w.params.setOrder a ep) es).toList[i]? = _
   rw [← hw]
   exact he
  rw [e1]
  refine wpAny_pure ?_
  dsimp only [Option.map]
  refine wpAny_bind (wpAny_setField hi rfl (by simp) ?_)
  refine wpAny_bind (wpAny_setField (up0 _ hi) rfl (by simp) ?_)
  exact wpAny_pure ⟨_, rfl, wpAny_pure (k _ _ (sb0 _) (up1 (up0 _ hi)) (.text _ hb hw))⟩
 | one c hb hs hw hc =>
  have hi0 : i = 0 := by omega
  have hs1 : es.size = 1 := by omega
  subst hi0
  have hps : t.place.size = 1 := (place_size T).trans hs1
  obtain ⟨j, hj⟩ := one_of hps
  dsimp only
  unfold setNext
  refine wpAny_bind (wpAny_bind (wpAny_setState_of ho hd T.fits ?_))
  dsimp only
  refine wpAny_bind (wp_text ?_)
  rw [hb]
  simp only [Bool.false_eq_true, if_false]
  show wpAny _ _ (if (!t.plain && decide (es.size > 1)) = true then _ else _) _ _ _
  rw [if_neg (by rw [hs1]; simp)]
  refine wpAny_bind ?_
  show wpAny _ _ (if (!t.led && !es.isEmpty) = true then _ else _) _ _ _
  rw [if_neg (by rw [T.led, hb]; simp)]
  refine wpAny_pure ?_
  rw [Int.toNat_natCast, hc]
  have e1 : es[0]? = some e := by
   rw [← Array.getElem?_toList, ← hw]
   exact he
  have e2 : t.place[0]? = some j := by rw [hj]; rfl
  rw [e1, e2]
  refine wpAny_pure ?_
  dsimp only
  refine wpAny_bind (wpAny_setField hi rfl (by simp) ?_)
  refine wpAny_bind (wpAny_setField (up0 _ hi) rfl (by simp) ?_)
  refine wpAny_pure ⟨_, rfl, wpAny_pure (k _ _ (sb0 _) (up1 (up0 _ hi)) (.one (j + 1) hb hs hw ?_))⟩
  rw [hj, below_one, if_pos (Nat.lt_succ_self _)]
theorem wp_next_end {Q : Option Value → Shared → Prop} (hh : A.handled = none) (hi : s.heap.get? it = some (itO first i a es.size ep)) (ho : s.heap.get? a = some o) (hd : o.data = .set es ep t) (T : Tab prog w es t zs) (hW : Way w s.heap a tp es ep t ws i first)
  (hp : ws.Perm es.toList) (he : i = es.size) (k : ∀ h', Heap.ExtBut it s.heap h' → Q none { s with heap := h' }) :
  wpAny (model prog w) A (pyNext (.ref it)) Q E s := by
 have hT : s.TypeIs (.ref it) "set_iterator" := ⟨_, hi, rfl⟩
 have wl : ws.length = es.size := by simpa using hp.length_eq
 unfold pyNext
 refine wpAny_bind (wpAny_attempt (wpAny_callSpecial?_slot (name := Str.ofString "__next__") hT slot_next (wpAny_call_entry slot_next hT entry_next ?_ (args_next _))))
 unfold Builtin.«set_iterator.__next__»
 refine wpAny_bind (wpAny_pure ?_)
 refine wpAny_bind (wpAny_fieldsOf hi rfl ?_)
 dsimp only
 refine wpAny_bind (wpAny_setEntries_of ho hd T.fits ?_)
 rw [if_neg (by simp)]
 have fin : ∀ h2 : Heap, Heap.SameBut it s.heap h2 → wpAny (model prog w) A.in1 (newExc (Value.type "StopIteration") [] >>= fun x => (raiseNew x : Sem Fin)) (fun fin s' => ∃ v, fin = Fin.done (Flow.ret v) ∧ wpAny (model prog w) A (pure (some v)) Q E s')
   (fun e s' => wpAny (model prog w) A (isInstance e (Value.type "StopIteration") >>= fun b => if b = true then pure none else throw e) Q E s') { s with heap := h2 } := by
  intro h2 sb
  refine wpAny_bind ?_
  simp only [newExc, newTuple]
  refine wpAny_bind (wpAny_newObj_type ?_ (by size_fits))
  refine wpAny_bind (m := firstArgMember _ _) (wpAny_of_eq (a := Value.none) (by first | rfl | (simp only [firstArgMember]; rfl)) ?_)
  refine wpAny_newObj_type ?_ (by size_fits)
  simp only [raiseNew]
  refine wpAny_bind (wpAny_handled ?_)
  rw [show A.in1.handled = none from hh]
  refine wpAny_bind (wpAny_pure (wpAny_throw ?_))
  refine wpAny_bind (wpAny_isInstance (T := "StopIteration") (b := true) ⟨_, Heap.get?_push_size _ rfl, rfl⟩ isSubtype_stop ?_)
  exact wpAny_pure (k _ ((sb.extBut.push _).push _))
 cases hW with
 | drawn ys ht hl hw =>
  dsimp only
  refine wpAny_bind (wpAny_seqItems ht rfl ?_)
  dsimp only
  have e1 : (ys.map fun (i : Nat) => rawInt i).toArray[(i : Int).toNat]? = none := by
   rw [Int.toNat_natCast, List.getElem?_toArray, List.getElem?_eq_none]
   rw [List.length_map]
   omega
  rw [e1]
  dsimp only
  refine wpAny_bind (wpAny_setField hi rfl (by simp) ?_)
  refine wpAny_bind (wpAny_setField (up0 _ hi) rfl (by simp) ?_)
  exact fin _ ((Heap.SameBut.update ..).trans (Heap.SameBut.update ..))
 | text c hb hw =>
  dsimp only
  unfold setNext
  refine wpAny_bind (wpAny_bind (wpAny_setState_of ho hd T.fits ?_))
  dsimp only
  refine wpAny_bind (wp_text ?_)
  rw [hb]
  simp only [if_true]
  rw [if_neg (by simp)]
  unfold setWalk
  refine wpAny_bind (wpAny_bind (wpAny_setState_of ho hd T.fits ?_))
  dsimp only
  refine wpAny_bind (wp_text ?_)
  rw [hb]
  simp only [if_true]
  refine wpAny_bind (wpAny_askSetting ?_)
  refine wpAny_pure ?_
  have e1 : (pickOrder ((model prog w).w.params.setOrder a ep) es)[(i : Int).toNat]? = none := by
   rw [Int.toNat_natCast, ← Array.getElem?_toList]
   show (pickOrder (w.params.setOrder a ep) es).toList[i]? = _
   rw [← hw, List.getElem?_eq_none]
   omega
  rw [e1]
  refine wpAny_pure ?_
  dsimp only [Option.map]
  refine wpAny_bind (wpAny_setField hi rfl (by simp) ?_)
  exact fin _ (Heap.SameBut.update ..)
 | one c hb hs hw hc =>
  dsimp only
  unfold setNext
  refine wpAny_bind (wpAny_bind (wpAny_setState_of ho hd T.fits ?_))
  dsimp only
  refine wpAny_bind (wp_text ?_)
  rw [hb]
  simp only [Bool.false_eq_true, if_false]
  show wpAny _ _ (if (!t.plain && decide (es.size > 1)) = true then _ else _) _ _ _
  rw [if_neg (by rw [decide_eq_false (by omega)]; simp)]
  refine wpAny_bind ?_
  show wpAny _ _ (if (!t.led && !es.isEmpty) = true then _ else _) _ _ _
  rw [if_neg (by rw [T.led, hb]; simp)]
  refine wpAny_pure ?_
  rw [Int.toNat_natCast, hc]
  have e1 : es[i]? = none := Array.getElem?_eq_none (by omega)
  rw [e1]
  refine wpAny_pure ?_
  dsimp only
  refine wpAny_bind (wpAny_setField hi rfl (by simp) ?_)
  exact fin _ (Heap.SameBut.update ..)
end
end SetT
namespace SetT
open PySem PySem.Spec
open Builtin.Frozenset
theorem slot_iiter : Slot "set_iterator" "__iter__" "set_iterator.__iter__" :=
 .of (owner := "set_iterator") (n := "__iter__") (by rw [typeLookup_type, builtinLookup_eq_fast]; kernel_rfl) (by decide +kernel) (by decide +kernel) (by decide +kernel)
  (by first | exact .inl (by decide +kernel) | exact .inr (by decide +kernel)) (by rw [isSubtype_type]; kernel_rfl)
theorem entry_iiter : entryFor table "set_iterator.__iter__" = some Builtin.«dict_keyiterator.__iter__» :=
 entryFor_alias (id' := "dict_keyiterator.__iter__") (by kernel_rfl) rfl (by decide +kernel) (by kernel_rfl)
theorem args_iiter (a : Value) : argsOk "set_iterator.__iter__" ⟨[a], []⟩ := by unfold argsOk; kernel_rfl
section
variable {prog : Program} {w : World} {A : Around} {E : Value → Shared → Prop} {s : Shared} {a tp it : Addr} {zs : List Str} {o : Obj} {es : Array (Int × Value)} {ep : Nat} {t : SetTable} {ws : List (Int × Value)} {i : Nat} {first : Value}
theorem walks_set (hh : A.handled = none) (h1 : a ≠ it) (h2 : tp ≠ it) (hd : o.data = .set es ep t) (T : Tab prog w es t zs) (hp : ws.Perm es.toList) :
  Walks prog w A it [it, a, tp] [it] es.size (fun i v => ∃ e, ws[i]? = some e ∧ v = e.2) (fun i h => ∃ first, h.get? it = some (itO first i a es.size ep) ∧ h.get? a = some o ∧ Way w h a tp es ep t ws i first) where
 sub := fun b hb => by simp at hb; simp [hb]
 frame := fun i h h' ⟨first, q1, q2, q3⟩ k => ⟨first, k it (by simp) _ q1, k a (by simp) _ q2, q3.keep (k tp (by simp))⟩
 item := fun i s Q E hi ⟨first, q1, q2, q3⟩ k => by
  have wl : ws.length = es.size := by simpa using hp.length_eq
  obtain ⟨e, he⟩ : ∃ e, ws[i]? = some e := ⟨ws[i]'(by omega), List.getElem?_eq_getElem _⟩
  refine wp_next_item q1 q2 hd T q3 h2 hp he fun h' f' sb g1 g2 => ?_
  exact k _ h' s.toks ⟨e, he, rfl⟩ ⟨f', g1, by rw [sb.2 a h1]; exact q2, g2⟩ fun b o hb e => by rw [sb.2 b fun h => hb (by simp [h])]; exact e
 done := fun s Q E ⟨first, q1, q2, q3⟩ k => wp_next_end hh q1 q2 hd T q3 hp rfl fun h' e => k h' s.toks fun b o hb e2 => e b o (fun h => hb (by simp [h])) e2
 self := fun i s Q E ⟨first, q1, q2, q3⟩ k => by
  have hT : s.TypeIs (.ref it) "set_iterator" := ⟨_, q1, rfl⟩
  refine wpAny_pyIter_slot hT slot_iiter (wpAny_call_entry slot_iiter hT entry_iiter ?_ (args_iiter _))
  show wpAny _ _ (ret (.ref it)) _ _ s
  exact wpAny_pure ⟨_, rfl, "set_iterator", _, hT, slot_next.lookup, k⟩
theorem range_map (es : Array (Int × Value)) : (List.range es.size).map (fun y => (es[y]?).getD (0, Value.none)) = es.toList := by
 refine List.ext_getElem (by simp) fun j h1 h2 => ?_
 rw [List.getElem_map, List.getElem_range]
 have : j < es.size := by simpa using h2
 rw [Array.getElem?_eq_getElem this]
 simp
theorem wp_iter {Q : Value → Shared → Prop} (ho : s.heap.get? a = some o) (hx : o.ExactSet) (hd : o.data = .set es ep t) (T : Tab prog w es t zs)
  (k : ∀ h' d it tp ws first, (∀ b u, s.heap.get? b = some u → h'.get? b = some u) → s.heap.objs.size ≤ it → it < h'.objs.size → tp < h'.objs.size → (tp = a ∨ s.heap.objs.size ≤ tp) → tp ≠ it → h'.get? it = some (itO first 0 a es.size ep) → Way w h' a tp es ep t ws 0 first → ws.Perm es.toList → Q (.ref it) { s with heap := h', drawn := d }) :
  wpAny (model prog w) A (pyIter (.ref a)) Q E s := by
 have hT : s.TypeIs (.ref a) "set" := ⟨o, ho, hx.1⟩
 have hlt : a < s.heap.objs.size := Heap.lt_size ho
 refine wpAny_pyIter_slot hT F.slot_set_iter (wpAny_call_entry F.slot_set_iter hT entry_iter ?_ (F.args_set_iter_1 _))
 unfold Builtin.«frozenset.__iter__» slot0 slotArgs
 simp only [List.isEmpty_nil, Bool.not_true, Bool.false_eq_true, ↓reduceIte, bind_assoc, List.length_nil, bne_self_eq_false]
 unfold addrOf Builtin.Frozenset.sizeOf
 refine wpAny_bind (wpAny_pure ?_)
 refine wpAny_bind (wpAny_pure ?_)
 refine wpAny_bind (wpAny_bind (wpAny_setEntries_of ho hd T.fits (wpAny_pure ?_)))
 unfold setDrawn
 refine wpAny_bind (wpAny_bind (wpAny_setState_of ho hd T.fits ?_))
 dsimp only
 refine wpAny_bind (wp_text ?_)
 refine wpAny_pure ?_
 by_cases c : (!byTx w && (!t.plain && decide (es.size > 1))) = true
 ·show wpAny _ _ (if (!byTx w && (!t.plain && decide (es.size > 1))) = true then _ else _) _ _ _
  rw [if_pos c]
  refine wpAny_bind (wp_draw _ _ _ _ (by simp) fun ys d p => ?_)
  have ylen : ys.length = es.size := by simpa using p.length_eq
  refine wpAny_bind (wpAny_newTuple ?_ (by rw [List.length_map, ylen]; exact sz_ok (Nat.lt_succ_of_lt T.few')))
  have o1 : (s.heap.push (tupO ys)).get? a = some o := Heap.get?_push_of_some _ ho
  refine wpAny_bind (wpAny_setEpoch_of (s := { s with heap := s.heap.push (tupO ys), drawn := d }) o1 hd T.fits ?_)
  refine wpAny_bind (wpAny_newObj_type (wpAny_pure ⟨_, rfl, "set_iterator", _, ⟨_, Heap.get?_push_size _ rfl, rfl⟩, slot_next.lookup, ?_⟩))
  have hs1 : (s.heap.push (tupO ys)).objs.size = s.heap.objs.size + 1 := Heap.size_push ..
  refine k _ d _ s.heap.objs.size (ys.map fun y => (es[y]?).getD (0, Value.none)) (.ref s.heap.objs.size) (fun b u e => Heap.get?_push_of_some _ (Heap.get?_push_of_some _ e)) (by show s.heap.objs.size ≤ (s.heap.push (tupO ys)).objs.size; omega) ?_ ?_ (.inr (Nat.le_refl _)) ?_ (Heap.get?_push_size _ rfl) ?_ ?_
  ·show (s.heap.push (tupO ys)).objs.size < ((s.heap.push (tupO ys)).push _).objs.size
   simp only [Heap.size_push]
   omega
  ·show s.heap.objs.size < ((s.heap.push (tupO ys)).push _).objs.size
   rw [Heap.size_push, hs1]
   omega
  ·show s.heap.objs.size ≠ (s.heap.push (tupO ys)).objs.size
   omega
  ·refine .drawn ys (Heap.get?_push_of_some _ (Heap.get?_push_size _ rfl)) ylen fun j y hy => ?_
   have hm : y < es.size := by
    have := p.mem_iff.mp (List.mem_of_getElem? hy)
    simpa using this
   rw [List.getElem?_map, hy]
   show _ = some ((es[y]?).getD (0, Value.none))
   rw [Array.getElem?_eq_getElem hm]
   rfl
  ·have := p.map fun y => (es[y]?).getD (0, Value.none)
   rwa [range_map] at this
 ·show wpAny _ _ (if (!byTx w && (!t.plain && decide (es.size > 1))) = true then _ else _) _ _ _
  rw [if_neg c]
  refine wpAny_bind (wpAny_pure ?_)
  refine wpAny_bind (wpAny_setEpoch_of ho hd T.fits ?_)
  refine wpAny_bind (wpAny_newObj_type (wpAny_pure ⟨_, rfl, "set_iterator", _, ⟨_, Heap.get?_push_size _ rfl, rfl⟩, slot_next.lookup, ?_⟩))
  have kk := fun ws hW hp => k (s.heap.push (itO (.int 0 0) 0 a es.size ep)) s.drawn s.heap.objs.size a ws (.int 0 0) (fun b u e => Heap.get?_push_of_some _ e) (Nat.le_refl _) (by rw [Heap.size_push]; exact Nat.lt_succ_self _) (by rw [Heap.size_push]; exact Nat.lt_succ_of_lt hlt) (.inl rfl) (Nat.ne_of_lt hlt) (Heap.get?_push_size _ rfl) hW hp
  cases hb : byTx w with
  | true => exact kk _ (.text 0 hb rfl) (pick_ok _ _)
  | false =>
   have h1 : es.size ≤ 1 := by
    rcases T.plain with q | q
    ·rw [q]; simp
    ·rw [hb, q] at c
     simp at c
     exact c
   refine kk es.toList (.one 0 hb h1 rfl ?_) (List.Perm.refl _)
   have hps := place_size T
   rcases Nat.lt_or_ge es.size 1 with h | h
   ·have : t.place = #[] := Array.eq_empty_of_size_eq_zero (by omega)
    rw [this]
    rfl
   ·obtain ⟨j, hj⟩ := one_of (p := t.place) (by omega)
    rw [hj, below_one, if_neg (Nat.not_lt_zero _)]
theorem len_set : typeLookup (.type "set") "__len__" = pure (some (.builtin "set.__len__")) := F.slot_set_len.lookup
theorem wp_hint {Q : Bool → Shared → Prop} (hT : s.TypeIs (.ref a) "set") (k : Q false s) : wpAny (model prog w) A (Builtin.List.listLengthHint (.ref a)) Q E s := by
 unfold Builtin.List.listLengthHint
 refine wpAny_bind (wpAny_specialOf hT len_set ?_)
 dsimp only
 have e1 : splitId "set.__len__" = some ("set", "__len__") := by kernel_rfl
 rw [e1]
 dsimp only
 refine wpAny_bind (wpAny_isInstance hT sub_set_self ?_)
 simp only [Bool.not_true, Bool.false_eq_true, if_false]
 rw [if_pos]
 ·exact wpAny_bind (wpAny_typeOf hT (wpAny_pure k))
 ·decide +kernel
theorem wp_collect {Q : List Value → Shared → Prop} (hh : A.handled = none) (ho : s.heap.get? a = some o) (hx : o.ExactSet) (hd : o.data = .set es ep t) (T : Tab prog w es t zs)
  (k : ∀ s' (acc : List (Int × Value)), (∀ b u, s.heap.get? b = some u → s'.heap.get? b = some u) → s'.gens = s.gens → s'.os = s.os → s.heap.objs.size < s'.heap.objs.size → acc.Perm es.toList → Q (acc.map (·.2)) s') : wpAny (model prog w) A (collect (.ref a)) Q E s := by
 have hlt : a < s.heap.objs.size := Heap.lt_size ho
 unfold collect
 refine wpAny_bind (wpAny_runValue (codeAny_builtin F.entry_proto_collect ?_))
 rw [Around.under_plainId F.plain_proto_collect _]
 show wpAny _ A.in1 (newList [] >>= fun l => again (.builtin "list.__iadd__" ⟨[l, .ref a], []⟩)) _ _ s
 refine wpAny_bind (wpAny_newList ?_)
 refine wpAny_pure ⟨plainId_quiet F.plain_list_iadd _, codeAny_builtin F.entry_list_iadd ?_⟩
 rw [Around.under_plainId F.plain_list_iadd _]
 generalize hL : s.heap.objs.size = L
 have ho1 : (s.heap.push { cls := .type "list", data := .seq ([] : List Value).toArray }).get? a = some o := Heap.get?_push_of_some _ ho
 have hS1 : (s.heap.push { cls := .type "list", data := .seq ([] : List Value).toArray }).get? L = some { cls := .type "list", data := .seq ([] : List Value).toArray } := by rw [← hL]; exact Heap.get?_push_size _ rfl
 have hT : Shared.TypeIs { s with heap := s.heap.push { cls := .type "list", data := .seq ([] : List Value).toArray } } (.ref a) "set" := ⟨o, ho1, hx.1⟩
 show wpAny _ A.in1 (Builtin.List.listExtendWith (.ref L) (.ref a) (.ref L)) _ _ _
 unfold Builtin.List.listExtendWith
 refine wpAny_bind (wpAny_typeOf hT ?_)
 have n1 : Builtin.List.listSameRef (.ref L) (.ref a) = false := by
  have : L ≠ a := by rw [← hL]; exact Nat.ne_of_gt hlt
  simp [Builtin.List.listSameRef, this]
 have n2 : (Value.type "set" == Value.type "list") = false := by decide
 have n3 : (Value.type "set" == Value.type "tuple") = false := by decide
 simp only [n1, n2, n3, Bool.or_false, Bool.false_eq_true, if_false]
 refine wpAny_bind (wp_iter ho1 hx hd T fun h2 d it tp ws first kp2 hge hi2 ht2 hor hne gi W p => ?_)
 have ho2 := kp2 a o ho1
 have hS2 := kp2 L _ hS1
 have hszp : (s.heap.push { cls := .type "list", data := .seq ([] : List Value).toArray }).objs.size = L + 1 := by rw [Heap.size_push, hL]
 refine wpAny_bind (wpAny_holding (wp_hint (a := a) (s := { s with heap := h2, drawn := d }) ⟨o, ho2, hx.1⟩ ?_))
 show wpAny _ A.in1 (rule "list.extend.makes-room" >>= fun _ => Builtin.List.listTouch (.ref L) >>= fun _ => again (.builtin "list.extend.loop" ⟨[.ref L, .ref it, .ref L], []⟩)) _ _ _
 refine wpAny_bind (wpAny_rule ?_)
 refine wpAny_bind ?_
 show wpAny _ A.in1 (updateSeq L (·.push .none) >>= fun _ => updateSeq L (·.pop)) _ _ _
 refine wpAny_bind (wpAny_updateSeq hS2 rfl ?_)
 have hS3 := Heap.get?_update_self (Obj.mapSeq (·.push Value.none)) hS2 rfl
 refine wpAny_updateSeq hS3 rfl ?_
 have hS4 := Heap.get?_update_self (Obj.mapSeq (·.pop)) hS3 rfl
 have oth : ∀ b u, b ≠ L → h2.get? b = some u → ((h2.update L (Obj.mapSeq (·.push Value.none))).update L (Obj.mapSeq (·.pop))).get? b = some u :=
  fun b u hb e => (Heap.get?_update_other _ _ (Ne.symm hb)).trans ((Heap.get?_update_other _ _ (Ne.symm hb)).trans e)
 have hitL : it ≠ L := by
  have hge' : L + 1 ≤ it := by rw [← hszp]; exact hge
  exact Nat.ne_of_gt hge'
 have haL : a ≠ L := by rw [← hL]; exact Nat.ne_of_lt hlt
 have hai : a ≠ it := by
  have hge' : L + 1 ≤ it := by rw [← hszp]; exact hge
  intro e
  rw [← hL, ← e] at hge'
  exact absurd hge' (Nat.not_le.mpr (Nat.lt_succ_of_lt hlt))
 have htL : tp ≠ L := by
  rcases hor with h | h
  ·rw [h]; exact haL
  ·have h' : L + 1 ≤ tp := by rw [← hszp]; exact h
   exact Nat.ne_of_gt h'
 have hfp : L ∉ [it, a, tp] := by
  intro h
  rcases List.mem_cons.mp h with h | h
  ·exact hitL h.symm
  ·rcases List.mem_cons.mp h with h | h
   ·exact haL h.symm
   ·exact htL (List.mem_singleton.mp h).symm
 refine wpAny_pure ⟨plainId_quiet F.plain_extend_loop _, codeAny_extend_loopS ((walks_set (by simp [hh]) hai hne hd T p).toS) (sz_ok (Nat.lt_succ_of_lt T.few')) L hfp (.ref L) es.size 0 _ _ _ rfl (Nat.zero_le _) ⟨first, oth it _ hitL gi, oth a _ haL ho2, W.keep fun u e => oth tp u htL e⟩ hS4 (ItemsOf.nil _) fun s' acc c m hS' hI => ?_⟩
 show wpAny _ A (load L >>= _) _ _ s'
 refine wpAny_bind (wpAny_load hS' ?_)
 have wl : ws.length = es.size := by simpa using p.length_eq
 have el : acc.toList = ws.map (·.2) := by
  refine List.ext_getElem? fun j => ?_
  rw [Array.getElem?_toList, List.getElem?_map]
  cases hj : acc[j]? with
  | none =>
   have : ws[j]? = none := by
    rw [List.getElem?_eq_none]
    rw [wl, ← hI.1]
    exact Array.getElem?_eq_none_iff.mp hj
   rw [this]; rfl
  | some v =>
   obtain ⟨e, h1, h2⟩ := hI.2 j v hj
   rw [h1, h2]; rfl
 refine wpAny_pure ?_
 rw [el]
 refine k s' ws (fun b u e => ?_) m.gens m.os (by rw [hL]; exact Heap.lt_size hS') p
 have hb : b < s.heap.objs.size := Heap.lt_size e
 have hbL : b ≠ L := by rw [← hL]; exact Nat.ne_of_lt hb
 have hbi : b ≠ it := by
  intro q
  have hge' : L + 1 ≤ it := by rw [← hszp]; exact hge
  rw [← hL, ← q] at hge'
  exact absurd hge' (Nat.not_le.mpr (Nat.lt_succ_of_lt hb))
 refine m.heap b u (fun h => ?_) (oth b u hbL (kp2 b u (Heap.get?_push_of_some _ e)))
 rcases List.mem_cons.mp h with h | h
 ·exact hbL h
 ·exact hbi (List.mem_singleton.mp h)
end
end SetT
namespace SetT
open PySem PySem.Spec PyProof.Rows
theorem strsAre_of {prog : Program} {w : World} : ∀ (l : List (Int × Value)), (∀ e ∈ l, Elt prog w e) → StrsAre (l.map (·.2)) (l.map keyOf)
 | [], _ => .nil
 | e :: r, h => by
  obtain ⟨z, t, rfl⟩ := h e List.mem_cons_self
  exact .cons z t (strsAre_of r fun x hx => h x (List.mem_cons_of_mem _ hx))
section
variable {prog : Program} {w : World} {A : Around} {E : Value → Shared → Prop} {s : Shared} {a : Addr} {zs : List Str}
theorem sorted_set {Q : Value → Shared → Prop} (hh : A.handled = none) (S : SetAt prog w s.heap a zs) (h64 : zs.length < 64)
  (k : ∀ (s' : Shared) (l : Addr) (out : Array Value) (e : Nat) (ss : List Str), (∀ b u, s.heap.get? b = some u → s'.heap.get? b = some u) → s'.gens = s.gens → s'.os = s.os → s.heap.objs.size ≤ l → s'.heap.get? l = some (seqObj "list" out e) → StrsAre out.toList ss → ss.Perm zs → sortedS ss = true → Q (.ref l) s') :
  wpAny (model prog w) A (call (.builtin "sorted") [.ref a]) Q E s := by
 obtain ⟨o, es, ep, t, ho, hx, hd, T⟩ := S
 refine Calls.call_function_entry kind_sorted plain_sorted entry_sorted (args_sorted1 _) ?_
 unfold Builtin.«sorted»
 refine wpAny_bind (m := checkCount "sorted" 1 1 _) (wpAny_pure ?_)
 refine wpAny_bind (wp_collect (by simp [hh]) ho hx hd T fun s1 acc kp g1 o1 z1 p => ?_)
 have hS := strsAre_of (prog := prog) (w := w) acc fun e he => T.elts e (p.mem_iff.mp he)
 have hlen : (acc.map (·.2)).length = zs.length := by
  rw [List.length_map, p.length_eq, Array.length_toList, T.size]
 refine wpAny_bind (wpAny_newList ?_ (by rw [hlen]; exact sz_ok (by omega)))
 have hoL : (s1.heap.push (seqObj "list" (acc.map (·.2)).toArray 0)).get? s1.heap.objs.size = some (seqObj "list" (acc.map (·.2)).toArray 0) := Heap.get?_push_size _ rfl
 have hsz : s.heap.objs.size ≤ s1.heap.objs.size := Nat.le_of_lt z1
 refine wpAny_bind (wpAny_holding (wpAny_call_entry slot_list_sort ⟨_, hoL, rfl⟩ entry_list_sort (list_sort_treeK strKind_oneLt hoL hS.keysOf (fun v₁ v₂ rest e => keyKind_strs (by rw [← e]; exact hS)) (by rw [hlen]; exact h64) fun st' a1 a2 => ⟨_, rfl, ?_⟩) (args_list_sort _)))
 obtain ⟨ss, q1, q2, q3⟩ := sorted_out_str hS a1 a2
 obtain ⟨e, he⟩ := sortedHeap_at (out := (arrOf st').map (·.2)) hoL
 refine wpAny_pure ⟨_, rfl, k _ _ _ e ss (fun b u hb => ?_) g1 o1 hsz he q1 (q2.trans ((p.map keyOf).trans T.keys)) q3⟩
 have hb1 := kp b u hb
 have hlt := Heap.lt_size hb1
 show (sortedHeap (s1.heap.push _) s1.heap.objs.size _ _).get? b = some u
 rw [sortedHeap_old (Nat.ne_of_lt hlt) (by rw [size_push']; exact Nat.lt_succ_of_lt hlt)]
 exact Heap.get?_push_of_some _ hb1
end
end SetT
namespace L2
open PySem PySem.Spec PyProof.Rows SetT
noncomputable def SetO (prog : Program) (w : World) (a : Addr) (zs : List Str) : HO := .ext fun h => SetAt prog w h a zs
section
variable {X : Cx} {pins : List (Addr × Obj)} {σ : St} {H : Hp} {s s' : Shared} {a : Addr} {zs : List Str}
theorem Inv.like (I : Inv X pins σ H s) (e1 : s'.heap = s.heap) (e2 : s'.gens = s.gens) (e3 : s'.os = s.os) : Inv X pins σ H s' := by
 obtain ⟨h, g, d, t, o⟩ := s
 obtain ⟨h', g', d', t', o'⟩ := s'
 simp only at e1 e2 e3
 subst e1 e2 e3
 exact ⟨I.ok, I.os, I.bare, I.base, I.loc, I.cell, I.free, I.freeC, I.pin, I.hok, I.len⟩
theorem Inv.laid' {o : HO} (I : Inv X pins σ H s) (k : ∀ b u, s.heap.get? b = some u → s'.heap.get? b = some u) (e2 : s'.gens = s.gens) (e3 : s'.os = s.os) (hp : s.heap.objs.size ≤ a) (new : ObjOk X.prog X.w (upd H a o) s'.heap a o) : Inv X pins σ (upd H a o) s' :=
 (I.laid (t' := s.toks) k hp new).like (s' := s') rfl e2 e3
theorem set_obj {h : Heap} (S : SetAt X.prog X.w h a zs) : ObjOk X.prog X.w H h a (SetO X.prog X.w a zs) := by
 refine ⟨S, ?_, fun h1 h2 q k => q.keep k⟩
 obtain ⟨o, _, _, _, ho, _⟩ := S
 exact ⟨o, ho⟩
theorem Inv.set (I : Inv X pins σ H s) (h : H a = some (SetO X.prog X.w a zs)) : SetAt X.prog X.w s.heap a zs := (I.hok a _ h).1
theorem vals_of_strs : ∀ {us : List Value} {zs : List Str}, StrsAre us zs → Vals (zs.map V.str) us
 | _, _, .nil => .nil
 | _, _, .cons z t q => .cons ⟨t, rfl⟩ (vals_of_strs q)
theorem call_sorted_set (hc : X.calm = true) : CallR X (.builtin "sorted") (fun xs H Q => ∃ p zs, xs = [.ref p] ∧ H p = some (SetO X.prog X.w p zs) ∧ zs.length < 64 ∧ ∀ l ss, H l = none → ss.Perm zs → sortedS ss = true → Q (.ref l) (upd H l (.lst (ss.map V.str)))) := by
 intro pins s σ H xs us Q I r h
 obtain ⟨p, zs, rfl, hp, hl, q⟩ := h
 obtain ⟨u, rfl, ru⟩ := vals1 r
 cases (show u = Value.ref p from ru)
 refine sorted_set (I.ok.hd hc) (I.set hp) hl fun s' l out e ss kp e2 e3 hge he hS hpm hso => ?_
 have hlen : ss.length ≤ sizeLine := by rw [hpm.length_eq]; exact sz_ok (by omega)
 refine ⟨.ref _, _, I.laid' (s' := s') kp e2 e3 hge (show ObjOk X.prog X.w _ s'.heap l (.lst (ss.map V.str)) from ⟨by rw [List.length_map]; exact hlen, out.toList, e, vals_of_strs hS, he⟩), rfl, q _ ss (I.hok.fresh hge) hpm hso⟩
end
end L2
namespace L2
open PySem PySem.Spec PyProof.Rows
section
variable {X : Cx} {o e : Expr} {σ : St} {H : Hp} {Q : VK} {ap cp : Pos}
theorem ev_append (h : Ev X o σ H fun x H1 => ∃ l, x = .ref l ∧ (∃ xs, H1 l = some (.lst xs)) ∧ Ev X e σ H1 fun y H2 => ∃ xs, H2 l = some (.lst xs) ∧ xs.length < sizeLine ∧ Q .non (upd H2 l (.lst (xs ++ [y]))))
  (hbase : attributeBase o "append" X.env (eval o X.env) = eval o X.env := by rfl)
  (hfew : ((backTo cp (starEach [e] X.env)).all (fun x => !x.1) && (backToKw cp (keywordEach [] X.env)).all (fun x => x.1.isSome) && decide ([e].length + ([] : List Keyword).length + (if ([] : List Keyword).isEmpty then 0 else 1) < 30)) = true := by rfl)
  (hline : (ap.endLine == cp.line) = true := by rfl) (hs : starEach [e] X.env = (false, eval e X.env) :: starEach [] X.env := by rfl) (hplain : (backTo cp (starEach [] X.env)).any (·.1) = false := by rfl) (hst : isStar e = false := by rfl) :
  Ev X (.Call (.Attribute o "append" ap) [e] [] cp) σ H Q := by
 refine ev_of (pe_bm PySem.F.plainAttrs_list PySem.F.slot_list_append PySem.F.type_list_append mt_append pe_ev (pa_ea (es := [e])) hbase hfew hline hs hplain) (h.mono fun x H1 ⟨l, ex, ⟨xs, hl⟩, h2⟩ => ?_)
 subst ex
 refine ⟨.inl ⟨rfl, xs, SqL.of hl⟩, ?_⟩
 exact ea_cons (h2.mono fun y H2 ⟨ys, hy, hz, q⟩ => ea_nil ⟨l, ys, y, rfl, rfl, hy, hz, q⟩) hst
end
section
variable {X : Cx} {c : Expr} {body els rest : List Stmt} {D : Ends} {σ : St} {H : Hp} {pos : Pos}
theorem Run.nx {M M' : St → Hp → Prop} {l : List Stmt} (h : Run X l { D with nx := M } σ H) (f : ∀ σ' H', M σ' H' → M' σ' H') : Run X l { D with nx := M' } σ H :=
 ⟨fun pins s I => thn (h.run pins s I) fun fl s' q => by
  cases fl with
  | next =>
   obtain ⟨σ', H', I', m⟩ := q
   exact ⟨σ', H', I', f σ' H' m⟩
  | _ => exact q⟩
theorem run_ifM (φ ψ : Prop) (M : St → Hp → Prop) (hc : ∀ T : Bool → Hp → Prop, (∀ k : Bool, (k = true → φ) → (k = false → ψ) → T k H) → Et X c σ H T) (ht : φ → Run X body { D with nx := M } σ H) (hu : ψ → Run X els { D with nx := M } σ H)
  (hr : ∀ σ' H', M σ' H' → Run X rest D σ' H') : Run X (.If c body els pos :: rest) D σ H :=
 run_ifJ φ ψ hc (fun p => (ht p).nx hr) (fun p => (hu p).nx hr)
end
noncomputable def EqD (X : Cx) (H : Hp) (k : Nat) (x y : V) (b : Bool) : Prop := ∀ (pins : List (Addr × Obj)) (σ : St) (s : Shared) (A : Around) (u v : Value), Inv X pins σ H s → A.units + k < cLine → RelV x u → RelV y v → SeqAt.EqAt A s u v b
noncomputable def RcD (X : Cx) (H : Hp) (k : Nat) (x y : V) (b : Bool) : Prop := ∀ (pins : List (Addr × Obj)) (σ : St) (s : Shared) (A : Around) (u v : Value), Inv X pins σ H s → A.units + k < cLine → RelV x u → RelV y v → SeqAt.RcAt A s u v b
noncomputable def RnD (X : Cx) (H : Hp) (k : Nat) (x y : V) (b : Bool) : Prop := ∀ (pins : List (Addr × Obj)) (σ : St) (s : Shared) (A : Around) (u v : Value), Inv X pins σ H s → A.units + k < cLine → RelV x u → RelV y v → SeqAt.RcNeAt A s u v (!b)
section
variable {X : Cx} {H : Hp} {k : Nat} {a b : Addr} {xs ys : List V}
theorem eqD_flat {x y : V} (fx : flatV x = true) (fy : flatV y = true) : EqD X H k x y (eqV x y) := fun _ _ _ _ _ _ _ _ rx ry => eqAt_V rx ry fx fy
theorem eqD_same : EqD X H k (.ref a) (.ref a) true := fun _ _ _ _ u v _ _ rx ry => by
 cases rx
 cases ry
 exact SeqAt.EqAt.same _
theorem eqD_of (hne : a ≠ b) {c : Bool} (h : RcD X H k (.ref a) (.ref b) c) : EqD X H k (.ref a) (.ref b) c := fun pins σ s A u v I hu rx ry => by
 cases rx
 cases ry
 exact SeqAt.EqAt.of_refs hne (h pins σ s A _ _ I hu rfl rfl)
theorem vals_at {us : List Value} (r : Vals xs us) {j : Nat} (h : j < us.length) : ∃ x, xs[j]? = some x ∧ RelV x us[j] := by
 have hl := r.length
 have hj : j < xs.length := by omega
 obtain ⟨u, e, q⟩ := r.get (List.getElem?_eq_getElem hj)
 rw [List.getElem?_eq_getElem h] at e
 cases e
 exact ⟨_, List.getElem?_eq_getElem hj, q⟩
theorem rcD_list (e : Nat → Bool) (ha : SqL X.K H a xs) (hb : SqL X.K H b ys) (hl : xs.length = ys.length) (he : ∀ j x y, xs[j]? = some x → ys[j]? = some y → EqD X H k x y (e j)) : RcD X H (k + 1) (.ref a) (.ref b) ((List.range xs.length).all e) := fun pins σ s A u v I hu rx ry => by
 cases rx
 cases ry
 obtain ⟨i1, r1, p1, _⟩ := I.list ha
 obtain ⟨i2, r2, p2, _⟩ := I.list hb
 have l1 := r1.length
 have l2 := r2.length
 have q := SeqAt.RcAt.lists (A := A) (e := e) p1.isList p2.isList (by simp; omega) (by omega) fun j h1 h2 => by
  obtain ⟨x, ex, qx⟩ := vals_at r1 (j := j) (by simpa using h1)
  obtain ⟨y, ey, qy⟩ := vals_at r2 (j := j) (by simpa using h2)
  exact he j x y ex ey pins σ s A.in1 _ _ I (by show A.units + 1 + k < cLine; omega) (by simpa using qx) (by simpa using qy)
 rw [List.size_toArray, ← l1] at q
 exact q
theorem rnD_list (e : Nat → Bool) (ha : SqL X.K H a xs) (hb : SqL X.K H b ys) (hl : xs.length = ys.length) (he : ∀ j x y, xs[j]? = some x → ys[j]? = some y → EqD X H k x y (e j)) : RnD X H (k + 1) (.ref a) (.ref b) ((List.range xs.length).all e) := fun pins σ s A u v I hu rx ry => by
 cases rx
 cases ry
 obtain ⟨i1, r1, p1, _⟩ := I.list ha
 obtain ⟨i2, r2, p2, _⟩ := I.list hb
 have l1 := r1.length
 have l2 := r2.length
 have q := SeqAt.RcNeAt.lists (A := A) (e := e) p1.isList p2.isList (by simp; omega) (by omega) fun j h1 h2 => by
  obtain ⟨x, ex, qx⟩ := vals_at r1 (j := j) (by simpa using h1)
  obtain ⟨y, ey, qy⟩ := vals_at r2 (j := j) (by simpa using h2)
  exact he j x y ex ey pins σ s A.in1 _ _ I (by show A.units + 1 + k < cLine; omega) (by simpa using qx) (by simpa using qy)
 rw [List.size_toArray, ← l1] at q
 exact q
theorem rcD_lens (ha : SqL X.K H a xs) (hb : SqL X.K H b ys) (hl : xs.length ≠ ys.length) : RcD X H k (.ref a) (.ref b) false := fun pins σ s A u v I hu rx ry => by
 cases rx
 cases ry
 obtain ⟨i1, r1, p1, _⟩ := I.list ha
 obtain ⟨i2, r2, p2, _⟩ := I.list hb
 have l1 := r1.length
 have l2 := r2.length
 exact SeqAt.RcAt.lists_lengths p1.isList p2.isList (by simp; omega) (by omega)
theorem rnD_lens (ha : SqL X.K H a xs) (hb : SqL X.K H b ys) (hl : xs.length ≠ ys.length) : RnD X H k (.ref a) (.ref b) false := fun pins σ s A u v I hu rx ry => by
 cases rx
 cases ry
 obtain ⟨i1, r1, p1, _⟩ := I.list ha
 obtain ⟨i2, r2, p2, _⟩ := I.list hb
 have l1 := r1.length
 have l2 := r2.length
 exact SeqAt.RcNeAt.lists_lengths p1.isList p2.isList (by simp; omega) (by omega)
theorem rcD_tup (e : Nat → Bool) (ha : SqT X.K H a xs) (hb : SqT X.K H b ys) (hl : xs.length = ys.length) (he : ∀ j x y, xs[j]? = some x → ys[j]? = some y → EqD X H k x y (e j)) : RcD X H (k + 1) (.ref a) (.ref b) ((List.range xs.length).all e) := fun pins σ s A u v I hu rx ry => by
 cases rx
 cases ry
 obtain ⟨i1, r1, p1, _⟩ := I.tuple ha
 obtain ⟨i2, r2, p2, _⟩ := I.tuple hb
 have l1 := r1.length
 have l2 := r2.length
 have q := SeqAt.RcAt.tuples (A := A) (e := e) p1 p2 (by omega) fun j h1 h2 => by
  obtain ⟨x, ex, qx⟩ := vals_at r1 (j := j) (by simpa using h1)
  obtain ⟨y, ey, qy⟩ := vals_at r2 (j := j) (by simpa using h2)
  exact he j x y ex ey pins σ s A.in1 _ _ I (by show A.units + 1 + k < cLine; omega) (by simpa using qx) (by simpa using qy)
 rw [List.size_toArray, List.size_toArray, ← l1, ← l2, hl, Nat.min_self, ← hl] at q
 simpa using q
theorem all_true (n : Nat) : (List.range n).all (fun _ => true) = true := by simp
theorem op_eqD (hu : X.A.units + 100 < cLine) : OpR X (compareOp .Eq) (fun x y H Q => ∃ k c, k ≤ 100 ∧ RcD X H k x y c ∧ Q (.bl c) H) := by
 intro pins s σ H x y v u Q I rx ry h
 obtain ⟨k, c, hk, hc, q⟩ := h
 exact hc pins σ s X.A v u I (by omega) rx ry X.prog X.w X.xe _ ⟨.bl c, H, I, rfl, q⟩
theorem op_neD (hu : X.A.units + 100 < cLine) : OpR X (compareOp .NotEq) (fun x y H Q => ∃ k c, k ≤ 100 ∧ RnD X H k x y c ∧ Q (.bl (!c)) H) := by
 intro pins s σ H x y v u Q I rx ry h
 obtain ⟨k, c, hk, hc, q⟩ := h
 exact hc pins σ s X.A v u I (by omega) rx ry X.prog X.w X.xe _ ⟨.bl (!c), H, I, rfl, q⟩
end
end L2
namespace L2
open PySem PySem.Spec PyProof.Rows
section
variable {X : Cx} {H : Hp} {k : Nat} {a b : Addr} {xs ys : List V}
theorem rnD_tup (e : Nat → Bool) (ha : SqT X.K H a xs) (hb : SqT X.K H b ys) (hl : xs.length = ys.length) (he : ∀ j x y, xs[j]? = some x → ys[j]? = some y → EqD X H k x y (e j)) : RnD X H (k + 1) (.ref a) (.ref b) ((List.range xs.length).all e) := fun pins σ s A u v I hu rx ry => by
 cases rx
 cases ry
 obtain ⟨i1, r1, p1, _⟩ := I.tuple ha
 obtain ⟨i2, r2, p2, _⟩ := I.tuple hb
 have l1 := r1.length
 have l2 := r2.length
 have q := SeqAt.RcNeAt.tuples (A := A) (e := e) p1 p2 (by omega) fun j h1 h2 => by
  obtain ⟨x, ex, qx⟩ := vals_at r1 (j := j) (by simpa using h1)
  obtain ⟨y, ey, qy⟩ := vals_at r2 (j := j) (by simpa using h2)
  exact he j x y ex ey pins σ s A.in1 _ _ I (by show A.units + 1 + k < cLine; omega) (by simpa using qx) (by simpa using qy)
 rw [List.size_toArray, List.size_toArray, ← l1, ← l2, hl, Nat.min_self, ← hl] at q
 simpa using q
end
section
variable {X : Cx} {o e f c : Expr} {σ : St} {H : Hp} {Q : VK} {T : Bool → Hp → Prop} {ap cp pos : Pos} {body rest : List Stmt} {D : Ends}
theorem ev_m0 {name : Str} {Ty id : String} {r : V → List V → Hp → VK → Prop} (pa : PlainAttrs Ty) (slot : Slot Ty name id) (hty : typeOf (.builtin id) = pure (.type "method_descriptor")) (hm : MtR X id r)
  (h : Ev X o σ H fun x H1 => tyV X.K Ty x H1 ∧ r x [] H1 Q) (hbase : attributeBase o name X.env (eval o X.env) = eval o X.env := by rfl) (hline : (ap.endLine == cp.line) = true := by rfl) : Ev X (.Call (.Attribute o name ap) [] [] cp) σ H Q :=
 ev_of (pe_bm0 pa slot hty hm pe_ev hbase hline) h
theorem ev_m1 {name : Str} {Ty id : String} {r : V → List V → Hp → VK → Prop} (pa : PlainAttrs Ty) (slot : Slot Ty name id) (hty : typeOf (.builtin id) = pure (.type "method_descriptor")) (hm : MtR X id r)
  (h : Ev X o σ H fun x H1 => tyV X.K Ty x H1 ∧ Ev X e σ H1 fun y H2 => r x [y] H2 Q) (hbase : attributeBase o name X.env (eval o X.env) = eval o X.env := by rfl)
  (hfew : ((backTo cp (starEach [e] X.env)).all (fun x => !x.1) && (backToKw cp (keywordEach [] X.env)).all (fun x => x.1.isSome) && decide ([e].length + ([] : List Keyword).length + (if ([] : List Keyword).isEmpty then 0 else 1) < 30)) = true := by rfl)
  (hline : (ap.endLine == cp.line) = true := by rfl) (hs : starEach [e] X.env = (false, eval e X.env) :: starEach [] X.env := by rfl) (hplain : (backTo cp (starEach [] X.env)).any (·.1) = false := by rfl) (hst : isStar e = false := by rfl) : Ev X (.Call (.Attribute o name ap) [e] [] cp) σ H Q :=
 ev_of (pe_bm pa slot hty hm pe_ev (pa_ea (es := [e])) hbase hfew hline hs hplain) (h.mono fun x H1 ⟨t, h2⟩ => ⟨t, ea_cons (h2.mono fun y H2 q => ea_nil q) hst⟩)
theorem ev_m2 {name : Str} {Ty id : String} {r : V → List V → Hp → VK → Prop} (pa : PlainAttrs Ty) (slot : Slot Ty name id) (hty : typeOf (.builtin id) = pure (.type "method_descriptor")) (hm : MtR X id r)
  (h : Ev X o σ H fun x H1 => tyV X.K Ty x H1 ∧ Ev X e σ H1 fun y H2 => Ev X f σ H2 fun z H3 => r x [y, z] H3 Q) (hbase : attributeBase o name X.env (eval o X.env) = eval o X.env := by rfl)
  (hfew : ((backTo cp (starEach [e, f] X.env)).all (fun x => !x.1) && (backToKw cp (keywordEach [] X.env)).all (fun x => x.1.isSome) && decide ([e, f].length + ([] : List Keyword).length + (if ([] : List Keyword).isEmpty then 0 else 1) < 30)) = true := by rfl)
  (hline : (ap.endLine == cp.line) = true := by rfl) (hs : starEach [e, f] X.env = (false, eval e X.env) :: starEach [f] X.env := by rfl) (hplain : (backTo cp (starEach [f] X.env)).any (·.1) = false := by rfl) (hst : isStar e = false := by rfl) (hsf : isStar f = false := by rfl) : Ev X (.Call (.Attribute o name ap) [e, f] [] cp) σ H Q :=
 ev_of (pe_bm pa slot hty hm pe_ev (pa_ea (es := [e, f])) hbase hfew hline hs hplain) (h.mono fun x H1 ⟨t, h2⟩ => ⟨t, ea_cons (h2.mono fun y H2 h3 => ea_cons (h3.mono fun z H3 q => ea_nil q) hsf) hst⟩)
noncomputable def insertAt (xs : List V) (i : Nat) (y : V) : List V := xs.take i ++ y :: xs.drop i
noncomputable def rInsert : V → List V → Hp → VK → Prop := fun x vs H Q => ∃ l xs i y, x = .ref l ∧ vs = [.int i, y] ∧ H l = some (.lst xs) ∧ 0 ≤ i ∧ i.toNat ≤ xs.length ∧ xs.length < sizeLine ∧ Q .non (upd H l (.lst (insertAt xs i.toNat y)))
theorem fits_ix {i : Int} (h0 : 0 ≤ i) (h : i ≤ 16777216) : ¬ (!Builtin.List.listFitsIndex i) = true := by
 have e : Builtin.List.listFitsIndex i = true := by
  unfold Builtin.List.listFitsIndex
  rw [Bool.and_eq_true, decide_eq_true_eq, decide_eq_true_eq]
  omega
 rw [e]
 exact Bool.false_ne_true
theorem mt_insert : MtM X "list.insert" rInsert := by
 intro pins s σ H x vs v us Q I rx rv h
 obtain ⟨l, xs, i, y, rfl, rfl, hH, h0, hi, hz, q⟩ := h
 cases rx
 obtain ⟨u, w', rfl, ru, rw'⟩ := rv.two
 obtain ⟨tk, rfl⟩ := ru
 obtain ⟨z, its, n, r, hl, e⟩ := I.lstM hH
 have hs : sizeLine = 16777216 := sizeLine_eq
 have z2 : its.toArray.size ≤ sizeLine := by rw [List.size_toArray, ← hl]; exact z
 have mm := AutoSeq1.list_insert_list_int_val_1 l its.toArray n i tk w' (fits_ix h0 (by omega)) z2
 refine call_meets F.slot_list_insert ⟨_, e, rfl⟩ F.entry_list_insert (F.args_list_insert_3 _ _ _) mm ⟨e, ?_⟩
 have ef : (fun xs : Array Value => have k := if i < 0 then (i + (xs.size : Int)).toNat else min i.toNat xs.size; (xs.extract 0 k).push w' ++ xs.extract k) its.toArray = (its.take i.toNat ++ w' :: its.drop i.toNat).toArray := by
  have hn : ¬ i < 0 := by omega
  have hm : min i.toNat its.length = i.toNat := by omega
  simp only [hn, if_false, List.size_toArray, hm]
  apply Array.ext'
  simp
  exact List.take_of_length_le (by simp)
 refine ⟨.non, _, I.lset (its' := its.take i.toNat ++ w' :: its.drop i.toNat) hH e ef ((r.take i.toNat).append (.cons rw' (r.drop i.toNat))) ?_, rfl, q⟩
 rw [List.length_append, List.length_cons, List.length_take, List.length_drop]
 omega
noncomputable def rSetDef : V → List V → Hp → VK → Prop := fun x vs H Q => ∃ a kvs k y, x = .ref a ∧ vs = [kV k, y] ∧ H a = some (.dK kvs) ∧ kvs.length < sizeLine ∧
 ((∃ v, valV kvs k = some v ∧ Q v H) ∨ (valV kvs k = none ∧ Q y (upd H a (.dK (putK kvs k y)))))
theorem mt_setdef : MtM X "dict.setdefault" rSetDef := by
 intro pins s σ H x vs v us Q I rx rv h
 obtain ⟨a, kvs, k, y, rfl, rfl, hH, hz, q⟩ := h
 cases rx
 obtain ⟨u, w', rfl, ru, rw'⟩ := rv.two
 obtain ⟨z, hd, rs, rel, dd⟩ := dk_of I.hok hH
 have hl := rel.length
 refine call_meetsIn F.slot_dict_setdefault dd.typeIs F.entry_dict_setdefault (F.args_dict_setdefault_3 _ _ _) (kt_meets_setdefault (mixKind X.prog X.w) a (kV_is ru) hd w') ⟨rs, dd, by omega, fun v hv => ?_, fun hn h' dd' hs => ?_⟩
 ·have rv2 := rel.val k
  rw [hv] at rv2
  rcases q with ⟨v', e', q⟩ | ⟨e', _⟩
  ·rw [e'] at rv2
   exact ⟨v', H, I.tok _, rv2, q⟩
  ·rw [e'] at rv2
   exact rv2.elim
 ·have rv2 := rel.val k
  rw [hn] at rv2
  rcases q with ⟨v', e', _⟩ | ⟨e', q⟩
  ·rw [e'] at rv2
   exact rv2.elim
  ·have he : ∃ q, h'.get? a = some q := let ⟨q, _, _, hq, _⟩ := dd'; ⟨q, hq⟩
   have hl2 : (putK kvs k y).length ≤ sizeLine := by have := length_putK kvs k y; omega
   exact ⟨y, _, d_write I (by rw [hH]; exact True.intro) hs he (dk_new hl2 hd (rel.put k rw') dd'), rw', q⟩
theorem call_intB : CallR X (.type "int") (fun xs H Q => ∃ b : Bool, xs = [.bl b] ∧ Q (.int (if b then 1 else 0)) H) := by
 intro pins s σ H xs us Q I r h
 obtain ⟨b, rfl, q⟩ := h
 obtain ⟨u, rfl, ru⟩ := vals1 r
 cases (show u = Value.bool b from ru)
 exact call_int_bool ⟨.int (if b then 1 else 0), H, I.tok _, ⟨_, rfl⟩, q⟩
theorem run_ifH {els : List Stmt} (Φ : Bool → Hp → Prop) (M : St → Hp → Prop) (hc : Et X c σ H Φ) (ht : ∀ H1, Φ true H1 → Run X body { D with nx := M } σ H1) (hu : ∀ H1, Φ false H1 → Run X els { D with nx := M } σ H1)
  (hr : ∀ σ' H', M σ' H' → Run X rest D σ' H') : Run X (.If c body els pos :: rest) D σ H :=
 run_if (hc.mono fun k H1 p => by
  cases k with
  | true => rw [if_pos rfl]; exact (ht H1 p).nx hr
  | false => rw [if_neg Bool.false_ne_true]; exact (hu H1 p).nx hr)
theorem run_while (W : Nat → St → Hp → Prop) {m0 : Nat} (h0 : W m0 σ H)
  (turn : ∀ m σ H, W m σ H → Et X c σ H fun b H1 => if b = true then Run X body { D with nx := fun σ' H' => ∃ m', m' < m ∧ W m' σ' H', ct := fun σ' H' => ∃ m', m' < m ∧ W m' σ' H', bk := fun σ' H' => Run X rest D σ' H' } σ H1 else Run X rest D σ H1)
  (hp : PassesOwn (model X.prog X.w) X.A X.env X.xe := by exact PassesOwn.never) : Run X (.While c body [] pos :: rest) D σ H := by
 refine run_cons (ps_while hp pt_et pss_run) ⟨W, ⟨m0, h0⟩, fun m σ1 H1 w1 => (turn m σ1 H1 w1).mono fun b H2 q => ?_⟩
 cases b with
 | true =>
  rw [if_pos rfl] at q
  exact ⟨fun σ' H' => ∃ m', m' < m ∧ W m' σ' H', fun _ _ h => h, q⟩
 | false =>
  rw [if_neg Bool.false_ne_true] at q
  exact q
theorem ev_dnewK (h : ∀ p, H p = none → Q (.ref p) (upd H p (.dK []))) : Ev X (.Dict [] [] pos) σ H Q := ev_of pe_dnewK h
theorem ev_dnewT (h : ∀ p, H p = none → Q (.ref p) (upd H p (.dT []))) : Ev X (.Dict [] [] pos) σ H Q := ev_of pe_dnewT h
theorem ev_dget (hu : X.A.units + 1 < cLine) (h : Ev X o σ H fun x H1 => Ev X e σ H1 fun y H2 => ∃ a v, x = .ref a ∧ DGet H2 a y (some v) ∧ Q v H2) (hs : NoSl e := by intro _ _; rfl) : Ev X (.Subscript o e pos) σ H Q := ev_of (pe_dget hu pe_ev pe_ev hs) h
theorem et_din (hu : X.A.units + 1 < cLine) (h : Ev X e σ H fun y H1 => Ev X o σ H1 fun x H2 => ∃ a r, x = .ref a ∧ DGet H2 a y r ∧ T r.isSome H2) (hm : behindInMarks .In o = false := by with_unfolding_all rfl) : Et X (.Compare e [.In] [o] pos) σ H T :=
 et_of (pt_cmp (pc_din hu pe_ev pe_ev) hm) (h.mono fun y H1 h2 => h2.mono fun x H2 ⟨a, r, h3, h4, h5⟩ => ⟨a, r, h3, h4, _, rfl, h5⟩)
theorem et_dnotin (hu : X.A.units + 1 < cLine) (h : Ev X e σ H fun y H1 => Ev X o σ H1 fun x H2 => ∃ a r, x = .ref a ∧ DGet H2 a y r ∧ T (!r.isSome) H2) (hm : behindInMarks .NotIn o = false := by with_unfolding_all rfl) : Et X (.Compare e [.NotIn] [o] pos) σ H T :=
 et_of (pt_cmp (pc_dnotin hu pe_ev pe_ev) hm) (h.mono fun y H1 h2 => h2.mono fun x H2 ⟨a, r, h3, h4, h5⟩ => ⟨a, r, h3, h4, _, rfl, h5⟩)
theorem run_dput {p2 : Pos} (hu : X.A.units + 1 < cLine) (h : Ev X f σ H fun v H1 => Ev X o σ H1 fun x H2 => Ev X e σ H2 fun y H3 => ∃ a H4, x = .ref a ∧ DPut H3 a y v H4 ∧ Run X rest D σ H4) (hs : swapsWith f (some (.Subscript o e p2)) pos.line X.env = pure false := by rfl) :
  Run X (.Assign [.Subscript o e p2] f pos :: rest) D σ H := run_cons (ps_dput hu pe_ev pe_ev pe_ev hs) h
end
end L2
namespace Sort2
open PySem PySem.Spec PyProof.Rows
noncomputable def lexLt (a b : Int × Int) : Bool := if a.1 = b.1 then decide (a.2 < b.2) else decide (a.1 < b.1)
theorem keyLt_tuples (b : Bool) (x y : Value) : keyLt' (tuples' b) x y = (do
  let xs ← Builtin.List.listItems x
  let ys ← Builtin.List.listItems y
  for ((p, q), i) in (xs.toList.zip ys.toList).zipIdx do
   if !(← eqBool p q) then return ← oneLt' (b && i == 0) p q
  return xs.size < ys.size) := rfl
section
variable {prog : Program} {w : World} {A : Around} {E : Value → Shared → Prop} {s : Shared}
noncomputable def Pr (h : Heap) (a : Addr) (p : Int × Int) : Prop := ∃ o n t u, h.get? a = some o ∧ o.cls = .type "tuple" ∧ o.data = .seq #[.int p.1 t, .int p.2 u] n
theorem wp_eqInt {a b : Int} {t u : Tok} {Q : Bool → Shared → Prop} (h : Q (decide (a = b)) s) : wpAny (model prog w) A (eqBool (.int a t) (.int b u)) Q E s := by
 refine SeqAt.EqAt.int_int a t b u prog w E Q ?_
 have e : (a == b) = decide (a = b) := rfl
 rw [e]
 exact h
theorem wp_lt0 {a b : Int} {t u : Tok} {Q : Bool → Shared → Prop} (h : Q (decide (a < b)) s) : wpAny (model prog w) A (oneLt' false (.int a t) (.int b u)) Q E s := by
 rw [oneLt'_eq]
 simp only [Bool.false_eq_true, if_false]
 refine wpAny_bind ?_
 show wpAny _ _ (compareOp .Lt (.int a t) (.int b u)) _ _ _
 exact lt_int (wpAny_truthy_bool h)
theorem wp_keyLt {x y : Addr} {p q : Int × Int} {Q : Bool → Shared → Prop} (hx : Pr s.heap x p) (hy : Pr s.heap y q) (h : Q (lexLt p q) s) : wpAny (model prog w) A (keyLt' (tuples' true) (.ref x) (.ref y)) Q E s := by
 obtain ⟨ox, nx, tx, ux, hox, cx, dx⟩ := hx
 obtain ⟨oy, ny, ty, uy, hoy, cy, dy⟩ := hy
 rw [keyLt_tuples]
 refine wpAny_bind (listItems_at hox dx ?_)
 refine wpAny_bind (listItems_at hoy dy ?_)
 show wpAny _ _ (forIn [((Value.int p.1 tx, Value.int q.1 ty), 0), ((Value.int p.2 ux, Value.int q.2 uy), 1)] _ _ >>= _) _ _ _
 rw [List.forIn_cons]
 refine wpAny_bind (wpAny_bind ?_)
 dsimp only
 refine wpAny_bind (wp_eqInt ?_)
 by_cases c : p.1 = q.1
 ·rw [decide_eq_true c]
  simp only [Bool.not_true, Bool.false_eq_true, if_false]
  refine wpAny_pure ?_
  dsimp only
  rw [List.forIn_cons]
  refine wpAny_bind ?_
  dsimp only
  refine wpAny_bind (wp_eqInt ?_)
  by_cases c2 : p.2 = q.2
  ·rw [decide_eq_true c2]
   simp only [Bool.not_true, Bool.false_eq_true, if_false]
   refine wpAny_pure ?_
   dsimp only
   rw [List.forIn_nil]
   refine wpAny_pure (wpAny_pure ?_)
   have e : lexLt p q = false := by unfold lexLt; rw [if_pos c, c2]; simp
   rw [e] at h
   simpa using h
  ·rw [decide_eq_false c2]
   simp only [Bool.not_false, if_true]
   refine wpAny_bind (wp_lt0 (wpAny_pure ?_))
   dsimp only
   refine wpAny_pure (wpAny_pure ?_)
   have e : lexLt p q = decide (p.2 < q.2) := by unfold lexLt; rw [if_pos c]
   rw [e] at h
   exact h
 ·rw [decide_eq_false c]
  simp only [Bool.not_false, if_true]
  refine wpAny_bind (oneLt_int (wpAny_pure ?_))
  dsimp only
  refine wpAny_pure (wpAny_pure ?_)
  have e : lexLt p q = decide (p.1 < q.1) := by unfold lexLt; rw [if_neg c]
  rw [e] at h
  exact h
theorem sz2 {x y : Value} : (#[x, y] : Array Value).size ≤ sizeLine + 1 := by
 rw [sizeLine_eq]
 show 2 ≤ _
 decide
theorem first_eq (v : Value) : firstOfTuple' v = (do
  if (← typeOf v) != .type "tuple" then return none
  return (← Builtin.List.listItems v)[0]?) := rfl
theorem wp_first {x : Addr} {p : Int × Int} {Q : Option Value → Shared → Prop} (hx : Pr s.heap x p) (h : ∀ t, Q (some (.int p.1 t)) s) : wpAny (model prog w) A (firstOfTuple' (.ref x)) Q E s := by
 obtain ⟨ox, nx, tx, ux, hox, cx, dx⟩ := hx
 rw [first_eq]
 refine wpAny_bind (wpAny_typeOf (T := "tuple") ⟨ox, hox, cx⟩ ?_)
 rw [show (Value.type "tuple" != Value.type "tuple") = false by decide]
 simp only [Bool.false_eq_true, if_false]
 refine wpAny_bind (listItems_at hox dx ?_)
 exact wpAny_pure (h tx)
theorem wp_kind {x y : Addr} {p q : Int × Int} {Q : SortKind → Shared → Prop} (hx : Pr s.heap x p) (hy : Pr s.heap y q) (h : Q (tuples' true) s) : wpAny (model prog w) A (keyKind' #[.ref x, .ref y]) Q E s := by
 rw [keyKind'_eq, show (#[.ref x, .ref y] : Array Value) = [.ref x, .ref y].toArray from rfl, List.mapM_toArray]
 refine wpAny_bind (wpAny_map ?_)
 rw [List.mapM_cons]
 refine wpAny_bind (wp_first hx fun t => ?_)
 rw [List.mapM_cons]
 refine wpAny_bind (wpAny_bind (wp_first hy fun u => ?_))
 rw [List.mapM_nil]
 refine wpAny_bind (wpAny_pure (wpAny_pure (wpAny_pure ?_)))
 rw [if_pos (by simp)]
 refine wpAny_bind (wpAny_rule ?_)
 rw [oneTypeOnly'_eq]
 show wpAny _ _ ((Array.mapM typeOf [Value.int p.1 t, Value.int q.1 u].toArray >>= _) >>= _) _ _ _
 rw [List.mapM_toArray]
 have e1 : [Value.int p.1 t, Value.int q.1 u].mapM typeOf = (pure [Value.type "int", Value.type "int"] : Sem _) := rfl
 rw [e1]
 refine wpAny_pure ?_
 have e2 : (if ((#[Value.type "int", Value.type "int"] : Array Value).all fun x => x == (#[Value.type "int", Value.type "int"] : Array Value)[0]) = true then some (#[Value.type "int", Value.type "int"] : Array Value)[0] else none) = some (Value.type "int") := by
  rw [if_pos]
  ·rfl
  ·simp
 show Q (tuples' (Option.any (fun x => x != Value.type "tuple") _)) s
 rw [e2]
 exact h
theorem wp_at {st : SortSt} {x y : Addr} {p q : Int × Int} {i j : Nat} {Q : Option Bool → SortSt → Prop} (hk : kindOf st = tuples' true) (hi : (arrOf st)[i]? = some (.ref x, .ref x)) (hj : (arrOf st)[j]? = some (.ref y, .ref y)) (hx : Pr s.heap x p) (hy : Pr s.heap y q) (h : Q (some (lexLt p q)) st) :
  wpS (model prog w) A E s (ltAt' i j) Q st := by
 rw [ltAt'_eq]
 refine wpS_bind (wpS_get ?_)
 show wpS _ _ _ _ (elem' (arrOf st) i >>= fun a => elem' (arrOf st) j >>= fun b => lt' a b) Q st
 rw [elem'_eq, elem'_eq, hi, hj]
 refine wpS_bind (wpS_pure (wpS_bind (wpS_pure ?_)))
 rw [lt'_eq]
 refine wpS_bind (wpS_get ?_)
 rw [hk]
 refine wpS_bind (wpS_lift (wpAny_attempt (wp_keyLt hx hy ⟨rfl, ?_⟩)))
 exact wpS_pure h
noncomputable def sorted2 (x y : Addr) (p q : Int × Int) : Array Keyed := if lexLt q p then #[(.ref y, .ref y), (.ref x, .ref x)] else #[(.ref x, .ref x), (.ref y, .ref y)]
theorem wp_count {x y : Addr} {p q : Int × Int} {Q : Option Nat → SortSt → Prop} (hx : Pr s.heap x p) (hy : Pr s.heap y q)
  (h : Q (some 2) (SortSt.mk' (tuples' true) (sorted2 x y p q) #[] 7 none)) : wpS (model prog w) A E s (countRun' 0 2) Q (SortSt.mk' (tuples' true) #[(.ref x, .ref x), (.ref y, .ref y)] #[] 7 none) := by
 rw [countRun0_eq]
 refine wpS_bind ?_
 unfold ascLoop
 refine wpS_mono (wpS_forRange (I := fun i c st => st = SortSt.mk' (tuples' true) #[(.ref x, .ref x), (.ref y, .ref y)] #[] 7 none ∧ c = (none, i) ∧ (i = 2 → lexLt q p = false))
  (Q := fun c st => st = SortSt.mk' (tuples' true) #[(.ref x, .ref x), (.ref y, .ref y)] #[] 7 none ∧ ((c = (none, 1) ∧ lexLt q p = true) ∨ (c = (none, 2) ∧ lexLt q p = false))) ?_ ?_ ⟨rfl, rfl, fun h => by cases h⟩) ?_
 ·rintro i c st h1 h2 ⟨rfl, rfl, hI⟩
  have e : i = 1 := by omega
  subst e
  refine wpS_bind (wp_at rfl rfl rfl hy hx ?_)
  dsimp only
  cases hb : lexLt q p with
  | true =>
   rw [if_pos rfl]
   exact wpS_pure ⟨rfl, .inl ⟨rfl, rfl⟩⟩
  | false =>
   rw [if_neg Bool.false_ne_true]
   exact wpS_pure ⟨rfl, rfl, fun _ => rfl⟩
 ·rintro c st ⟨rfl, rfl, hI⟩
  exact ⟨rfl, .inr ⟨rfl, hI rfl⟩⟩
 ·rintro c st ⟨rfl, ⟨rfl, hb⟩ | ⟨rfl, hb⟩⟩
  ·dsimp only
   rw [if_neg (by decide), if_neg (by decide)]
   unfold descPart
   refine wpS_bind (wpS_lift (wpAny_rule ⟨rfl, ?_⟩))
   unfold descLoop
   refine wpS_bind (wpS_mono (wpS_forRange (I := fun i c st => c = (none, 2, 0) ∧ st = SortSt.mk' (tuples' true) #[(.ref x, .ref x), (.ref y, .ref y)] #[] 7 none) (Q := fun c st => c = (none, 2, 0) ∧ st = SortSt.mk' (tuples' true) #[(.ref x, .ref x), (.ref y, .ref y)] #[] 7 none) (fun i c st h1 h2 _ => by omega) (fun c st h => h) ⟨rfl, rfl⟩) ?_)
   rintro c st ⟨rfl, rfl⟩
   dsimp only
   rw [if_neg (by decide)]
   unfold tail3
   refine wpS_bind (wpS_reverse ?_)
   unfold ascLoop
   refine wpS_bind (wpS_mono (wpS_forRange (I := fun i c st => c = (none, 2) ∧ st = SortSt.mk' (tuples' true) #[(.ref y, .ref y), (.ref x, .ref x)] #[] 7 none) (Q := fun c st => c = (none, 2) ∧ st = SortSt.mk' (tuples' true) #[(.ref y, .ref y), (.ref x, .ref x)] #[] 7 none) (fun i c st h1 h2 _ => by omega) (fun c st h => h) ⟨rfl, rfl⟩) ?_)
   rintro c st ⟨rfl, rfl⟩
   dsimp only
   refine wpS_pure ?_
   unfold sorted2 at h
   rw [if_pos hb] at h
   exact h
  ·dsimp only
   rw [if_pos (by decide)]
   refine wpS_pure ?_
   unfold sorted2 at h
   rw [if_neg (by rw [hb]; exact Bool.false_ne_true)] at h
   exact h
theorem wp_runs {x y : Addr} {p q : Int × Int} {Q : Unit → SortSt → Prop} (hx : Pr s.heap x p) (hy : Pr s.heap y q) (h : ∀ st, arrOf st = sorted2 x y p q → failedOf st = none → Q () st) :
  wpS (model prog w) A E s sortRuns' Q (SortSt.mk' (tuples' true) #[(.ref x, .ref x), (.ref y, .ref y)] #[] 7 none) := by
 rw [sortRuns'_eq]
 refine wpS_bind (wpS_get ?_)
 dsimp only
 have hmr : minRun' 2 2 0 = 2 := by rw [minRun'_succ, if_pos (by decide)]
 show wpS _ _ _ _ ((forIn [0:2] _ _) >>= _) _ _
 have sz : (#[(Value.ref x, Value.ref x), (Value.ref y, Value.ref y)] : Array Keyed).size = 2 := rfl
 refine wpS_bind (wpS_mono (wpS_forRange (I := fun i c st => (i = 0 ∧ c = (none, 0) ∧ st = SortSt.mk' (tuples' true) #[(.ref x, .ref x), (.ref y, .ref y)] #[] 7 none) ∨ (1 ≤ i ∧ c = (none, 2) ∧ st = SortSt.mk' (tuples' true) (sorted2 x y p q) #[(0, 2, 0)] 7 none))
  (Q := fun c st => c = (none, 2) ∧ st = SortSt.mk' (tuples' true) (sorted2 x y p q) #[(0, 2, 0)] 7 none) ?_ ?_ (.inl ⟨rfl, rfl, rfl⟩)) ?_)
 ·rintro i c st h1 h2 (⟨rfl, rfl, rfl⟩ | ⟨hi, rfl, rfl⟩)
  ·dsimp only
   rw [if_neg (by show ¬ (0 ≥ 2); decide)]
   refine wpS_bind ?_
   show wpS _ _ _ _ (countRun' 0 2) _ _
   refine wp_count hx hy ?_
   dsimp only
   rw [if_neg (by show ¬ (2 < minRun' 2 2 0); rw [hmr]; decide)]
   refine wpS_bind (wpS_get ?_)
   show wpS _ _ _ _ (modify _ >>= _) _ _
   exact wpS_bind (wpS_modify (wpS_pure (.inr ⟨Nat.le_refl _, rfl, rfl⟩)))
  ·dsimp only
   rw [if_pos (by show 2 ≥ 2; decide)]
   exact wpS_pure ⟨rfl, rfl⟩
 ·rintro c st (⟨h1, _, _⟩ | ⟨_, hc, hs⟩)
  ·exact absurd h1 (by decide)
  ·exact ⟨hc, hs⟩
 ·rintro c st ⟨rfl, rfl⟩
  dsimp only
  refine wpS_bind (wpS_mono (wpS_forRange (I := fun _ c st => st = SortSt.mk' (tuples' true) (sorted2 x y p q) #[(0, 2, 0)] 7 none ∧ c = (none, ())) (Q := fun c st => st = SortSt.mk' (tuples' true) (sorted2 x y p q) #[(0, 2, 0)] 7 none ∧ c = (none, ())) ?_ (fun _ _ hh => hh) ⟨rfl, rfl⟩) ?_)
  ·rintro i c st _ _ ⟨rfl, rfl⟩
   refine wpS_bind (wpS_get ?_)
   rw [if_pos (by show 1 ≤ 1; decide)]
   exact wpS_pure ⟨rfl, rfl⟩
  ·rintro c st ⟨rfl, rfl⟩
   exact wpS_pure (h _ rfl rfl)
theorem wp_sort2 {a x y : Addr} {p q : Int × Int} {n : Nat} {P : Fin → Shared → Prop} (ho : s.heap.get? a = some (seqObj "list" #[.ref x, .ref y] n)) (hax : a ≠ x) (hay : a ≠ y) (hx : Pr s.heap x p) (hy : Pr s.heap y q)
  (h : P (.done (.ret .none)) { s with heap := sortedHeap s.heap a [.ref x, .ref y] (if lexLt p q then #[.ref y, .ref x] else #[.ref x, .ref y]) }) :
  wpAny (model prog w) A (Builtin.«list.sort» ⟨[.ref a], [(Str.ofString "reverse", .bool true)]⟩) P E s := by
 rw [list_sort_rev]
 have ha : a < s.heap.objs.size := Heap.lt_size ho
 refine wpAny_bind (listItems_at ho rfl ?_)
 refine wpAny_bind (listUpdate_at ho rfl ?_)
 obtain ⟨e1, ho1⟩ : ∃ e1, (s.heap.update a (Obj.mapSeq fun _ => #[])).get? a = some (seqObj "list" #[] e1) := ⟨_, get?_update_seq ho (fun _ => #[])⟩
 refine wpAny_bind (seqEpoch_at ho1 rfl ?_)
 refine wpAny_bind (wpAny_newTuple ?_)
 refine wpAny_bind (wpAny_newList ?_)
 refine wpAny_holding ?_
 have ho6 : (((s.heap.update a (Obj.mapSeq fun _ => #[])).push (seqObj "tuple" [Value.ref x, Value.ref y].toArray 0)).push (seqObj "list" #[] 0)).get? a = some (seqObj "list" #[] e1) :=
  Heap.get?_push_of_some _ (Heap.get?_push_of_some _ ho1)
 show wpAny (model prog w) A _ P E { s with heap := ((s.heap.update a (Obj.mapSeq fun _ => #[])).push (seqObj "tuple" [Value.ref x, Value.ref y].toArray 0)).push (seqObj "list" #[] 0) }
 have keep : ∀ z r, a ≠ z → Pr s.heap z r → Pr (((s.heap.update a (Obj.mapSeq fun _ => #[])).push (seqObj "tuple" [Value.ref x, Value.ref y].toArray 0)).push (seqObj "list" #[] 0)) z r := by
  rintro z r hz ⟨o, m, t, u, q1, q2⟩
  exact ⟨o, m, t, u, Heap.get?_push_of_some _ (Heap.get?_push_of_some _ ((Heap.get?_update_other _ _ hz).trans q1)), q2⟩
 have kx := keep x p hax hx
 have ky := keep y q hay hy
 dsimp only
 rw [if_pos rfl]
 refine wpAny_bind (wpAny_rule ?_)
 rw [if_neg (by show ¬ (2 < 2); decide)]
 refine wpAny_bind (wp_kind kx ky ?_)
 rw [if_neg (by show ¬ (2 < 2); decide)]
 have e2 : (if true = true then ((#[Value.ref x, Value.ref y] : Array Value).zip #[Value.ref x, Value.ref y]).reverse else (#[Value.ref x, Value.ref y] : Array Value).zip #[Value.ref x, Value.ref y]) = #[(Value.ref y, Value.ref y), (Value.ref x, Value.ref x)] := by
  rw [if_pos rfl]
  simp
 rw [e2]
 refine wpAny_bind (wpAny_mono (wp_runs (Q := fun _ st => arrOf st = sorted2 y x q p ∧ failedOf st = none) ky kx fun st h1 h2 => ⟨h1, h2⟩) ?_ fun _ _ e => e)
 rintro ⟨⟨⟩, st'⟩ s' ⟨rfl, hs, hf⟩
 dsimp only
 have e3 : (if true = true then ((arrOf st').map (·.2)).reverse else (arrOf st').map (·.2)) = (if lexLt p q then #[.ref y, .ref x] else #[.ref x, .ref y]) := by
  rw [if_pos rfl, hs]
  unfold sorted2
  split <;> simp
 refine wpAny_bind (seqEpoch_at ho6 rfl ?_)
 refine wpAny_bind (listUpdate_at ho6 rfl ?_ (hsz2 := by rw [e3]; split <;> exact sz2))
 rw [hf]
 simp only [bne_self_eq_false, Bool.false_eq_true, if_false]
 refine wpAny_pure ?_
 have e4 : (fun _ : Array Value => if True then ((arrOf st').map (·.2)).reverse else (arrOf st').map (·.2)) = fun _ => (if lexLt p q then #[.ref y, .ref x] else #[.ref x, .ref y]) := by
  funext _
  rw [if_pos trivial]
  rw [if_pos rfl] at e3
  exact e3
 rw [e4]
 exact h
theorem sorted2_rev {l x y : Addr} {p q : Int × Int} {Q : Value → Shared → Prop} (hl : s.heap.IsList l #[.ref x, .ref y]) (hx : Pr s.heap x p) (hy : Pr s.heap y q)
  (h : ∀ (h' : Heap) (e : Nat), (∀ b u, s.heap.get? b = some u → h'.get? b = some u) → h'.get? (s.heap.objs.size + 1) = some (seqObj "list" (if lexLt p q then #[.ref y, .ref x] else #[.ref x, .ref y]) e) → Q (.ref (s.heap.objs.size + 1)) { s with heap := h' }) :
  wpAny (model prog w) A (call (.builtin "sorted") [.ref l] [(Str.ofString "reverse", .bool true)]) Q E s := by
 refine call_function_entry_kw kind_sorted plain_sorted entry_sorted (args_sorted_rev _ _) ?_
 unfold Builtin.«sorted»
 refine wpAny_bind (m := checkCount "sorted" 1 1 _) (wpAny_pure ?_)
 refine wpAny_bind (collect_list (vs := [.ref x, .ref y]) hl ?_)
 refine wpAny_bind (wpAny_newList ?_)
 have hsz : ((s.heap.push (seqObj "list" #[] 0)).update s.heap.objs.size (Obj.mapSeq (· ++ [Value.ref x, Value.ref y].toArray))).objs.size = s.heap.objs.size + 1 := by
  rw [Heap.size_update, size_push']
 have hoL : (((s.heap.push (seqObj "list" #[] 0)).update s.heap.objs.size (Obj.mapSeq (· ++ [Value.ref x, Value.ref y].toArray))).push (seqObj "list" [Value.ref x, Value.ref y].toArray 0)).get? (s.heap.objs.size + 1) = some (seqObj "list" [Value.ref x, Value.ref y].toArray 0) := by
  rw [← hsz]; exact Heap.get?_push_size _ rfl
 have lx : x < s.heap.objs.size := let ⟨_, _, _, _, e, _⟩ := hx; Heap.lt_size e
 have ly : y < s.heap.objs.size := let ⟨_, _, _, _, e, _⟩ := hy; Heap.lt_size e
 have keep : ∀ z r, Pr s.heap z r → Pr (((s.heap.push (seqObj "list" #[] 0)).update s.heap.objs.size (Obj.mapSeq (· ++ [Value.ref x, Value.ref y].toArray))).push (seqObj "list" [Value.ref x, Value.ref y].toArray 0)) z r := by
  rintro z r ⟨o, m, t, u, q1, q2⟩
  have hz := Heap.lt_size q1
  exact ⟨o, m, t, u, Heap.get?_push_of_some _ ((Heap.get?_update_other _ _ (Nat.ne_of_gt hz)).trans (Heap.get?_push_of_some _ q1)), q2⟩
 show wpAny _ _ _ _ _ { s with heap := ((s.heap.push (seqObj "list" #[] 0)).update s.heap.objs.size (Obj.mapSeq (· ++ [Value.ref x, Value.ref y].toArray))).push (seqObj "list" [Value.ref x, Value.ref y].toArray 0) }
 rw [hsz]
 refine wpAny_bind (wpAny_holding (wpAny_call_entry_kw slot_list_sort ⟨_, hoL, rfl⟩ entry_list_sort (wp_sort2 hoL (Nat.ne_of_gt (Nat.lt_succ_of_lt lx)) (Nat.ne_of_gt (Nat.lt_succ_of_lt ly)) (keep x p hx) (keep y q hy) ⟨_, rfl, ?_⟩) (args_list_sort_rev _ _)))
 obtain ⟨e, he⟩ := sortedAll_at s.heap [Value.ref x, Value.ref y] (if lexLt p q then #[.ref y, .ref x] else #[.ref x, .ref y])
 exact wpAny_pure ⟨_, rfl, h _ e (fun b u hb => sortedAll_old hb) he⟩
end
end Sort2
namespace L2
open PySem PySem.Spec PyProof.Rows Sort2
section
variable {X : Cx} {e : Expr} {σ : St} {H : Hp} {Q : VK} {pos p kp cp : Pos} {j : Nat}
theorem pr_of {pins : List (Addr × Obj)} {s : Shared} {a : Addr} {i j : Int} (I : Inv X pins σ H s) (h : H a = some (.tup [.int i, .int j])) : Pr s.heap a (i, j) := by
 obtain ⟨its, r, pl, _⟩ := I.tuple (SqT.of h)
 obtain ⟨u, v, rfl, ⟨t, rfl⟩, ⟨t', rfl⟩⟩ := vals2 r
 obtain ⟨o, ho, hc, n, hd⟩ := pl
 exact ⟨o, n, t, t', ho, hc, hd⟩
theorem ev_sorted2 (hm : X.mg "sorted" = none) (h : Ev X e σ H fun v H1 => ∃ l x y a b c d, v = .ref l ∧ H1 l = some (.lst [.ref x, .ref y]) ∧ H1 x = some (.tup [.int a, .int b]) ∧ H1 y = some (.tup [.int c, .int d]) ∧
   ∀ r, H1 r = none → Q (.ref r) (upd H1 r (.lst (if lexLt (a, b) (c, d) then [.ref y, .ref x] else [.ref x, .ref y])))) (hg : Gl X "sorted" := by rfl)
  (he : backTo pos (starEach [e] X.env) = (false, eval e X.env) :: backTo pos (starEach [] X.env) := by rfl) (hplain : (backTo pos (starEach [e] X.env)).any (·.1) = false := by rfl) (hst : isStar e = false := by rfl) :
  Ev X (.Call (.Name "sorted" p) [e] [⟨some "reverse", .Constant (.bool true) j cp, kp⟩] pos) σ H Q := by
 refine ⟨fun pins s I => ?_⟩
 refine wpAny_Call_Name_kw (ld_blt I hg hm PyProof.Rows.boot_sorted ?_)
 have hE : Ea X [e] σ H fun vs H1 => ∃ l x y a b c d, vs = [.ref l] ∧ H1 l = some (.lst [.ref x, .ref y]) ∧ H1 x = some (.tup [.int a, .int b]) ∧ H1 y = some (.tup [.int c, .int d]) ∧
   ∀ r, H1 r = none → Q (.ref r) (upd H1 r (.lst (if lexLt (a, b) (c, d) then [.ref y, .ref x] else [.ref x, .ref y]))) :=
  ea_cons (h.mono fun v H1 ⟨l, x, y, a, b, c, d, e1, r1⟩ => ea_nil ⟨l, x, y, a, b, c, d, by rw [e1], r1⟩) hst
 refine callWith_kw (thn (hE.run pos pins s I) fun us s1 ⟨vs, H1, I1, r1, l, x, y, a, b, c, d, ev, hl, hx, hy, q⟩ => ?_) he hplain
 subst ev
 obtain ⟨u, rfl, ru⟩ := vals1 r1
 cases (show u = Value.ref l from ru)
 refine kws_cons (wpAny_pure (kws_nil ?_))
 obtain ⟨its, r2, pl, _⟩ := I1.list (SqL.of hl)
 obtain ⟨u, v, rfl, ru, rv⟩ := vals2 r2
 cases (show u = Value.ref x from ru)
 cases (show v = Value.ref y from rv)
 refine sorted2_rev pl.isList (pr_of I1 hx) (pr_of I1 hy) fun h' e kp he => ?_
 refine ⟨.ref _, _, I1.laid' (s' := { s1 with heap := h' }) kp rfl rfl (Nat.le_succ _) (show ObjOk X.prog X.w _ h' _ (.lst (if lexLt (a, b) (c, d) then [.ref y, .ref x] else [.ref x, .ref y])) from ?_), rfl, q _ (I1.hok.fresh (Nat.le_succ _))⟩
 split at he
 ·rename_i hb
  rw [if_pos hb]
  exact ⟨by show 2 ≤ sizeLine; rw [sizeLine_eq]; decide, [.ref y, .ref x], e, .cons rfl (.cons rfl .nil), he⟩
 ·rename_i hb
  rw [if_neg hb]
  exact ⟨by show 2 ≤ sizeLine; rw [sizeLine_eq]; decide, [.ref x, .ref y], e, .cons rfl (.cons rfl .nil), he⟩
end
end L2
namespace Nt
open PySem
noncomputable abbrev Net := List (Str × List Str)
noncomputable abbrev End := Nat × Nat
noncomputable def row (n : Net) (r : Nat) : List Str := ((n[r]?).map (·.2)).getD []
noncomputable def tieAt (n : Net) (e : End) : Option Str := (row n e.1)[e.2]?
noncomputable def rowSeats (r : Nat) (ts : List Str) (p : Nat) : List (Str × End) := (ts.zipIdx p).map fun x => (x.1, (r, x.2))
noncomputable def seatsFrom (r : Nat) : Net → List (Str × End)
 | [] => []
 | a :: n => rowSeats r a.2 0 ++ seatsFrom (r + 1) n
noncomputable def seats (n : Net) : List (Str × End) := seatsFrom 0 n
noncomputable def ends (n : Net) : List End := (seats n).map (·.2)
noncomputable def ties (n : Net) : List Str := n.flatMap (·.2)
noncomputable def pos (n : Net) (z : Str) : List End := ((seats n).filter fun x => decide (x.1 = z)).map (·.2)
theorem mem_rowSeats {r : Nat} {ts : List Str} {p : Nat} {z : Str} {e : End} : (z, e) ∈ rowSeats r ts p ↔ e.1 = r ∧ p ≤ e.2 ∧ ts[e.2 - p]? = some z := by
 unfold rowSeats
 rw [List.mem_map]
 constructor
 ·rintro ⟨⟨y, k⟩, hm, he⟩
  cases he
  have := List.mem_zipIdx_iff_le_and_getElem?_sub.mp hm
  exact ⟨rfl, this.1, this.2⟩
 ·rintro ⟨h1, h2, h3⟩
  refine ⟨(z, e.2), List.mem_zipIdx_iff_le_and_getElem?_sub.mpr ⟨h2, h3⟩, ?_⟩
  rw [← h1]
theorem mem_seatsFrom : ∀ {n : Net} {k : Nat} {z : Str} {e : End}, (z, e) ∈ seatsFrom k n ↔ k ≤ e.1 ∧ (row n (e.1 - k))[e.2]? = some z
 | [], k, z, e => by
  constructor
  ·intro h; cases h
  ·rintro ⟨_, h⟩
   simp [row] at h
 | a :: n, k, z, e => by
  unfold seatsFrom
  rw [List.mem_append, mem_rowSeats, mem_seatsFrom]
  constructor
  ·rintro (⟨h1, _, h3⟩ | ⟨h1, h2⟩)
   ·refine ⟨by omega, ?_⟩
    rw [show e.1 - k = 0 by omega]
    simpa [row] using h3
   ·refine ⟨by omega, ?_⟩
    rw [show e.1 - k = (e.1 - (k + 1)) + 1 by omega]
    simpa [row] using h2
  ·rintro ⟨h1, h2⟩
   rcases Nat.lt_or_ge k e.1 with h | h
   ·refine .inr ⟨h, ?_⟩
    rw [show e.1 - k = (e.1 - (k + 1)) + 1 by omega] at h2
    simpa [row] using h2
   ·refine .inl ⟨by omega, Nat.zero_le _, ?_⟩
    rw [show e.1 - k = 0 by omega] at h2
    simpa [row] using h2
theorem mem_seats {n : Net} {z : Str} {e : End} : (z, e) ∈ seats n ↔ tieAt n e = some z := by
 unfold seats tieAt
 rw [mem_seatsFrom]
 simp
theorem mem_ends {n : Net} {e : End} : e ∈ ends n ↔ ∃ z, tieAt n e = some z := by
 unfold ends
 rw [List.mem_map]
 constructor
 ·rintro ⟨⟨z, e'⟩, h, rfl⟩
  exact ⟨z, mem_seats.mp h⟩
 ·rintro ⟨z, h⟩
  exact ⟨(z, e), mem_seats.mpr h, rfl⟩
theorem mem_pos {n : Net} {z : Str} {e : End} : e ∈ pos n z ↔ tieAt n e = some z := by
 unfold pos
 rw [List.mem_map]
 constructor
 ·rintro ⟨⟨y, e'⟩, h, rfl⟩
  rw [List.mem_filter, decide_eq_true_eq] at h
  obtain ⟨h1, h2⟩ := h
  subst h2
  exact mem_seats.mp h1
 ·intro h
  exact ⟨(z, e), List.mem_filter.mpr ⟨mem_seats.mpr h, by simp⟩, rfl⟩
theorem seats_names_row (r : Nat) : ∀ (ts : List Str) (p : Nat), (rowSeats r ts p).map (·.1) = ts := by
 intro ts p
 unfold rowSeats
 rw [List.map_map]
 have : ((fun x : Str × End => x.1) ∘ fun x : Str × Nat => (x.1, (r, x.2))) = Prod.fst := rfl
 rw [this, List.zipIdx_map_fst]
theorem seats_names : ∀ (n : Net) (k : Nat), (seatsFrom k n).map (·.1) = ties n
 | [], _ => rfl
 | a :: n, k => by
  unfold seatsFrom ties
  rw [List.map_append, seats_names_row, seats_names n (k + 1), List.flatMap_cons]
  rfl
theorem rowSeats_nodup (r : Nat) (ts : List Str) (p : Nat) : ((rowSeats r ts p).map (·.2)).Nodup := by
 unfold rowSeats
 rw [List.map_map]
 have e : ((fun x : Str × End => x.2) ∘ fun x : Str × Nat => (x.1, (r, x.2))) = (fun k : Nat => (r, k)) ∘ Prod.snd := rfl
 rw [e, ← List.map_map, List.zipIdx_map_snd]
 refine List.Pairwise.map _ (R := (· ≠ ·)) ?_ List.nodup_range'
 intro a b h hab
 exact h (Prod.mk.inj hab).2
theorem ends_nodup_from : ∀ (n : Net) (k : Nat), ((seatsFrom k n).map (·.2)).Nodup
 | [], _ => List.nodup_nil
 | a :: n, k => by
  unfold seatsFrom
  rw [List.map_append, List.nodup_append]
  refine ⟨rowSeats_nodup _ _ _, ends_nodup_from n (k + 1), ?_⟩
  intro x hx y hy e
  subst e
  obtain ⟨⟨z, e1⟩, h1, rfl⟩ := List.mem_map.mp hx
  obtain ⟨⟨z2, e2⟩, h2, he⟩ := List.mem_map.mp hy
  simp only at he
  subst he
  have q1 := (mem_rowSeats.mp h1).1
  have q2 := (mem_seatsFrom.mp h2).1
  omega
theorem ends_nodup (n : Net) : (ends n).Nodup := ends_nodup_from n 0
theorem pos_nodup (n : Net) (z : Str) : (pos n z).Nodup := by
 unfold pos
 exact (ends_nodup n).sublist (List.Sublist.map _ (List.filter_sublist))
theorem pos_len (n : Net) (z : Str) : (pos n z).length = (ties n).count z := by
 unfold pos
 rw [List.length_map, ← seats_names n 0, ← List.countP_eq_length_filter, List.count, List.countP_map]
 rfl
noncomputable def Twice (n : Net) : Prop := ∀ z ∈ ties n, (ties n).count z = 2
theorem tie_mem {n : Net} {e : End} {z : Str} (h : tieAt n e = some z) : z ∈ ties n := by
 have := mem_seats.mpr h
 rw [← seats_names n 0]
 exact List.mem_map.mpr ⟨_, this, rfl⟩
noncomputable def other (n : Net) (e : End) : End := match tieAt n e with
 | some z => (match pos n z with
  | [a, b] => if a = e then b else a
  | _ => e)
 | none => e
theorem pos_two {n : Net} (T : Twice n) {e : End} {z : Str} (h : tieAt n e = some z) : ∃ a b, pos n z = [a, b] ∧ a ≠ b ∧ (e = a ∨ e = b) := by
 have hl := pos_len n z
 rw [T z (tie_mem h)] at hl
 have hn := pos_nodup n z
 have hm := mem_pos.mpr h
 match hp : pos n z, hl with
 | [a, b], _ =>
  rw [hp] at hn hm
  refine ⟨a, b, rfl, ?_, ?_⟩
  ·intro e
   subst e
   simp at hn
  ·simpa using hm
theorem other_spec {n : Net} (T : Twice n) {e : End} {z : Str} (h : tieAt n e = some z) : tieAt n (other n e) = some z ∧ other n (other n e) = e ∧ other n e ≠ e := by
 obtain ⟨a, b, hp, hab, he⟩ := pos_two T h
 have ha : tieAt n a = some z := mem_pos.mp (by rw [hp]; simp)
 have hb : tieAt n b = some z := mem_pos.mp (by rw [hp]; simp)
 rcases he with rfl | rfl
 ·have e1 : other n e = b := by unfold other; simp only [h, hp]; simp
  have e2 : other n b = e := by unfold other; simp only [hb, hp]; simp [hab]
  rw [e1]
  exact ⟨hb, e2, hab.symm⟩
 ·have e1 : other n e = a := by unfold other; simp only [h, hp]; simp [hab]
  have e2 : other n a = e := by unfold other; simp only [ha, hp]; simp
  rw [e1]
  exact ⟨ha, e2, hab⟩
noncomputable def left (n : Net) (e : End) : End := (e.1, (e.2 + 1) % (row n e.1).length)
noncomputable def step (n : Net) (e : End) : End := left n (other n e)
theorem end_lt {n : Net} {e : End} {z : Str} (h : tieAt n e = some z) : e.2 < (row n e.1).length := (List.getElem?_eq_some_iff.mp h).1
theorem row_lt {n : Net} {e : End} {z : Str} (h : tieAt n e = some z) : e.1 < n.length := by
 rcases Nat.lt_or_ge e.1 n.length with c | c
 ·exact c
 ·have := end_lt h
  unfold row at this
  rw [List.getElem?_eq_none c] at this
  simp at this
theorem end_of {n : Net} {e : End} (h : e.2 < (row n e.1).length) : ∃ z, tieAt n e = some z := ⟨_, List.getElem?_eq_getElem h⟩
theorem left_end {n : Net} {e : End} (h : e ∈ ends n) : left n e ∈ ends n := by
 obtain ⟨z, h⟩ := mem_ends.mp h
 have := end_lt h
 exact mem_ends.mpr (end_of (show (e.2 + 1) % (row n e.1).length < (row n e.1).length from Nat.mod_lt _ (by omega)))
theorem other_end {n : Net} (T : Twice n) {e : End} (h : e ∈ ends n) : other n e ∈ ends n := by
 obtain ⟨z, h⟩ := mem_ends.mp h
 exact mem_ends.mpr ⟨z, (other_spec T h).1⟩
theorem step_end {n : Net} (T : Twice n) {e : End} (h : e ∈ ends n) : step n e ∈ ends n := left_end (other_end T h)
theorem left_inj {n : Net} {a b : End} (ha : a ∈ ends n) (hb : b ∈ ends n) (h : left n a = left n b) : a = b := by
 obtain ⟨z, ha⟩ := mem_ends.mp ha
 obtain ⟨y, hb⟩ := mem_ends.mp hb
 have la := end_lt ha
 have lb := end_lt hb
 unfold left at h
 obtain ⟨h1, h2⟩ := Prod.mk.inj h
 rw [h1] at la h2
 have : a.2 = b.2 := by
  rcases Nat.lt_or_ge (a.2 + 1) (row n b.1).length with c | c <;> rcases Nat.lt_or_ge (b.2 + 1) (row n b.1).length with d | d
  ·rw [Nat.mod_eq_of_lt c, Nat.mod_eq_of_lt d] at h2; omega
  ·have e : b.2 + 1 = (row n b.1).length := by omega
   rw [Nat.mod_eq_of_lt c, e, Nat.mod_self] at h2; omega
  ·have e : a.2 + 1 = (row n b.1).length := by omega
   rw [Nat.mod_eq_of_lt d, e, Nat.mod_self] at h2; omega
  ·omega
 exact Prod.ext h1 this
theorem other_inj {n : Net} (T : Twice n) {a b : End} (ha : a ∈ ends n) (hb : b ∈ ends n) (h : other n a = other n b) : a = b := by
 obtain ⟨z, ha⟩ := mem_ends.mp ha
 obtain ⟨y, hb⟩ := mem_ends.mp hb
 rw [← (other_spec T ha).2.1, h, (other_spec T hb).2.1]
theorem step_inj {n : Net} (T : Twice n) {a b : End} (ha : a ∈ ends n) (hb : b ∈ ends n) (h : step n a = step n b) : a = b :=
 other_inj T ha hb (left_inj (other_end T ha) (other_end T hb) h)
theorem nodup_le {α : Type} [DecidableEq α] : ∀ {a b : List α}, a.Nodup → (∀ z ∈ a, z ∈ b) → a.length ≤ b.length
 | [], b, _, _ => Nat.zero_le _
 | x :: r, b, hn, hs => by
  rw [List.nodup_cons] at hn
  have hx := hs x List.mem_cons_self
  have := nodup_le (a := r) (b := b.erase x) hn.2 fun z hz => by
   have hne : z ≠ x := fun e => hn.1 (e ▸ hz)
   exact (List.mem_erase_of_ne hne).mpr (hs z (List.mem_cons_of_mem _ hz))
  rw [List.length_erase_of_mem hx] at this
  have hp : 0 < b.length := List.length_pos_of_mem hx
  rw [List.length_cons]
  omega
noncomputable def it {α : Type} (f : α → α) : Nat → α → α
 | 0, a => a
 | k + 1, a => f (it f k a)
theorem it_mem {α : Type} {f : α → α} {S : List α} (hf : ∀ a ∈ S, f a ∈ S) {a : α} (h : a ∈ S) : ∀ k, it f k a ∈ S
 | 0 => h
 | k + 1 => hf _ (it_mem hf h k)
theorem comes_back {α : Type} [DecidableEq α] {f : α → α} {S : List α} (hf : ∀ a ∈ S, f a ∈ S) (inj : ∀ a ∈ S, ∀ b ∈ S, f a = f b → a = b) {a : α} (h : a ∈ S) : ∃ k, 0 < k ∧ k ≤ S.length ∧ it f k a = a := by
 have cancel : ∀ i j, it f i a = it f (i + j) a → it f j a = a := by
  intro i
  induction i with
  | zero => intro j e; rw [Nat.zero_add] at e; exact e.symm
  | succ i ih =>
   intro j e
   refine ih j ?_
   rw [show i + 1 + j = (i + j) + 1 by omega] at e
   exact inj _ (it_mem hf h i) _ (it_mem hf h (i + j)) e
 refine Classical.byContradiction fun hn => ?_
 have nd : ((List.range (S.length + 1)).map fun i => it f i a).Nodup := by
  refine List.Pairwise.map _ (R := fun i j => i < j ∧ j < S.length + 1) ?_ ?_
  ·rintro i j ⟨h1, h2⟩ e
   refine hn ⟨j - i, by omega, by omega, cancel i (j - i) ?_⟩
   rw [show i + (j - i) = j by omega]
   exact e
  ·rw [List.pairwise_iff_getElem]
   intro i j hi hj hij
   simp only [List.getElem_range]
   simp at hj
   exact ⟨hij, hj⟩
 have := nodup_le nd fun z hz => by
  obtain ⟨i, _, rfl⟩ := List.mem_map.mp hz
  exact it_mem hf h i
 simp at this
 omega
theorem row_le : ∀ (n : Net) (r : Nat), (row n r).length ≤ (ties n).length
 | [], r => by simp [row, ties]
 | a :: n, 0 => by simp [row, ties]
 | a :: n, r + 1 => by
  have := row_le n r
  simp [row, ties] at this ⊢
  omega
theorem ties_take_le : ∀ (n : Net) (r : Nat), (ties (n.take r)).length ≤ (ties n).length
 | [], r => by simp [ties]
 | a :: n, 0 => by simp [ties]
 | a :: n, r + 1 => by
  have := ties_take_le n r
  simp [ties] at this ⊢
  omega
structure IsFace (n : Net) (e : Nt.End) (fs : List End) : Prop where
 pos : 0 < fs.length
 len : fs.length ≤ (ends n).length
 at' : ∀ i, i < fs.length → fs[i]? = some (it (step n) i e)
 back : it (step n) fs.length e = e
 first : ∀ i, 0 < i → i < fs.length → it (step n) i e ≠ e
end Nt
namespace Nt
open PySem L2
noncomputable abbrev Ls (zs : List Str) : HO := .lst (zs.map V.str)
noncomputable abbrev Tp (e : End) : HO := .tup [.int e.1, .int e.2]
structure RowsAt (H : Hp) (R : Addr) (as : List (Addr × Addr)) (n : Net) : Prop where
 len : as.length = n.length
 lst : H R = some (.lst (as.map fun a => .ref a.1))
 tup : ∀ (i : Nat) a r, as[i]? = some a → n[i]? = some r → H a.1 = some (.tup [.str r.1, .ref a.2]) ∧ H a.2 = some (Ls r.2)
 inj : (as.map (·.2)).Nodup
theorem RowsAt.same {H H' : Hp} {R : Addr} {as : List (Addr × Addr)} {n : Net} (h : RowsAt H R as n) (s : Same H H') : RowsAt H' R as n :=
 ⟨h.len, s _ _ h.lst, fun i a r h1 h2 => ⟨s _ _ (h.tup i a r h1 h2).1, s _ _ (h.tup i a r h1 h2).2⟩, h.inj⟩
theorem RowsAt.at {H : Hp} {R : Addr} {as : List (Addr × Addr)} {n : Net} (h : RowsAt H R as n) {i : Nat} (hi : i < n.length) :
  ∃ a, as[i]? = some a ∧ atI (as.map fun a => V.ref a.1) (i : Int) = some (.ref a.1) ∧ H a.1 = some (.tup [.str n[i].1, .ref a.2]) ∧ H a.2 = some (Ls (row n i)) ∧ row n i = n[i].2 := by
 have hl := h.len
 have e : as[i]? = some as[i] := List.getElem?_eq_getElem (by omega)
 have er : row n i = n[i].2 := by unfold row; rw [List.getElem?_eq_getElem hi]; rfl
 have q := h.tup i as[i] n[i] e (List.getElem?_eq_getElem hi)
 refine ⟨as[i], e, atI_nat (by rw [List.getElem?_map, e]; rfl), q.1, ?_, er⟩
 rw [er]
 exact q.2
theorem at_strs {zs : List Str} {j : Nat} {z : Str} (h : zs[j]? = some z) : atI (zs.map V.str) (j : Int) = some (.str z) := atI_nat (by rw [List.getElem?_map, h]; rfl)
inductive Pd (H : Hp) : List Addr → List End → Prop where
 | nil : Pd H [] []
 | cons {t : Addr} {e : End} {ts : List Addr} {es : List End} : H t = some (Tp e) → Pd H ts es → Pd H (t :: ts) (e :: es)
theorem Pd.append {H : Hp} {ts us : List Addr} {es fs : List End} (h : Pd H ts es) (g : Pd H us fs) : Pd H (ts ++ us) (es ++ fs) := by
 induction h with
 | nil => exact g
 | cons h1 _ ih => exact .cons h1 ih
theorem Pd.keep {H H' : Hp} {ts : List Addr} {es : List End} (h : Pd H ts es) (k : ∀ t e, H t = some (Tp e) → H' t = some (Tp e)) : Pd H' ts es := by
 induction h with
 | nil => exact .nil
 | cons h1 _ ih => exact .cons (k _ _ h1) ih
theorem Pd.length {H : Hp} {ts : List Addr} {es : List End} (h : Pd H ts es) : ts.length = es.length := by
 induction h with
 | nil => rfl
 | cons _ _ ih => rw [List.length_cons, List.length_cons, ih]
theorem Pd.at {H : Hp} {ts : List Addr} {es : List End} (h : Pd H ts es) : ∀ {i : Nat} {e : End}, es[i]? = some e → ∃ t, ts[i]? = some t ∧ H t = some (Tp e) := by
 induction h with
 | nil => intro i e h; simp at h
 | cons h1 _ ih =>
  intro i e h
  cases i with
  | zero => simp at h; subst h; exact ⟨_, rfl, h1⟩
  | succ i => simp only [List.getElem?_cons_succ] at h ⊢; exact ih h
noncomputable def posIn (done : List (Str × End)) (z : Str) : List End := (done.filter fun x => decide (x.1 = z)).map (·.2)
theorem posIn_snoc (done : List (Str × End)) (y z : Str) (e : End) : posIn (done ++ [(y, e)]) z = posIn done z ++ (if y = z then [e] else []) := by
 unfold posIn
 rw [List.filter_append, List.map_append]
 congr 1
 by_cases h : y = z
 ·rw [if_pos h]; simp [h]
 ·rw [if_neg h]; simp [h]
structure SeatsOn (H0 H : Hp) (d : Addr) (done : List (Str × End)) (kvs : List (Key × V)) (ks : List Str) (A : Str → Option (Addr × List Addr)) : Prop where
 same : Same H0 H
 free : H0 d = none
 dict : H d = some (.dK kvs)
 keys : kvs.map (·.1) = ks.map Sum.inr
 nodup : ks.Nodup
 mem : ∀ z, z ∈ ks ↔ (A z).isSome = true
 val : ∀ z, valV kvs (Sum.inr z) = (A z).map fun a => .ref a.1
 at' : ∀ z a ts, A z = some (a, ts) → H0 a = none ∧ a ≠ d ∧ H a = some (.lst (ts.map V.ref)) ∧ Pd H ts (posIn done z)
 inj : ∀ z y a ts us, A z = some (a, ts) → A y = some (a, us) → z = y
 none' : ∀ z, A z = none → posIn done z = []
 some' : ∀ z a ts, A z = some (a, ts) → posIn done z ≠ []
theorem SeatsOn.start {H : Hp} {d : Addr} (h : H d = none) : SeatsOn H (upd H d (.dK [])) d [] [] [] (fun _ => none) where
 same := fun b u q => by rw [upd_ne (ne_of_none q h)]; exact q
 free := h
 dict := upd_same
 keys := rfl
 nodup := List.nodup_nil
 mem := fun z => by simp
 val := fun z => rfl
 at' := fun z a ts h => by cases h
 inj := fun z y a ts us h => by cases h
 none' := fun z _ => rfl
 some' := fun z a ts h => by cases h
theorem tp_ne_lst {H : Hp} {t a : Addr} {e : End} {xs : List V} (h : H t = some (Tp e)) (g : H a = some (.lst xs)) : t ≠ a := ne_of h g fun z => nomatch z
theorem SeatsOn.old {H0 H : Hp} {d : Addr} {done : List (Str × End)} {kvs : List (Key × V)} {ks : List Str} {A : Str → Option (Addr × List Addr)} (S : SeatsOn H0 H d done kvs ks A) {z : Str} {e : End} {a l0 t : Addr} {ts : List Addr}
  (hA : A z = some (a, ts)) (hl : H l0 = none) (ht : (upd H l0 (.lst [])) t = none) :
  SeatsOn H0 (upd (upd (upd H l0 (.lst [])) t (Tp e)) a (.lst (ts.map V.ref ++ [.ref t]))) d (done ++ [(z, e)]) kvs ks (fun y => if y = z then some (a, ts ++ [t]) else A y) := by
 obtain ⟨q1, q2, q3, q4⟩ := S.at' z a ts hA
 have htH : H t = none := by
  by_cases c : t = l0
  ·rw [c, upd_same] at ht; cases ht
  ·rwa [upd_ne c] at ht
 have hla : l0 ≠ a := (ne_of_none q3 hl).symm
 have hta : t ≠ a := (ne_of_none q3 htH).symm
 have hat : a ≠ t := hta.symm
 have keep : ∀ b u, b ≠ a → H b = some u → (upd (upd (upd H l0 (.lst [])) t (Tp e)) a (.lst (ts.map V.ref ++ [.ref t]))) b = some u := fun b u h1 h2 => by
  rw [upd_ne h1, upd_ne (ne_of_none h2 htH), upd_ne (ne_of_none h2 hl)]
  exact h2
 have kt : ∀ b f, H b = some (Tp f) → (upd (upd (upd H l0 (.lst [])) t (Tp e)) a (.lst (ts.map V.ref ++ [.ref t]))) b = some (Tp f) := fun b f h => keep b _ (tp_ne_lst h q3) h
 have et : (upd (upd (upd H l0 (.lst [])) t (Tp e)) a (.lst (ts.map V.ref ++ [.ref t]))) t = some (Tp e) := by rw [upd_ne hta, upd_same]
 refine ⟨fun b u h => ?_, S.free, keep d _ (Ne.symm q2) S.dict, S.keys, S.nodup, fun y => ?_, fun y => ?_, fun y a' ts' h => ?_, fun y y' a' ts' us h1 h2 => ?_, fun y h => ?_, fun y a' ts' h => ?_⟩
 ·exact keep b u (ne_of_none h q1) (S.same _ _ h)
 ·rw [S.mem y]
  by_cases c : y = z
  ·rw [if_pos c, c, hA]; simp
  ·rw [if_neg c]
 ·rw [S.val y]
  by_cases c : y = z
  ·rw [if_pos c, c, hA]; rfl
  ·rw [if_neg c]
 ·by_cases c : y = z
  ·rw [if_pos c] at h
   cases h
   refine ⟨q1, q2, by rw [upd_same, List.map_append]; rfl, ?_⟩
   rw [posIn_snoc, c, if_pos rfl]
   exact (q4.keep kt).append (.cons et .nil)
  ·rw [if_neg c] at h
   obtain ⟨r1, r2, r3, r4⟩ := S.at' y a' ts' h
   have hne : a' ≠ a := fun e2 => c (S.inj y z a ts' ts (e2 ▸ h) hA)
   refine ⟨r1, r2, keep _ _ hne r3, ?_⟩
   rw [posIn_snoc, if_neg (fun h => c h.symm), List.append_nil]
   exact r4.keep kt
 ·by_cases c : y = z <;> by_cases c' : y' = z
  ·rw [c, c']
  ·rw [if_pos c] at h1
   rw [if_neg c'] at h2
   cases h1
   exact absurd (S.inj y' z a us ts h2 hA) c'
  ·rw [if_neg c] at h1
   rw [if_pos c'] at h2
   cases h2
   exact absurd (S.inj y z a ts' ts h1 hA) c
  ·rw [if_neg c] at h1
   rw [if_neg c'] at h2
   exact S.inj y y' a' ts' us h1 h2
 ·by_cases c : y = z
  ·rw [if_pos c] at h; cases h
  ·rw [if_neg c] at h
   rw [posIn_snoc, if_neg (fun h => c h.symm), List.append_nil]
   exact S.none' y h
 ·by_cases c : y = z
  ·rw [posIn_snoc, if_pos c.symm]
   simp
  ·rw [if_neg c] at h
   rw [posIn_snoc, if_neg (fun h => c h.symm), List.append_nil]
   exact S.some' y a' ts' h
theorem SeatsOn.new {H0 H : Hp} {d : Addr} {done : List (Str × End)} {kvs : List (Key × V)} {ks : List Str} {A : Str → Option (Addr × List Addr)} (S : SeatsOn H0 H d done kvs ks A) {z : Str} {e : End} {l0 t : Addr}
  (hA : A z = none) (hl : H l0 = none) (ht : (upd (upd H l0 (.lst [])) d (.dK (putK kvs (Sum.inr z) (.ref l0)))) t = none) :
  SeatsOn H0 (upd (upd (upd (upd H l0 (.lst [])) d (.dK (putK kvs (Sum.inr z) (.ref l0)))) t (Tp e)) l0 (.lst [.ref t])) d (done ++ [(z, e)]) (putK kvs (Sum.inr z) (.ref l0)) (ks ++ [z]) (fun y => if y = z then some (l0, [t]) else A y) := by
 have hdl : d ≠ l0 := ne_of_none S.dict hl
 have htd : t ≠ d := fun c => by rw [c, upd_same] at ht; cases ht
 have htl : t ≠ l0 := fun c => by rw [upd_ne htd, c, upd_same] at ht; cases ht
 have htH : H t = none := by rwa [upd_ne htd, upd_ne htl] at ht
 have vn : valV kvs (Sum.inr z) = none := by rw [S.val z, hA]; rfl
 have keep : ∀ b u, b ≠ d → H b = some u → (upd (upd (upd (upd H l0 (.lst [])) d (.dK (putK kvs (Sum.inr z) (.ref l0)))) t (Tp e)) l0 (.lst [.ref t])) b = some u := fun b u h1 h2 => by
  rw [upd_ne (ne_of_none h2 hl), upd_ne (ne_of_none h2 htH), upd_ne h1, upd_ne (ne_of_none h2 hl)]
  exact h2
 have kt : ∀ b f, H b = some (Tp f) → (upd (upd (upd (upd H l0 (.lst [])) d (.dK (putK kvs (Sum.inr z) (.ref l0)))) t (Tp e)) l0 (.lst [.ref t])) b = some (Tp f) := fun b f h => keep b _ (ne_of h S.dict fun z => nomatch z) h
 have h0l : H0 l0 = none := S.same.free hl
 have zk : z ∉ ks := fun h => by
  have := (S.mem z).mp h
  rw [hA] at this
  cases this
 refine ⟨fun b u h => ?_, S.free, ?_, ?_, ?_, fun y => ?_, fun y => ?_, fun y a' ts' h => ?_, fun y y' a' ts' us h1 h2 => ?_, fun y h => ?_, fun y a' ts' h => ?_⟩
 ·exact keep b u (ne_of_none h S.free) (S.same _ _ h)
 ·rw [upd_ne hdl, upd_ne htd.symm, upd_same]
 ·rw [putK_new _ vn, List.map_append, S.keys, List.map_append]
  rfl
 ·rw [List.nodup_append]
  exact ⟨S.nodup, by simp, fun x hx y hy e => by rw [List.mem_singleton] at hy; subst hy e; exact zk hx⟩
 ·rw [List.mem_append, List.mem_singleton, S.mem y]
  by_cases c : y = z
  ·rw [if_pos c]; simp [c]
  ·rw [if_neg c]; simp [c]
 ·rw [valV_put]
  by_cases c : y = z
  ·rw [if_pos (by rw [c]), if_pos c]; rfl
  ·rw [if_neg (fun h => c (Sum.inr.inj h)), if_neg c, S.val y]
 ·by_cases c : y = z
  ·rw [if_pos c] at h
   cases h
   refine ⟨h0l, hdl.symm, by rw [upd_same]; rfl, ?_⟩
   rw [posIn_snoc, c, if_pos rfl, S.none' z hA]
   exact .cons (by rw [upd_ne htl, upd_same]) .nil
  ·rw [if_neg c] at h
   obtain ⟨r1, r2, r3, r4⟩ := S.at' y a' ts' h
   refine ⟨r1, r2, keep _ _ r2 r3, ?_⟩
   rw [posIn_snoc, if_neg (fun h => c h.symm), List.append_nil]
   exact r4.keep kt
 ·by_cases c : y = z <;> by_cases c' : y' = z
  ·rw [c, c']
  ·rw [if_pos c] at h1
   rw [if_neg c'] at h2
   cases h1
   exact absurd hl (by rw [(S.at' y' l0 us h2).2.2.1]; exact fun h => nomatch h)
  ·rw [if_neg c] at h1
   rw [if_pos c'] at h2
   cases h2
   exact absurd hl (by rw [(S.at' y l0 ts' h1).2.2.1]; exact fun h => nomatch h)
  ·rw [if_neg c] at h1
   rw [if_neg c'] at h2
   exact S.inj y y' a' ts' us h1 h2
 ·by_cases c : y = z
  ·rw [if_pos c] at h; cases h
  ·rw [if_neg c] at h
   rw [posIn_snoc, if_neg (fun h => c h.symm), List.append_nil]
   exact S.none' y h
 ·by_cases c : y = z
  ·rw [posIn_snoc, if_pos c.symm]
   simp
  ·rw [if_neg c] at h
   rw [posIn_snoc, if_neg (fun h => c h.symm), List.append_nil]
   exact S.some' y a' ts' h
theorem seatsFrom_append : ∀ (n m : Net) (k : Nat), seatsFrom k (n ++ m) = seatsFrom k n ++ seatsFrom (k + n.length) m
 | [], m, k => rfl
 | a :: n, m, k => by
  show rowSeats k a.2 0 ++ seatsFrom (k + 1) (n ++ m) = (rowSeats k a.2 0 ++ seatsFrom (k + 1) n) ++ seatsFrom (k + (n.length + 1)) m
  rw [seatsFrom_append n m (k + 1), List.append_assoc, show k + 1 + n.length = k + (n.length + 1) by omega]
theorem seats_take {n : Net} {r : Nat} (h : r < n.length) : seats (n.take (r + 1)) = seats (n.take r) ++ rowSeats r (row n r) 0 := by
 unfold seats
 rw [List.take_add_one, List.getElem?_eq_getElem h, seatsFrom_append]
 have e : (n.take r).length = r := by rw [List.length_take]; omega
 rw [e, Nat.zero_add]
 have er : row n r = n[r].2 := by unfold row; rw [List.getElem?_eq_getElem h]; rfl
 rw [er]
 show _ ++ (rowSeats r n[r].2 0 ++ []) = _
 rw [List.append_nil]
theorem rowSeats_take {r : Nat} {ts : List Str} {p : Nat} {z : Str} (h : ts[p]? = some z) : rowSeats r (ts.take (p + 1)) 0 = rowSeats r (ts.take p) 0 ++ [(z, (r, p))] := by
 unfold rowSeats
 have hp := (List.getElem?_eq_some_iff.mp h).1
 rw [List.take_add_one, h, List.zipIdx_append, List.map_append]
 have e : (ts.take p).length = p := by rw [List.length_take]; omega
 rw [e, Nat.zero_add]
 rfl
structure SeatsAt (H : Hp) (d : Addr) (n : Net) (ks : List Str) : Prop where
 dict : ∃ kvs, H d = some (.dK kvs) ∧ kvs.map (·.1) = ks.map Sum.inr ∧ ∀ z ∈ ties n, ∃ a ts, valV kvs (Sum.inr z) = some (.ref a) ∧ H a = some (.lst (ts.map V.ref)) ∧ Pd H ts (pos n z)
 nodup : ks.Nodup
 mem : ∀ z, z ∈ ks ↔ z ∈ ties n
theorem SeatsAt.same {H H' : Hp} {d : Addr} {n : Net} {ks : List Str} (S : SeatsAt H d n ks) (s : Same H H') : SeatsAt H' d n ks := by
 obtain ⟨kvs, h1, h2, h3⟩ := S.dict
 refine ⟨⟨kvs, s _ _ h1, h2, fun z hz => ?_⟩, S.nodup, S.mem⟩
 obtain ⟨a, ts, q1, q2, q3⟩ := h3 z hz
 exact ⟨a, ts, q1, s _ _ q2, q3.keep fun t e h => s _ _ h⟩
theorem ties_pos {n : Net} {z : Str} : z ∈ ties n ↔ pos n z ≠ [] := by
 rw [← List.count_pos_iff, ← pos_len, List.length_pos_iff]
theorem SeatsOn.whole {H0 H : Hp} {d : Addr} {n : Net} {kvs : List (Key × V)} {ks : List Str} {A : Str → Option (Addr × List Addr)} (S : SeatsOn H0 H d (seats n) kvs ks A) : SeatsAt H d n ks := by
 have mem : ∀ z, z ∈ ks ↔ z ∈ ties n := fun z => by
  rw [S.mem z, ties_pos]
  cases h : A z with
  | none => simp; exact S.none' z h
  | some p =>
   obtain ⟨a, ts⟩ := p
   simp
   exact S.some' z a ts h
 refine ⟨⟨kvs, S.dict, S.keys, fun z hz => ?_⟩, S.nodup, mem⟩
 have := (S.mem z).mp ((mem z).mpr hz)
 cases h : A z with
 | none => rw [h] at this; cases this
 | some p =>
  obtain ⟨a, ts⟩ := p
  obtain ⟨q1, q2, q3, q4⟩ := S.at' z a ts h
  exact ⟨a, ts, by rw [S.val z, h]; rfl, q3, q4⟩
theorem all2 (e : Nat → Bool) : (List.range 2).all e = (e 0 && e 1) := by
 show (([0, 1] : List Nat).all e) = _
 simp
theorem dec_end (x y : End) : (eqV (.int x.1) (.int y.1) && eqV (.int x.2) (.int y.2)) = decide (x = y) := by
 obtain ⟨a, b⟩ := x
 obtain ⟨c, d⟩ := y
 by_cases h : a = c <;> by_cases h2 : b = d
 ·subst h h2; simp [eqV]
 ·have : ¬ (b : Int) = (d : Int) := fun e => h2 (by omega)
  simp [eqV, h2, this]
 ·have : ¬ (a : Int) = (c : Int) := fun e => h (by omega)
  simp [eqV, h, this]
 ·have : ¬ (a : Int) = (c : Int) := fun e => h (by omega)
  simp [eqV, h, this]
section
variable {X : Cx} {H : Hp} {s t : Addr} {x y : End}
theorem eqs_tp : ∀ (j : Nat) (u v : V), [V.int x.1, .int x.2][j]? = some u → [V.int y.1, .int y.2][j]? = some v → EqD X H 0 u v (if j = 0 then eqV (.int x.1) (.int y.1) else eqV (.int x.2) (.int y.2))
 | 0, u, v, h1, h2 => by
  cases h1
  cases h2
  exact eqD_flat rfl rfl
 | 1, u, v, h1, h2 => by
  cases h1
  cases h2
  exact eqD_flat rfl rfl
 | j + 2, u, v, h1, h2 => by simp at h1
theorem rcD_tp (hs : H s = some (Tp x)) (ht : H t = some (Tp y)) : RcD X H 1 (.ref s) (.ref t) (decide (x = y)) := by
 have := rcD_tup (X := X) (k := 0) (fun j => if j = 0 then eqV (.int x.1) (.int y.1) else eqV (.int x.2) (.int y.2)) (SqT.of hs) (SqT.of ht) rfl eqs_tp
 rw [show ([V.int (x.1 : Int), .int x.2].length) = 2 from rfl, all2] at this
 have e := dec_end x y
 simp only [if_true] at this
 rw [if_neg (by decide), e] at this
 exact this
theorem rnD_tp (hs : H s = some (Tp x)) (ht : H t = some (Tp y)) : RnD X H 1 (.ref s) (.ref t) (decide (x = y)) := by
 have := rnD_tup (X := X) (k := 0) (fun j => if j = 0 then eqV (.int x.1) (.int y.1) else eqV (.int x.2) (.int y.2)) (SqT.of hs) (SqT.of ht) rfl eqs_tp
 rw [show ([V.int (x.1 : Int), .int x.2].length) = 2 from rfl, all2] at this
 have e := dec_end x y
 simp only [if_true] at this
 rw [if_neg (by decide), e] at this
 exact this
end
end Nt
namespace Nt
open PySem L2
noncomputable abbrev lets : Str := "abcdefghijklmnopqrstuvwxyz0123456789"
theorem lets_len : lets.cps.toList.length = 36 := by decide +kernel
theorem lets_nodup : lets.cps.toList.Nodup := by decide +kernel
noncomputable def sgn (i : Int) : Nat := (atI lets.cps.toList (i % 36)).getD 0
theorem sgn_at (i : Int) : atI lets.cps.toList (i % 36) = some (sgn i) := by
 have h0 : 0 ≤ i % 36 := Int.emod_nonneg _ (by decide)
 have h1 : i % 36 < 36 := Int.emod_lt_of_pos _ (by decide)
 have hj : (i % 36).toNat < lets.cps.toList.length := by rw [lets_len]; omega
 have q := atI_nat (xs := lets.cps.toList) (j := (i % 36).toNat) (v := lets.cps.toList[(i % 36).toNat]) (by simp [hj])
 rw [show (((i % 36).toNat : Nat) : Int) = i % 36 by omega] at q
 unfold sgn
 rw [q]
 rfl
theorem sgn_inj {i j : Int} (h : sgn i = sgn j) : i % 36 = j % 36 := by
 have key : ∀ k : Int, lets.cps.toList[(k % 36).toNat]? = some (sgn k) := fun k => by
  have h0 : 0 ≤ k % 36 := Int.emod_nonneg _ (by decide)
  have h1 : k % 36 < 36 := Int.emod_lt_of_pos _ (by decide)
  have hj : (k % 36).toNat < lets.cps.toList.length := by rw [lets_len]; omega
  have q := atI_nat (xs := lets.cps.toList) (j := (k % 36).toNat) (v := lets.cps.toList[(k % 36).toNat]) (by simp [hj])
  rw [show (((k % 36).toNat : Nat) : Int) = k % 36 by omega, sgn_at] at q
  rw [List.getElem?_eq_getElem hj, Option.some.inj q]
 have hi := key i
 have hj := key j
 rw [h] at hi
 obtain ⟨l1, e1⟩ := List.getElem?_eq_some_iff.mp hi
 obtain ⟨l2, e2⟩ := List.getElem?_eq_some_iff.mp hj
 have := (List.getElem_inj (xs := lets.cps.toList) (h₀ := l1) (h₁ := l2) lets_nodup).mp (e1.trans e2.symm)
 have a0 : 0 ≤ i % 36 := Int.emod_nonneg _ (by decide)
 have b0 : 0 ≤ j % 36 := Int.emod_nonneg _ (by decide)
 omega
noncomputable def turn (b : Int) (sp : Int) (v k : Nat) : Int := b / 64 + (k : Int) * (b / 7 % 5) + (if (k : Int) = sp then (v : Int) else 0)
noncomputable def nm (b sp : Int) (v : Nat) : Nat → Str
 | 0 => ⟨#[]⟩
 | k + 1 => nm b sp v k ++ ⟨#[sgn (turn b sp v k)]⟩
theorem app_list (x y : Str) : (x ++ y).cps.toList = x.cps.toList ++ y.cps.toList := by
 show (x.cps ++ y.cps).toList = _
 simp
theorem nm_list (b sp : Int) (v : Nat) : ∀ k, (nm b sp v k).cps.toList = (List.range k).map fun j => sgn (turn b sp v j)
 | 0 => rfl
 | k + 1 => by
  show (nm b sp v k ++ ⟨#[sgn (turn b sp v k)]⟩).cps.toList = _
  rw [app_list, nm_list b sp v k, List.range_succ, List.map_append]
  rfl
theorem nm_inj {b sp : Int} {u v k : Nat} (hu : u < 36) (hv : v < 36) (h0 : 0 ≤ sp) (h1 : sp < (k : Int)) (h : nm b sp u k = nm b sp v k) : u = v := by
 have e : (nm b sp u k).cps.toList = (nm b sp v k).cps.toList := by rw [h]
 rw [nm_list, nm_list] at e
 have hk : sp.toNat < k := by omega
 have q : ((List.range k).map fun j => sgn (turn b sp u j))[sp.toNat]? = ((List.range k).map fun j => sgn (turn b sp v j))[sp.toNat]? := by rw [e]
 rw [List.getElem?_map, List.getElem?_map, List.getElem?_range hk] at q
 have q2 : sgn (turn b sp u sp.toNat) = sgn (turn b sp v sp.toNat) := Option.some.inj q
 have q3 := sgn_inj q2
 unfold turn at q3
 rw [show ((sp.toNat : Nat) : Int) = sp by omega, if_pos rfl, if_pos rfl] at q3
 omega
theorem fold_list (c : Nat) : ∀ (k : Nat) (acc : Array Nat), ((List.replicate k (#[c] : Array Nat)).foldl (· ++ ·) acc).toList = acc.toList ++ List.replicate k c
 | 0, acc => by simp
 | k + 1, acc => by
  rw [List.replicate_succ, List.foldl_cons, fold_list c k, List.replicate_succ]
  simp
theorem mul_list (c : Nat) {i : Int} (h : 1 ≤ i) : (Txt.mul ⟨#[c]⟩ i).cps.toList = List.replicate i.toNat c := by
 unfold Txt.mul
 rw [if_neg (by omega)]
 by_cases e : i = 1
 ·subst e
  rfl
 ·have e1 : (i == 1 || (⟨#[c]⟩ : Str).length == 0) = false := by
   have : (i == 1) = false := by simpa using e
   rw [this]
   rfl
  rw [e1]
  simp only [Bool.false_eq_true, if_false]
  have := fold_list c i.toNat #[]
  simpa using this
noncomputable def nameOf (b : Int) (v : Nat) : Str := if b % 3 = 2 then Txt.mul ⟨#[sgn (b / 64 + (v : Int) / 8)]⟩ (1 + (v : Int) % 8) else nm b (b / 8 % (1 + b % 8)) v (1 + b % 8).toNat
theorem nameOf_inj {b : Int} {u v : Nat} (hu : u < 36) (hv : v < 36) (h : nameOf b u = nameOf b v) : u = v := by
 have s0 : 0 ≤ b % 8 := Int.emod_nonneg _ (by decide)
 unfold nameOf at h
 by_cases c : b % 3 = 2
 ·rw [if_pos c, if_pos c] at h
  have u0 : 0 ≤ (u : Int) % 8 := Int.emod_nonneg _ (by decide)
  have v0 : 0 ≤ (v : Int) % 8 := Int.emod_nonneg _ (by decide)
  have e : (Txt.mul ⟨#[sgn (b / 64 + (u : Int) / 8)]⟩ (1 + (u : Int) % 8)).cps.toList = (Txt.mul ⟨#[sgn (b / 64 + (v : Int) / 8)]⟩ (1 + (v : Int) % 8)).cps.toList := by rw [h]
  rw [mul_list _ (by omega), mul_list _ (by omega)] at e
  have l := congrArg List.length e
  rw [List.length_replicate, List.length_replicate] at l
  have hd : (List.replicate (1 + (u : Int) % 8).toNat (sgn (b / 64 + (u : Int) / 8)))[0]? = (List.replicate (1 + (v : Int) % 8).toNat (sgn (b / 64 + (v : Int) / 8)))[0]? := by rw [e]
  rw [List.getElem?_replicate, List.getElem?_replicate, if_pos (by omega), if_pos (by omega)] at hd
  have q := sgn_inj (Option.some.inj hd)
  omega
 ·rw [if_neg c, if_neg c] at h
  refine nm_inj hu hv (Int.emod_nonneg _ (by omega)) ?_ h
  have := Int.emod_lt_of_pos (b / 8) (show 0 < 1 + b % 8 by omega)
  omega
noncomputable def namesOf (b : Int) (m : Nat) : List Str := (List.range m).map (nameOf b)
theorem namesOf_nodup {b : Int} {m : Nat} (h : m ≤ 36) : (namesOf b m).Nodup := by
 unfold namesOf
 refine List.Pairwise.map _ (R := fun i j => i < j ∧ j < m) ?_ ?_
 ·rintro i j ⟨h1, h2⟩ e
  have := nameOf_inj (by omega) (by omega) e
  omega
 ·rw [List.pairwise_iff_getElem]
  intro i j hi hj hij
  simp only [List.getElem_range]
  simp at hj
  exact ⟨hij, hj⟩
theorem namesOf_succ (b : Int) (m : Nat) : namesOf b (m + 1) = namesOf b m ++ [nameOf b m] := by
 unfold namesOf
 rw [List.range_succ, List.map_append]
 rfl
theorem namesOf_len (b : Int) (m : Nat) : (namesOf b m).length = m := by unfold namesOf; simp
theorem namesOf_at {b : Int} {m i : Nat} (h : i < m) : (namesOf b m)[i]? = some (nameOf b i) := by
 unfold namesOf
 rw [List.getElem?_map, List.getElem?_range h]
 rfl
end Nt
namespace P3
open PySem L2
noncomputable def top (i : Nat) : Stmt := PySem.Challenge.pw_threewebs_k31_each_tie_twice.main.body.getD i (.Pass ⟨0, 0, 0, 0⟩)
noncomputable abbrev sEnds : Stmt := top 6
noncomputable abbrev sOrder : Stmt := top 7
noncomputable abbrev sLeft : Stmt := top 8
noncomputable abbrev sRightT : Stmt := top 9
noncomputable abbrev sOthers : Stmt := top 10
noncomputable abbrev sByEnd : Stmt := top 11
noncomputable abbrev sLS : Stmt := top 12
noncomputable abbrev sRS : Stmt := top 13
noncomputable abbrev s_ties_of : Stmt := top 15
noncomputable abbrev s_need_tie : Stmt := top 16
noncomputable abbrev sWks : Stmt := top 18
noncomputable abbrev sWkF : Stmt := top 19
noncomputable abbrev s_passes_of : Stmt := top 20
noncomputable abbrev sCell : Stmt := top 22
noncomputable abbrev sBig : Stmt := top 23
noncomputable abbrev sNames : Stmt := top 24
noncomputable abbrev sSeats : Stmt := top 25
noncomputable abbrev sOther : Stmt := top 26
noncomputable abbrev sStep : Stmt := top 27
noncomputable abbrev sFace : Stmt := top 28
noncomputable abbrev sPut : Stmt := top 29
noncomputable abbrev sNet : Stmt := top 30
noncomputable abbrev sCopy : Stmt := top 31
noncomputable abbrev s_l_named : Stmt := top 32
noncomputable abbrev s_l_told : Stmt := top 33
noncomputable abbrev s_l_no_tie : Stmt := top 34
noncomputable abbrev sLaw : Stmt := top 35
structure Txt (mg : Str → Option Value) : Prop where
 isi : mg "isinstance" = none
 ttuple : mg "tuple" = none
 tstr : mg "str" = none
 tint : mg "int" = none
 tbool : mg "bool" = none
 tlist : mg "list" = none
 tdict : mg "dict" = none
 tset : mg "set" = none
 enum : mg "enumerate" = none
 zip : mg "zip" = none
 len : mg "len" = none
 range : mg "range" = none
 sorted : mg "sorted" = none
 max : mg "max" = none
 all : mg "all" = none
 vale : mg "ValueError" = none
end P3
namespace P3
open PySem L2 Nt Sort2
theorem small {n : Nat} (h : n ≤ 100000) : n ≤ sizeLine := by rw [sizeLine_eq]; omega
theorem small' {n : Nat} (h : n ≤ 100000) : n < sizeLine := by rw [sizeLine_eq]; omega
theorem same_new {H : Hp} {p : Addr} (h : H p = none) (o : HO) : Same H (upd H p o) := fun b u q => by rw [upd_ne (ne_of_none q h)]; exact q
theorem same_mut {H1 H2 : Hp} {r : Addr} {o : HO} (s : Same H1 H2) (h : H1 r = none) : Same H1 (upd H2 r o) := fun b u q => by
 rw [upd_ne (ne_of_none q h)]
 exact s _ _ q
theorem ls_app {H : Hp} {l : Addr} {zs : List Str} {y : Str} : upd H l (.lst (zs.map V.str ++ [V.str y])) = upd H l (Ls (zs ++ [y])) := by
 show _ = upd H l (.lst ((zs ++ [y]).map V.str))
 rw [List.map_append]
 rfl
noncomputable def spCell (K : PySem.W.Frag) : Sp := fun vs H Q _ => ∃ (a : Addr) (ns : List Int) (k : Int), vs = [.ref a, .int k] ∧ SqL K H a (ns.map V.int) ∧ 0 ≤ k ∧ ∀ i, Q (.int i) H
noncomputable def spBig (K : PySem.W.Frag) : Sp := fun vs H Q _ => ∃ (a : Addr) (ns : List Int) (k : Int), vs = [.ref a, .int k] ∧ SqL K H a (ns.map V.int) ∧ 0 ≤ k ∧ ∀ i H', Same H H' → Q (.int i) H'
noncomputable def spNames : Sp := fun vs H Q _ => ∃ (b m : Int), vs = [.int b, .int m] ∧ 0 ≤ m ∧ m ≤ 36 ∧ ∀ l H', Same H H' → H l = none → H' l = some (Ls (namesOf b m.toNat)) → Q (.ref l) H'
noncomputable def spSeats : Sp := fun vs H Q _ => ∃ (R : Addr) (as : List (Addr × Addr)) (n : Net), vs = [.ref R] ∧ RowsAt H R as n ∧ n.length ≤ 1000 ∧ (ties n).length ≤ 1000 ∧ ∀ d ks H', Same H H' → H d = none → SeatsAt H' d n ks → Q (.ref d) H'
noncomputable def spOther : Sp := fun vs H Q _ => ∃ (R d t : Addr) (as : List (Addr × Addr)) (n : Net) (ks : List Str) (e : Nt.End), vs = [.ref R, .ref d, .ref t] ∧ RowsAt H R as n ∧ SeatsAt H d n ks ∧ Twice n ∧ H t = some (Tp e) ∧ e ∈ ends n ∧ ∀ u, H u = some (Tp (other n e)) → Q (.ref u) H
noncomputable def spStep : Sp := fun vs H Q _ => ∃ (R d t : Addr) (as : List (Addr × Addr)) (n : Net) (ks : List Str) (e : Nt.End), vs = [.ref R, .ref d, .ref t, .int 1] ∧ RowsAt H R as n ∧ SeatsAt H d n ks ∧ Twice n ∧ H t = some (Tp e) ∧ e ∈ ends n ∧ ∀ u H', Same H H' → H u = none → H' u = some (Tp (step n e)) → Q (.ref u) H'
noncomputable def spFace : Sp := fun vs H Q _ => ∃ (R d t : Addr) (as : List (Addr × Addr)) (n : Net) (ks : List Str) (e : Nt.End), vs = [.ref R, .ref d, .ref t] ∧ RowsAt H R as n ∧ SeatsAt H d n ks ∧ Twice n ∧ H t = some (Tp e) ∧ e ∈ ends n ∧ (ends n).length ≤ 1000 ∧
 ∀ l ts fs H', Same H H' → H l = none → H' l = some (.lst (ts.map V.ref)) → Pd H' ts fs → IsFace n e fs → Q (.ref l) H'
section
variable {P : Program} {w : World} {K : PySem.W.Frag} {mg : Str → Option Value} {base : Heap}
theorem scCell : FnScope ["_law_script", "_law_k"] ["_law_script", "_law_k"] (defScope sCell) := ⟨rfl, rfl, rfl, by decide +kernel, rfl, by decide +kernel, by decide +kernel⟩
theorem at_ints {ns : List Int} {k : Int} (h0 : 0 ≤ k) (h1 : k < (ns.length : Int)) : ∃ v : Int, atI (ns.map V.int) k = some (.int v) := by
 have hj : k.toNat < ns.length := by omega
 have q := atI_nat (xs := ns.map V.int) (j := k.toNat) (v := .int ns[k.toNat]) (by simp [hj])
 rw [show ((k.toNat : Nat) : Int) = k by omega] at q
 exact ⟨_, q⟩
theorem ok_cell {f : Addr} {fd : FuncData} (F : Fun K "_law_cell_at" "_law_cell_at" sCell f fd) (T : Txt mg) : FnOk P w K mg base CX0 1 f fd ["_law_script", "_law_k"] (spCell K) := by
 refine F.gb scCell (fun vs H Q E h => ?_) (fun b0 H vs Q E hr h => ?_)
 ·obtain ⟨a, ns, k, rfl, _⟩ := h
  rfl
 obtain ⟨a, ns, k, rfl, hS, h0, q⟩ := h
 show Run _ _ _ [some (.ref a), some (.int k)] H
 refine run_if (et_cmp op_lt (ev_v 1 (ev_blt call_len_seq T.len boot_len (ea_cons (ev_v 0 (ea_nil ⟨a, _, rfl, .inl hS, _, _, rfl, rfl, _, rfl, ?_⟩))))))
 refine ite2 (fun c => ?_) (fun c => ?_)
 ·have c' := of_decide_eq_true c
  obtain ⟨v, hv⟩ := at_ints (ns := ns) h0 (by rw [List.length_map] at c'; exact c')
  exact run_ret (ev_ix ix_list (ev_v 0 (ev_v 1 ⟨a, _, _, .int v, rfl, rfl, hS, hv, q v⟩)))
 ·exact run_nil (run_ret (ev_int (q 0)))
noncomputable abbrev bys : List V := [.int 48271, .int 69621, .int 16807, .int 39373, .int 21401, .int 60493, .int 87721, .int 31337]
noncomputable abbrev prs : List V := [.int 99991, .int 99989, .int 99971, .int 99961, .int 99929, .int 99923, .int 99907, .int 99901]
theorem eight {i : Int} (h0 : 0 ≤ i) (h1 : i < 8) : i = 0 ∨ i = 1 ∨ i = 2 ∨ i = 3 ∨ i = 4 ∨ i = 5 ∨ i = 6 ∨ i = 7 := by
 obtain ⟨k, rfl⟩ := Int.eq_ofNat_of_zero_le h0
 exact (by decide : ∀ k : Fin 8, (k.1 : Int) = 0 ∨ (k.1 : Int) = 1 ∨ (k.1 : Int) = 2 ∨ (k.1 : Int) = 3 ∨ (k.1 : Int) = 4 ∨ (k.1 : Int) = 5 ∨ (k.1 : Int) = 6 ∨ (k.1 : Int) = 7) ⟨k, Int.ofNat_lt.mp h1⟩
theorem at_bys {i : Int} (h0 : 0 ≤ i) (h1 : i < 8) : ∃ m : Int, atI bys i = some (.int m) ∧ 0 < m ∧ m < 100000 := by
 rcases eight h0 h1 with rfl | rfl | rfl | rfl | rfl | rfl | rfl | rfl <;> exact ⟨_, rfl, by decide, by decide⟩
theorem at_prs {i : Int} (h0 : 0 ≤ i) (h1 : i < 8) : ∃ m : Int, atI prs i = some (.int m) ∧ 0 < m ∧ m < 100000 := by
 rcases eight h0 h1 with rfl | rfl | rfl | rfl | rfl | rfl | rfl | rfl <;> exact ⟨_, rfl, by decide, by decide⟩
theorem scBig : FnScope ["_law_script", "_law_at", "_law_by", "_law_prime", "_law_cell", "_law_big_here", "_law_k", "_law_one"] ["_law_script", "_law_at"] (defScope sBig) := ⟨rfl, rfl, rfl, by decide +kernel, rfl, by decide +kernel, by decide +kernel⟩
theorem ok_big {f : Addr} {fd : FuncData} (F : Fun K "_law_big" "_law_big" sBig f fd) (T : Txt mg) (G : Has P w K mg base 1 "_law_cell_at" ["_law_script", "_law_k"] (spCell K)) :
  FnOk P w K mg base CX0 2 f fd ["_law_script", "_law_at"] (spBig K) := by
 refine F.gb scBig (fun vs H Q E h => ?_) (fun b0 H vs Q E hr h => ?_)
 ·obtain ⟨a, ns, k, rfl, _⟩ := h
  rfl
 obtain ⟨a, ns, k, rfl, hS, h0, q⟩ := h
 have nd := scBig.nd
 show Run _ _ _ [some (.ref a), some (.int k), none, none, none, none, none, none] H
 refine run_set 2 nd (ev_tup (ea_cons (ev_int (ea_cons (ev_int (ea_cons (ev_int (ea_cons (ev_int (ea_cons (ev_int (ea_cons (ev_int (ea_cons (ev_int (ea_cons (ev_int (ea_nil ⟨(by show 8 ≤ sizeLine; decide), fun p hp => ?_⟩))))))))))))))))))
 refine run_set 3 nd (ev_tup (ea_cons (ev_int (ea_cons (ev_int (ea_cons (ev_int (ea_cons (ev_int (ea_cons (ev_int (ea_cons (ev_int (ea_cons (ev_int (ea_cons (ev_int (ea_nil ⟨(by show 8 ≤ sizeLine; decide), fun p2 hp2 => ?_⟩))))))))))))))))))
 have npp : p ≠ p2 := by
  intro e
  rw [← e, upd_same] at hp2
  cases hp2
 have s1 : Same H (upd H p (.tup bys)) := same_new hp _
 have s2 : Same H (upd (upd H p (.tup bys)) p2 (.tup prs)) := s1.trans (same_new hp2 _)
 have e1 : (upd (upd H p (.tup bys)) p2 (.tup prs)) p = some (.tup bys) := by rw [upd_ne npp, upd_same]
 have e2 : (upd (upd H p (.tup bys)) p2 (.tup prs)) p2 = some (.tup prs) := upd_same
 generalize upd (upd H p (.tup bys)) p2 (.tup prs) = H2 at s2 e1 e2 ⊢
 refine run_set 4 nd (ev_has G hr (ea_cons (ev_v 0 (ea_cons (ev_v 1 (ea_nil ⟨a, ns, k, rfl, s2.seq hS, h0, fun b => ?_⟩))))))
 show Run _ _ _ [some (.ref a), some (.int k), some (.ref p), some (.ref p2), some (.int b), none, none, none] H2
 refine run_ifJ True True (fun R qq => ?_) (fun _ => ?_) (fun _ => run_nil ?_)
 ·refine et_bool (ew_and (et_cmp op_eq (ev_op op_mod (ev_v 4 (ev_int ⟨_, _, rfl, rfl, (by show (0 : Int) < 2; decide), ev_int ⟨rfl, _, rfl, ?_⟩⟩)))))
  refine ite2 (fun c => ?_) (fun c => qq false (fun z => nomatch z) fun _ => trivial)
  exact ew_and1 (et_cmp op_gt (ev_v 4 (ev_op op_pow (ev_int (ev_int ⟨_, _, rfl, rfl, ⟨by decide, by decide, by decide⟩, _, _, rfl, rfl, _, rfl, qq _ (fun _ => trivial) fun _ => trivial⟩)))))
 ·exact run_ret (ev_op op_fdiv (ev_v 4 (ev_int ⟨_, _, rfl, rfl, ⟨by decide, by decide⟩, q _ _ s2⟩)))
 refine run_set 5 nd (ev_int ?_)
 refine run_forR1 T.range (ev_int ⟨60, rfl, by decide, by decide, loop_range (n := 60) (fun _ σ H3 => H3 = H2 ∧ ∃ (x : Int) (u v : Option V), σ = [some (.ref a), some (.int k), some (.ref p), some (.ref p2), some (.int b), some (.int x), u, v]) ⟨rfl, 0, _, _, rfl⟩ ?_ ?_⟩)
 ·rintro i σ H3 hi ⟨rfl, x, u, v, rfl⟩
  have i9 : 0 ≤ (0 + (i : Int)) % 9 := Int.emod_nonneg _ (by decide)
  obtain ⟨m1, f1, g1, g2⟩ := at_bys (i := (0 + (i : Int)) % 8) (Int.emod_nonneg _ (by decide)) (Int.emod_lt_of_pos _ (by decide))
  obtain ⟨m2, f2, g3, g4⟩ := at_prs (i := (0 + (i : Int)) % 8) (Int.emod_nonneg _ (by decide)) (Int.emod_lt_of_pos _ (by decide))
  refine eg_name 6 nd ?_
  refine run_set 7 nd (ev_op op_add (ev_op op_add (ev_op op_mod (ev_has G hr (ea_cons (ev_v 0 (ea_cons (ev_op op_add (ev_v 1 (ev_op op_mod (ev_v 6 (ev_int ?_))))))))))))
  refine ⟨_, _, rfl, rfl, (by show (0 : Int) < 9; decide), _, _, rfl, rfl, ea_nil ⟨a, ns, _, rfl, s2.seq hS, ?_, fun c => ?_⟩⟩
  ·show 0 ≤ k + (0 + (i : Int)) % 9
   omega
  refine ev_op op_pow (ev_int (ev_int ⟨_, _, rfl, rfl, ⟨by decide, by decide, by decide⟩, _, _, rfl, rfl, (by show (0 : Int) < 10 ^ (18 : Int).toNat; decide), ev_int ⟨_, _, rfl, rfl, ?_⟩⟩))
  refine ev_op op_mul (ev_v 6 (ev_v 6 ?_))
  refine ⟨_, _, rfl, rfl, .inl ⟨by omega, by omega⟩, _, _, rfl, rfl, ?_⟩
  refine run_set 5 nd (ev_op op_add (ev_op op_mul (ev_v 5 (ev_int ⟨_, _, rfl, rfl, .inr ⟨by decide, by decide⟩, ?_⟩))))
  refine ev_op op_mod (ev_op op_mod (ev_op op_mul (ev_v 7 (ev_ix ix_tup (ev_v 2 (ev_op op_mod (ev_v 6 (ev_int ⟨_, _, rfl, rfl, (by show (0 : Int) < 8; decide), p, _, _, _, rfl, rfl, SqT.of e1, f1, _, _, rfl, rfl, .inr ⟨by omega, by omega⟩, ?_⟩))))))))
  refine ev_ix ix_tup (ev_v 3 (ev_op op_mod (ev_v 6 (ev_int ⟨_, _, rfl, rfl, (by show (0 : Int) < 8; decide), p2, _, _, _, rfl, rfl, SqT.of e2, f2, _, _, rfl, rfl, g3, ev_int ⟨_, _, rfl, rfl, (by show (0 : Int) < 7919; decide), _, _, rfl, rfl, ?_⟩⟩))))
  exact run_nil ⟨rfl, _, _, _, rfl⟩
 ·rintro σ H3 ⟨rfl, x, u, v, rfl⟩
  exact run_ret (ev_v 5 (q x _ s2))
noncomputable abbrev NN : List Str := ["_law_stem", "_law_many", "_law_signs", "_law_size", "_law_spot", "_law_names_here", "_law_v", "_law_name", "_law_k", "_law_turn"]
theorem scNames : FnScope NN ["_law_stem", "_law_many"] (defScope sNames) := ⟨rfl, rfl, rfl, by decide +kernel, rfl, by decide +kernel, by decide +kernel⟩
theorem ok_names {f : Addr} {fd : FuncData} (F : Fun K "_law_names" "_law_names" sNames f fd) (T : Txt mg) : FnOk P w K mg base CX0 1 f fd ["_law_stem", "_law_many"] spNames := by
 refine F.gb scNames (fun vs H Q E h => ?_) (fun b0 H vs Q E hr h => ?_)
 ·obtain ⟨b, m, rfl, _⟩ := h
  rfl
 obtain ⟨b, m, rfl, m0, m1, q⟩ := h
 have nd := scNames.nd
 have s0 : 0 ≤ b % 8 := Int.emod_nonneg _ (by decide)
 have s1 : b % 8 < 8 := Int.emod_lt_of_pos _ (by decide)
 show Run _ _ _ [some (.int b), some (.int m), none, none, none, none, none, none, none, none] H
 refine run_set 2 nd (ev_str ?_)
 refine run_set 3 nd (ev_op op_add (ev_int (ev_op op_mod (ev_v 0 (ev_int ⟨_, _, rfl, rfl, (by show (0 : Int) < 8; decide), _, _, rfl, rfl, ?_⟩)))))
 refine run_set 4 nd (ev_op op_mod (ev_op op_fdiv (ev_v 0 (ev_int ⟨_, _, rfl, rfl, ⟨by decide, by decide⟩, ev_v 3 ⟨_, _, rfl, rfl, (by show 0 < 1 + b % 8; omega), ?_⟩⟩))))
 refine run_set 5 nd (ev_lst (ea_nil ⟨(by show 0 ≤ sizeLine; decide), fun l hl => ?_⟩))
 show Run _ _ _ [some (.int b), some (.int m), some (.str lets), some (.int (1 + b % 8)), some (.int (b / 8 % (1 + b % 8))), some (.ref l), none, none, none, none] _
 have spE : b / 8 % (1 + b % 8) = b / 8 % (1 + b % 8) := rfl
 refine run_forR1 T.range (ev_v 1 ⟨m, rfl, by omega, by omega, loop_range (n := m.toNat) (fun i σ H3 => H3 = upd H l (Ls (namesOf b i)) ∧ ∃ u1 u2 u3 u4, σ = [some (.int b), some (.int m), some (.str lets), some (.int (1 + b % 8)), some (.int (b / 8 % (1 + b % 8))), some (.ref l), u1, u2, u3, u4]) ⟨rfl, _, _, _, _, rfl⟩ ?_ ?_⟩)
 ·rintro i σ H3 hi ⟨rfl, u1, u2, u3, u4, rfl⟩
  refine eg_name 6 nd ?_
  refine run_set 7 nd (ev_str ?_)
  refine run_forR1 T.range (ev_v 3 ⟨_, rfl, by omega, by omega, loop_range (n := (1 + b % 8).toNat) (fun j σ H4 => H4 = upd H l (Ls (namesOf b i)) ∧ ∃ (u3 u4 : Option V), σ = [some (.int b), some (.int m), some (.str lets), some (.int (1 + b % 8)), some (.int (b / 8 % (1 + b % 8))), some (.ref l), some (.int (0 + (i : Int))), some (.str (nm b (b / 8 % (1 + b % 8)) i j)), u3, u4]) ⟨rfl, _, _, rfl⟩ ?_ ?_⟩)
  ·rintro j σ H4 hj ⟨rfl, v3, v4, rfl⟩
   have t0 : 0 ≤ b / 7 % 5 := Int.emod_nonneg _ (by decide)
   have t1 : b / 7 % 5 < 5 := Int.emod_lt_of_pos _ (by decide)
   have nl : (nm b (b / 8 % (1 + b % 8)) i j).length = j := by
    have := congrArg List.length (nm_list b (b / 8 % (1 + b % 8)) i j)
    show (nm b (b / 8 % (1 + b % 8)) i j).cps.size = j
    simpa using this
   refine eg_name 8 nd ?_
   refine run_set 9 nd (ev_op op_add (ev_op op_fdiv (ev_v 0 (ev_int ⟨_, _, rfl, rfl, ⟨by decide, by decide⟩, ev_op op_mul (ev_v 8 (ev_op op_mod (ev_op op_fdiv (ev_v 0 (ev_int ⟨_, _, rfl, rfl, ⟨by decide, by decide⟩, ev_int ⟨_, _, rfl, rfl, (by show (0 : Int) < 5; decide), ?_⟩⟩)))))⟩))))
   refine ⟨_, _, rfl, rfl, .inr ⟨by omega, by omega⟩, _, _, rfl, rfl, ?_⟩
   refine run_ifM ((0 + (j : Int)) = b / 8 % (1 + b % 8)) (¬ (0 + (j : Int)) = b / 8 % (1 + b % 8)) (fun σ' H' => H' = upd H l (Ls (namesOf b i)) ∧ σ' = [some (.int b), some (.int m), some (.str lets), some (.int (1 + b % 8)), some (.int (b / 8 % (1 + b % 8))), some (.ref l), some (.int (0 + (i : Int))), some (.str (nm b (b / 8 % (1 + b % 8)) i j)), some (.int (0 + (j : Int))), some (.int (turn b (b / 8 % (1 + b % 8)) i j))]) (fun R qq => ?_) (fun hc => ?_) (fun hc => run_nil ⟨rfl, ?_⟩) ?_
   ·refine et_cmp op_eq (ev_v 8 (ev_v 4 ⟨rfl, _, rfl, ?_⟩))
    by_cases hc : (0 + (j : Int)) = b / 8 % (1 + b % 8)
    ·rw [decide_eq_true (show V.int (0 + (j : Int)) = V.int (b / 8 % (1 + b % 8)) by rw [hc])]
     exact qq true (fun _ => hc) fun h => by cases h
    ·rw [decide_eq_false fun h => hc (V.int.inj h)]
     exact qq false (fun h => by cases h) fun _ => hc
   ·refine run_set 9 nd (ev_op op_add (ev_v 9 (ev_v 6 ⟨_, _, rfl, rfl, run_nil ⟨rfl, ?_⟩⟩)))
    have e : b / 64 + (0 + (j : Int)) * (b / 7 % 5) + (0 + (i : Int)) = turn b (b / 8 % (1 + b % 8)) i j := by
     unfold turn
     rw [if_pos (by omega), Int.zero_add, Int.zero_add]
    rw [← e]
    rfl
   ·have e : b / 64 + (0 + (j : Int)) * (b / 7 % 5) = turn b (b / 8 % (1 + b % 8)) i j := by
     unfold turn
     rw [if_neg (by omega), Int.zero_add, Int.add_zero]
    rw [← e]
    rfl
   ·rintro σ' H' ⟨rfl, rfl⟩
    refine run_set 7 nd (ev_op op_add_str (ev_v 7 (ev_ix ix_str (ev_v 2 (ev_op op_mod (ev_v 9 (ev_int ⟨_, _, rfl, rfl, (by show (0 : Int) < 36; decide), lets, _, sgn (turn b (b / 8 % (1 + b % 8)) i j), rfl, rfl, by decide +kernel, sgn_at _, _, _, rfl, rfl, small (by show (nm b (b / 8 % (1 + b % 8)) i j).length + 1 ≤ 100000; omega), run_nil ⟨rfl, _, _, rfl⟩⟩)))))))
  ·rintro σ H4 ⟨rfl, v3, v4, rfl⟩
   refine run_ifM (b % 3 = 2) (¬ b % 3 = 2) (fun σ' H' => H' = upd H l (Ls (namesOf b i)) ∧ σ' = [some (.int b), some (.int m), some (.str lets), some (.int (1 + b % 8)), some (.int (b / 8 % (1 + b % 8))), some (.ref l), some (.int (0 + (i : Int))), some (.str (nameOf b i)), v3, v4]) (fun R qq => ?_) (fun hc => ?_) (fun hc => run_nil ⟨rfl, ?_⟩) ?_
   ·refine et_cmp op_eq (ev_op op_mod (ev_v 0 (ev_int ⟨_, _, rfl, rfl, (by show (0 : Int) < 3; decide), ev_int ⟨rfl, _, rfl, ?_⟩⟩)))
    by_cases hc : b % 3 = 2
    ·rw [decide_eq_true (show V.int (b % 3) = V.int 2 by rw [hc])]
     exact qq true (fun _ => hc) fun h => by cases h
    ·rw [decide_eq_false fun h => hc (V.int.inj h)]
     exact qq false (fun h => by cases h) fun _ => hc
   ·have e0 : 0 ≤ (0 + (i : Int)) % 8 := Int.emod_nonneg _ (by decide)
    have e1 : (0 + (i : Int)) % 8 < 8 := Int.emod_lt_of_pos _ (by decide)
    refine run_set 7 nd (ev_op op_repS (ev_ix ix_str (ev_v 2 (ev_op op_mod (ev_op op_add (ev_op op_fdiv (ev_v 0 (ev_int ⟨_, _, rfl, rfl, ⟨by decide, by decide⟩, ev_op op_fdiv (ev_v 6 (ev_int ⟨_, _, rfl, rfl, ⟨by decide, by decide⟩, _, _, rfl, rfl, ev_int ⟨_, _, rfl, rfl, (by show (0 : Int) < 36; decide), lets, _, sgn (b / 64 + (0 + (i : Int)) / 8), rfl, rfl, by decide +kernel, sgn_at _, ?_⟩⟩))⟩))))))))
    refine ev_op op_add (ev_int (ev_op op_mod (ev_v 6 (ev_int ⟨_, _, rfl, rfl, (by show (0 : Int) < 8; decide), _, _, rfl, rfl, ?_⟩))))
    refine ⟨_, _, rfl, rfl, by omega, by omega, ?_, run_nil ⟨rfl, ?_⟩⟩
    ·show 1 * _ ≤ _
     omega
    ·have e : Txt.mul ⟨#[sgn (b / 64 + (0 + (i : Int)) / 8)]⟩ (1 + (0 + (i : Int)) % 8) = nameOf b i := by
      unfold nameOf
      rw [if_pos hc, Int.zero_add]
     rw [← e]
     rfl
   ·have e : nm b (b / 8 % (1 + b % 8)) i (1 + b % 8).toNat = nameOf b i := by
     unfold nameOf
     rw [if_neg hc]
    rw [← e]
   ·rintro σ' H' ⟨rfl, rfl⟩
    refine run_expr (ev_append (ev_v 5 ⟨l, rfl, ⟨_, upd_same⟩, ev_v 7 ⟨_, upd_same, ?_, ?_⟩⟩))
    ·rw [List.length_map, namesOf_len]
     exact small' (by omega)
    ·rw [upd_upd]
     refine run_nil ⟨?_, _, _, _, _, rfl⟩
     rw [namesOf_succ]
     exact ls_app
 ·rintro σ H3 ⟨rfl, u1, u2, u3, u4, rfl⟩
  exact run_ret (ev_v 5 (q l _ (same_new hl _) hl upd_same))
end
end P3
namespace P3
open PySem L2 Nt Sort2
section
variable {P : Program} {w : World} {K : PySem.W.Frag} {mg : Str → Option Value} {base : Heap}
theorem ty_dK {H : Hp} {d : Addr} {kvs : List (Key × V)} (h : H d = some (.dK kvs)) : tyV K "dict" (.ref d) H := Or.inr (Or.inr (Or.inl ⟨rfl, Or.inl ⟨kvs, h⟩⟩))
noncomputable abbrev NS : List Str := ["_law_rows", "_law_seats_here", "_law_r", "_law_place"]
theorem scSeats : FnScope NS ["_law_rows"] (defScope sSeats) := ⟨rfl, rfl, rfl, by decide +kernel, rfl, by decide +kernel, by decide +kernel⟩
theorem ok_seats {f : Addr} {fd : FuncData} (F : Fun K "_law_seats" "_law_seats" sSeats f fd) (T : Txt mg) : FnOk P w K mg base CX0 1 f fd ["_law_rows"] spSeats := by
 refine F.gb scSeats (fun vs H Q E h => ?_) (fun b0 H vs Q E hr h => ?_)
 ·obtain ⟨R, as, n, rfl, _⟩ := h
  rfl
 obtain ⟨R, as, n, rfl, hR, hn, ht, q⟩ := h
 have nd := scSeats.nd
 have hal := hR.len
 show Run _ _ _ [some (.ref R), none, none, none] H
 refine run_set 1 nd (ev_dnewK fun d hd => ?_)
 refine run_forR1 T.range (ev_blt call_len_seq T.len boot_len (ea_cons (ev_v 0 (ea_nil ⟨R, _, rfl, .inl (SqL.of (same_new hd _ _ _ hR.lst)), _, rfl, by omega, by rw [List.length_map]; omega, ?_⟩))))
 rw [List.length_map, hal, Int.toNat_natCast]
 refine loop_range (fun r σ H3 => ∃ kvs ks A u1 u2, SeatsOn H H3 d (seats (n.take r)) kvs ks A ∧ σ = [some (.ref R), some (.ref d), u1, u2]) ⟨_, _, _, _, _, SeatsOn.start hd, rfl⟩ ?_ ?_
 ·rintro r σ H3 hi ⟨kvs, ks, A', u1, u2, S, rfl⟩
  rw [Int.zero_add]
  refine eg_name 2 nd ?_
  obtain ⟨a, ea, eat, et, el, er⟩ := (hR.same S.same).at hi
  refine run_forR1 T.range (ev_blt call_len_seq T.len boot_len (ea_cons (ev_ix ix_tup (ev_ix ix_list (ev_v 0 (ev_v 2 ⟨R, _, _, .ref a.1, rfl, rfl, SqL.of (S.same _ _ hR.lst), eat, ev_int ⟨a.1, _, _, .ref a.2, rfl, rfl, SqT.of et, rfl, ea_nil ⟨a.2, _, rfl, .inl (SqL.of el), _, rfl, by omega, ?_, ?_⟩⟩⟩))))))
  ·have : (row n r).length ≤ 1000 := by
    have h1 : (row n r).length ≤ (ties n).length := by
     exact row_le n r
    omega
   rw [List.length_map]
   omega
  rw [List.length_map, Int.toNat_natCast]
  refine loop_range (fun p σ H4 => ∃ kvs ks A u2, SeatsOn H H4 d (seats (n.take r) ++ rowSeats r ((row n r).take p) 0) kvs ks A ∧ σ = [some (.ref R), some (.ref d), some (.int (r : Int)), u2]) ⟨kvs, ks, A', _, by simpa [rowSeats] using S, rfl⟩ ?_ ?_
  ·rintro p σ H4 hp ⟨kvs, ks, A', u2, S, rfl⟩
   rw [Int.zero_add]
   refine eg_name 3 nd ?_
   obtain ⟨a, ea, eat, et, el, er⟩ := (hR.same S.same).at hi
   have hz : (row n r)[p]? = some (row n r)[p] := List.getElem?_eq_getElem hp
   generalize (row n r)[p] = z at hz
   have next : seats (n.take r) ++ rowSeats r ((row n r).take (p + 1)) 0 = (seats (n.take r) ++ rowSeats r ((row n r).take p) 0) ++ [(z, (r, p))] := by
    rw [rowSeats_take hz, List.append_assoc]
   have hlen : kvs.length < sizeLine := by
    have h1 : ks.length ≤ 1000 := by
     refine Nat.le_trans (nodup_le (b := ties n) S.nodup fun y hy => ?_) ht
     have h2 := (S.mem y).mp hy
     cases hA : A' y with
     | none => rw [hA] at h2; cases h2
     | some pr =>
      obtain ⟨a2, ts2⟩ := pr
      have h3 := S.some' y a2 ts2 hA
      unfold posIn at h3
      obtain ⟨x, hx⟩ := List.exists_mem_of_ne_nil _ h3
      obtain ⟨⟨y2, e2⟩, hm, _⟩ := List.mem_map.mp hx
      rw [List.mem_filter, decide_eq_true_eq] at hm
      obtain ⟨hm, rfl⟩ := hm
      have : (y2, e2) ∈ seats n := by
       rcases List.mem_append.mp hm with hm | hm
       ·have q1 := mem_seats.mp hm
        refine mem_seats.mpr ?_
        have q2 := row_lt q1
        unfold tieAt row at q1 ⊢
        rw [List.length_take] at q2
        rwa [List.getElem?_take_of_lt (by omega)] at q1
       ·have q1 := mem_rowSeats.mp hm
        refine mem_seats.mpr ?_
        unfold tieAt
        rw [q1.1]
        have q3 := q1.2.2
        rw [Nat.sub_zero] at q3
        have q4 := (List.getElem?_eq_some_iff.mp q3).1
        rw [List.length_take] at q4
        rwa [List.getElem?_take_of_lt (by omega)] at q3
      exact tie_mem (mem_seats.mp this)
    have h2 := congrArg List.length S.keys
    rw [List.length_map, List.length_map] at h2
    exact small' (by omega)
   refine run_expr (ev_append (ev_m2 PySem.F.plainAttrs_dict PySem.F.slot_dict_setdefault PySem.F.type_dict_setdefault mt_setdef (ev_v 1 ⟨ty_dK S.dict, ev_ix ix_list (ev_ix ix_tup (ev_ix ix_list (ev_v 0 (ev_v 2 ⟨R, _, _, .ref a.1, rfl, rfl, SqL.of (S.same _ _ hR.lst), eat, ev_int ⟨a.1, _, _, .ref a.2, rfl, rfl, SqT.of et, rfl, ev_v 3 ⟨a.2, _, _, .str z, rfl, rfl, SqL.of el, at_strs hz, ?_⟩⟩⟩))))⟩)))
   refine ev_lst (ea_nil ⟨(by show 0 ≤ sizeLine; decide), fun l0 hl0 => ?_⟩)
   have hdl : d ≠ l0 := ne_of_none S.dict hl0
   refine ⟨d, kvs, Sum.inr z, .ref l0, rfl, rfl, by rw [upd_ne hdl]; exact S.dict, hlen, ?_⟩
   cases hA : A' z with
   | some pr =>
    obtain ⟨a2, ts2⟩ := pr
    obtain ⟨q1, q2, q3, q4⟩ := S.at' z a2 ts2 hA
    have hla : a2 ≠ l0 := ne_of_none q3 hl0
    refine .inl ⟨.ref a2, by rw [S.val z, hA]; rfl, a2, rfl, ⟨_, by rw [upd_ne hla]; exact q3⟩, ?_⟩
    refine ev_tup (ea_cons (ev_v 2 (ea_cons (ev_v 3 (ea_nil ⟨(by show 2 ≤ sizeLine; decide), fun t ht2 => ?_⟩)))))
    have hta : a2 ≠ t := fun e => by rw [← e, upd_ne hla, q3] at ht2; cases ht2
    refine ⟨ts2.map V.ref, by rw [upd_ne hta, upd_ne hla]; exact q3, ?_, ?_⟩
    ·rw [List.length_map, q4.length]
     have h1 : (posIn (seats (n.take r) ++ rowSeats r ((row n r).take p) 0) z).length ≤ 100000 := by
      unfold posIn
      rw [List.length_map]
      refine Nat.le_trans (List.length_filter_le _ _) ?_
      rw [List.length_append]
      have h2 : (seats (n.take r)).length ≤ 1000 := by
       have := congrArg List.length (seats_names (n.take r) 0)
       rw [List.length_map] at this
       unfold seats
       rw [this]
       exact Nat.le_trans (ties_take_le n r) ht
      have h3 : (rowSeats r ((row n r).take p) 0).length ≤ 1000 := by
       unfold rowSeats
       rw [List.length_map, List.length_zipIdx, List.length_take]
       have h1 : (row n r).length ≤ (ties n).length := by
        exact row_le n r
       omega
      omega
     exact small' h1
    ·refine run_nil ⟨kvs, ks, (fun y => if y = z then some (a2, ts2 ++ [t]) else A' y), _, ?_, rfl⟩
     rw [next]
     exact S.old (e := (r, p)) hA hl0 ht2
   | none =>
    refine .inr ⟨by rw [S.val z, hA]; rfl, l0, rfl, ⟨_, by rw [upd_ne hdl.symm]; exact upd_same⟩, ?_⟩
    refine ev_tup (ea_cons (ev_v 2 (ea_cons (ev_v 3 (ea_nil ⟨(by show 2 ≤ sizeLine; decide), fun t ht2 => ?_⟩)))))
    have htl : l0 ≠ t := fun e => by rw [← e, upd_ne hdl.symm, upd_same] at ht2; cases ht2
    refine ⟨[], by rw [upd_ne htl, upd_ne hdl.symm, upd_same], by show 0 < sizeLine; decide, ?_⟩
    refine run_nil ⟨putK kvs (Sum.inr z) (.ref l0), ks ++ [z], (fun y => if y = z then some (l0, [t]) else A' y), _, ?_, rfl⟩
    rw [next]
    exact S.new (e := (r, p)) hA hl0 ht2
  ·rintro σ H4 ⟨kvs, ks, A', u2, S, rfl⟩
   refine run_nil ⟨kvs, ks, A', _, _, ?_, rfl⟩
   rw [seats_take hi]
   rwa [List.take_length] at S
 ·rintro σ H3 ⟨kvs, ks, A', u1, u2, S, rfl⟩
  rw [List.take_length] at S
  exact run_ret (ev_v 1 (q d ks H3 S.same S.free S.whole))
noncomputable abbrev NO : List Str := ["_law_rows", "_law_seats_here", "_law_end", "_law_pair"]
theorem scOther : FnScope NO ["_law_rows", "_law_seats_here", "_law_end"] (defScope sOther) := ⟨rfl, rfl, rfl, by decide +kernel, rfl, by decide +kernel, by decide +kernel⟩
theorem ok_other {f : Addr} {fd : FuncData} (F : Fun K "_law_other" "_law_other" sOther f fd) (T : Txt mg) : FnOk P w K mg base CX0 1 f fd ["_law_rows", "_law_seats_here", "_law_end"] spOther := by
 refine F.gb scOther (fun vs H Q E h => ?_) (fun b0 H vs Q E hr h => ?_)
 ·obtain ⟨R, d, t, as, n, ks, e, rfl, _⟩ := h
  rfl
 obtain ⟨R, d, t, as, n, ks, e, rfl, hR, hS, hT, ht, he, q⟩ := h
 have nd := scOther.nd
 have hu := hr.u100
 obtain ⟨z, hz⟩ := mem_ends.mp he
 have hlt := row_lt hz
 obtain ⟨a, ea, eat, et, el, er⟩ := hR.at hlt
 obtain ⟨kvs, h1, h2, h3⟩ := hS.dict
 obtain ⟨pa, ts, v1, v2, v3⟩ := h3 z (tie_mem hz)
 obtain ⟨x, y, hp, hxy, hor⟩ := pos_two hT hz
 rw [hp] at v3
 cases v3 with
 | cons x1 v3 =>
 cases v3 with
 | cons y1 v3 =>
 cases v3
 rename_i tx ty
 show Run _ _ _ [some (.ref R), some (.ref d), some (.ref t), none] H
 have hu1 := hr.u1
 refine run_set 3 nd (ev_dget hu1 (ev_v 1 (ev_ix ix_list (ev_ix ix_tup (ev_ix ix_list (ev_v 0 (ev_ix ix_tup (ev_v 2 (ev_int ⟨t, _, _, .int (e.1 : Int), rfl, rfl, SqT.of ht, rfl, R, _, _, .ref a.1, rfl, rfl, SqL.of hR.lst, eat, ev_int ⟨a.1, _, _, .ref a.2, rfl, rfl, SqT.of et, rfl, ?_⟩⟩)))))))))
 refine ev_ix ix_tup (ev_v 2 (ev_int ⟨t, _, _, .int (e.2 : Int), rfl, rfl, SqT.of ht, rfl, a.2, _, _, .str z, rfl, rfl, SqL.of el, at_strs hz, d, .ref pa, rfl, by rw [← v1]; exact DGet.k (k := Sum.inr z) h1, ?_⟩))
 show Run _ _ _ [some (.ref R), some (.ref d), some (.ref t), some (.ref pa)] H
 refine run_ret (ev_ix ix_list (ev_v 3 (ev_typ call_intB T.tint PyProof.Rows.boot_int (ea_cons (ev_cmp (op_eqD hu) (ev_ix ix_list (ev_v 3 (ev_int ⟨pa, _, _, .ref tx, rfl, rfl, SqL.of v2, rfl, ev_v 2 ⟨1, _, by decide, rcD_tp x1 ht, ?_⟩⟩))))))))
 by_cases c : x = e
 ·rw [decide_eq_true c]
  refine ea_nil ⟨_, rfl, pa, [.ref tx, .ref ty], 1, .ref ty, rfl, rfl, SqL.of v2, rfl, q ty ?_⟩
  have e1 : other n e = y := by unfold other; simp only [hz, hp]; simp [c]
  rw [e1]
  exact y1
 ·rw [decide_eq_false c]
  refine ea_nil ⟨_, rfl, pa, [.ref tx, .ref ty], 0, .ref tx, rfl, rfl, SqL.of v2, rfl, q tx ?_⟩
  have e1 : other n e = x := by unfold other; simp only [hz, hp]; simp [c]
  rw [e1]
  exact x1
noncomputable abbrev NT : List Str := ["_law_rows", "_law_seats_here", "_law_end", "_law_turn", "_law_other_here"]
theorem scStep : FnScope NT ["_law_rows", "_law_seats_here", "_law_end", "_law_turn"] (defScope sStep) := ⟨rfl, rfl, rfl, by decide +kernel, rfl, by decide +kernel, by decide +kernel⟩
theorem ok_step {f : Addr} {fd : FuncData} (F : Fun K "_law_step" "_law_step" sStep f fd) (T : Txt mg) (G : Has P w K mg base 1 "_law_other" ["_law_rows", "_law_seats_here", "_law_end"] spOther) :
  FnOk P w K mg base CX0 2 f fd ["_law_rows", "_law_seats_here", "_law_end", "_law_turn"] spStep := by
 refine F.gb scStep (fun vs H Q E h => ?_) (fun b0 H vs Q E hr h => ?_)
 ·obtain ⟨R, d, t, as, n, ks, e, rfl, _⟩ := h
  rfl
 obtain ⟨R, d, t, as, n, ks, e, rfl, hR, hS, hT, ht, he, q⟩ := h
 have nd := scStep.nd
 have ho := other_end hT he
 obtain ⟨z, hz⟩ := mem_ends.mp ho
 have hlt := row_lt hz
 have hpl := end_lt hz
 obtain ⟨a, ea, eat, et, el, er⟩ := hR.at hlt
 show Run _ _ _ [some (.ref R), some (.ref d), some (.ref t), some (.int 1), none] H
 refine run_set 4 nd (ev_has G hr (ea_cons (ev_v 0 (ea_cons (ev_v 1 (ea_cons (ev_v 2 (ea_nil ⟨R, d, t, as, n, ks, e, rfl, hR, hS, hT, ht, he, fun u hu => ?_⟩))))))))
 show Run _ _ _ [some (.ref R), some (.ref d), some (.ref t), some (.int 1), some (.ref u)] H
 refine run_ret (ev_tup (ea_cons (ev_ix ix_tup (ev_v 4 (ev_int ⟨u, _, _, .int ((other n e).1 : Int), rfl, rfl, SqT.of hu, rfl, ?_⟩)))))
 refine ea_cons (ev_op op_mod (ev_op op_add (ev_ix ix_tup (ev_v 4 (ev_int ⟨u, _, _, .int ((other n e).2 : Int), rfl, rfl, SqT.of hu, rfl, ev_v 3 ⟨_, _, rfl, rfl, ?_⟩⟩)))))
 refine ev_blt call_len_seq T.len boot_len (ea_cons (ev_ix ix_tup (ev_ix ix_list (ev_v 0 (ev_ix ix_tup (ev_v 4 (ev_int ⟨u, _, _, .int ((other n e).1 : Int), rfl, rfl, SqT.of hu, rfl, R, _, _, .ref a.1, rfl, rfl, SqL.of hR.lst, eat, ev_int ⟨a.1, _, _, .ref a.2, rfl, rfl, SqT.of et, rfl, ea_nil ⟨a.2, _, rfl, .inl (SqL.of el), ?_⟩⟩⟩)))))))
 rw [List.length_map]
 refine ⟨_, _, rfl, rfl, by omega, ea_nil ⟨(by show 2 ≤ sizeLine; decide), fun p hp => ?_⟩⟩
 refine q p _ (same_new hp _) hp ?_
 rw [upd_same]
 unfold Nt.step Nt.left
 show some (HO.tup [.int ((other n e).1 : Int), .int ((((other n e).2 : Int) + 1) % ((row n (other n e).1).length : Int))]) = some (HO.tup [.int ((other n e).1 : Int), .int ((((other n e).2 + 1) % (row n (other n e).1).length : Nat) : Int)])
 rw [Int.natCast_emod]
 rfl
noncomputable abbrev NF : List Str := ["_law_rows", "_law_seats_here", "_law_end", "_law_face_here", "_law_here"]
theorem scFace : FnScope NF ["_law_rows", "_law_seats_here", "_law_end"] (defScope sFace) := ⟨rfl, rfl, rfl, by decide +kernel, rfl, by decide +kernel, by decide +kernel⟩
noncomputable def orb (n : Net) (e : Nt.End) (j : Nat) : List Nt.End := (List.range j).map fun i => it (step n) i e
theorem orb_succ (n : Net) (e : Nt.End) (j : Nat) : orb n e (j + 1) = orb n e j ++ [it (step n) j e] := by
 unfold orb
 rw [List.range_succ, List.map_append]
 rfl
theorem ok_face {f : Addr} {fd : FuncData} (F : Fun K "_law_face" "_law_face" sFace f fd) (T : Txt mg) (G : Has P w K mg base 2 "_law_step" ["_law_rows", "_law_seats_here", "_law_end", "_law_turn"] spStep) :
  FnOk P w K mg base CX0 3 f fd ["_law_rows", "_law_seats_here", "_law_end"] spFace := by
 refine F.gb scFace (fun vs H Q E h => ?_) (fun b0 H vs Q E hr h => ?_)
 ·obtain ⟨R, d, t, as, n, ks, e, rfl, _⟩ := h
  rfl
 obtain ⟨R, d, t, as, n, ks, e, rfl, hR, hS, hT, ht, he, hb, q⟩ := h
 have nd := scFace.nd
 have hu := hr.u100
 obtain ⟨k, k0, k1, k2⟩ := comes_back (f := step n) (S := ends n) (fun a ha => step_end hT ha) (fun a ha b hb => step_inj hT ha hb) he
 show Run _ _ _ [some (.ref R), some (.ref d), some (.ref t), none, none] H
 refine run_set 3 nd (ev_lst (ea_cons (ev_v 2 (ea_nil ⟨(by show 1 ≤ sizeLine; decide), fun l hl => ?_⟩))))
 have g1 := same_new hl (.lst [.ref t])
 refine run_set 4 nd (ev_has G hr (ea_cons (ev_v 0 (ea_cons (ev_v 1 (ea_cons (ev_v 2 (ea_cons (ev_int (ea_nil ⟨R, d, t, as, n, ks, e, rfl, hR.same g1, hS.same g1, hT, g1 _ _ ht, he, fun u H1 s1 nu eu => ?_⟩))))))))))
 show Run _ _ _ [some (.ref R), some (.ref d), some (.ref t), some (.ref l), some (.ref u)] H1
 refine run_while (fun m σ H2 => ∃ (j : Nat) (ts : List Addr) (u : Addr), m = k - j ∧ 0 < j ∧ j ≤ k ∧ Same H H2 ∧ H2 l = some (.lst (ts.map V.ref)) ∧ Pd H2 ts (orb n e j) ∧ H2 u = some (Tp (it (step n) j e)) ∧ (∀ i, 0 < i → i < j → it (step n) i e ≠ e) ∧ σ = [some (.ref R), some (.ref d), some (.ref t), some (.ref l), some (.ref u)])
  (m0 := k - 1) ⟨1, [t], u, rfl, Nat.one_pos, k0, g1.trans s1, s1 _ _ upd_same, .cons (s1 _ _ (g1 _ _ ht)) .nil, eu, fun i h1 h2 => by omega, rfl⟩ ?_
 rintro m σ H2 ⟨j, ts, u, rfl, j0, j1, sH, el, ep, eu, hf, rfl⟩
 refine et_cmp (op_neD hu) (ev_v 4 (ev_v 2 ⟨1, _, by decide, rnD_tp eu (sH _ _ ht), _, rfl, ?_⟩))
 have pl := ep.length
 have ol : (orb n e j).length = j := by unfold orb; simp
 by_cases c : it (step n) j e = e
 ·rw [decide_eq_true c]
  refine iteF (run_ret (ev_v 3 (q l ts (orb n e j) H2 sH hl el ep ⟨by omega, by omega, fun i hi => ?_, by rw [ol]; exact c, fun i h1 h2 => hf i h1 (by omega)⟩)))
  unfold orb
  rw [List.getElem?_map, List.getElem?_range (by omega)]
  rfl
 ·rw [decide_eq_false c]
  have jk : j < k := by
   rcases Nat.lt_or_ge j k with h | h
   ·exact h
   ·have : j = k := by omega
    subst this
    exact absurd k2 c
  refine iteT (run_expr (ev_append (ev_v 3 ⟨l, rfl, ⟨_, el⟩, ev_v 4 ⟨_, el, by rw [List.length_map]; exact small' (by omega), ?_⟩⟩)))
  have s2 : Same H (upd H2 l (.lst (ts.map V.ref ++ [.ref u]))) := same_mut sH hl
  have kt : ∀ b f, H2 b = some (Tp f) → (upd H2 l (.lst (ts.map V.ref ++ [.ref u]))) b = some (Tp f) := fun b f h => by
   rw [upd_ne (tp_ne_lst h el)]
   exact h
  have eu2 := kt u _ eu
  refine run_set 4 nd (ev_has G hr (ea_cons (ev_v 0 (ea_cons (ev_v 1 (ea_cons (ev_v 4 (ea_cons (ev_int (ea_nil ⟨R, d, u, as, n, ks, it (step n) j e, rfl, hR.same s2, hS.same s2, hT, eu2, it_mem (fun a ha => step_end hT ha) he j, fun v H3 s3 nv ev => ?_⟩))))))))))
  refine run_nil ⟨k - (j + 1), by omega, j + 1, ts ++ [u], v, rfl, Nat.succ_pos _, jk, s2.trans s3, ?_, ?_, ev, fun i h1 h2 => ?_, rfl⟩
  ·rw [List.map_append]
   exact s3 _ _ upd_same
  ·rw [orb_succ]
   exact (ep.keep fun b f h => s3 _ _ (kt b f h)).append (.cons (s3 _ _ eu2) .nil)
  ·rcases Nat.lt_succ_iff_lt_or_eq.mp h2 with h | h
   ·exact hf i h1 h
   ·rw [h]; exact c
end
end P3
namespace Nt
open PySem L2
noncomputable def Full (n : Net) : Prop := (∃ nm, n = [(nm, [])]) ∨ (n ≠ [] ∧ ∀ i, i < n.length → row n i ≠ [])
noncomputable def Corner (n : Net) (c : End) : Prop := c.1 < n.length ∧ c.2 < max 1 (row n c.1).length
noncomputable def ins (n : Net) (c : End) (z : Str) : Net := n.modify c.1 fun r => (r.1, r.2.take c.2 ++ z :: r.2.drop c.2)
theorem ins_len (n : Net) (c : End) (z : Str) : (ins n c z).length = n.length := by unfold ins; rw [List.length_modify]
theorem ins_names (n : Net) (c : End) (z : Str) : (ins n c z).map (·.1) = n.map (·.1) := by
 unfold ins
 refine List.ext_getElem? fun i => ?_
 rw [List.getElem?_map, List.getElem?_map, List.getElem?_modify]
 cases n[i]? with
 | none => rfl
 | some r => by_cases h : c.1 = i <;> simp [h]
theorem row_ins (n : Net) (c : End) (z : Str) (i : Nat) (hc : c.1 < n.length) : row (ins n c z) i = if c.1 = i then (row n i).take c.2 ++ z :: (row n i).drop c.2 else row n i := by
 unfold row ins
 rw [List.getElem?_modify]
 by_cases h : c.1 = i
 ·subst h
  rw [List.getElem?_eq_getElem hc]
  simp
 ·rw [if_neg h]
  cases n[i]? with
  | none => simp [h]
  | some r => simp [h]
theorem ties_ins : ∀ (n : Net) (c : End) (z : Str), c.1 < n.length → (ties (ins n c z)).Perm (z :: ties n)
 | [], c, z, h => by simp at h
 | a :: n, (0, p), z, h => by
  unfold ins ties
  simp only [List.modify_zero_cons, List.flatMap_cons]
  have : (a.2.take p ++ z :: a.2.drop p).Perm (z :: a.2) := by
   refine List.perm_middle.trans ?_
   rw [List.take_append_drop]
  exact this.append_right _
 | a :: n, (i + 1, p), z, h => by
  have ih := ties_ins n (i, p) z (by simpa using h)
  unfold ins ties at ih ⊢
  simp only [List.modify_succ_cons, List.flatMap_cons]
  refine (ih.append_left a.2).trans ?_
  exact List.perm_middle
theorem full_ins {n : Net} {c : End} {z : Str} (F : Full n) (hc : c.1 < n.length) : n.length = 1 ∨ (∀ i, i < n.length → row n i ≠ []) → (∀ i, i < (ins n c z).length → row (ins n c z) i ≠ []) ∧ ins n c z ≠ [] := by
 intro h
 have hl := ins_len n c z
 refine ⟨fun i hi => ?_, fun e => ?_⟩
 ·rw [row_ins n c z i hc]
  by_cases q : c.1 = i
  ·rw [if_pos q]; simp
  ·rw [if_neg q]
   rcases h with h | h
   ·rw [hl] at hi
    omega
   ·exact h i (by omega)
 ·rw [e] at hl
  simp at hl
  omega
theorem Full.some {n : Net} (F : Full n) : n ≠ [] := by
 rcases F with ⟨nm, rfl⟩ | h
 ·simp
 ·exact h.1
theorem Full.either {n : Net} (F : Full n) : n.length = 1 ∨ (∀ i, i < n.length → row n i ≠ []) := by
 rcases F with ⟨nm, rfl⟩ | h
 ·exact .inl rfl
 ·exact .inr h.2
theorem Full.corner {n : Net} (F : Full n) (h0 : row n 0 ≠ []) {c : End} (hc : Corner n c) : c ∈ ends n := by
 rcases F with ⟨nm, rfl⟩ | h
 ·exact absurd rfl h0
 ·have := h.2 c.1 hc.1
  have hp : 0 < (row n c.1).length := List.length_pos_iff.mpr this
  have hlt : c.2 < (row n c.1).length := by
   have := hc.2
   omega
  exact mem_ends.mpr (end_of hlt)
theorem corner_of {n : Net} {e : End} (h : e ∈ ends n) : Corner n e := by
 obtain ⟨z, h⟩ := mem_ends.mp h
 have := end_lt h
 exact ⟨row_lt h, by omega⟩
noncomputable def Keep (H H' : Hp) (bad : List Addr) : Prop := ∀ b o, H b = some o → b ∉ bad → H' b = some o
theorem ls_ins (zs : List Str) (i : Nat) (z : Str) : insertAt (zs.map V.str) i (.str z) = (zs.take i ++ z :: zs.drop i).map V.str := by
 unfold insertAt
 rw [List.map_append, List.map_cons, List.map_take, List.map_drop]
theorem RowsAt.ins {H : Hp} {R : Addr} {as : List (Addr × Addr)} {n : Net} (h : RowsAt H R as n) {c : End} {z : Str} {a : Addr × Addr} (ha : as[c.1]? = some a) (hc : c.1 < n.length) :
  RowsAt (upd H a.2 (Ls ((row n c.1).take c.2 ++ z :: (row n c.1).drop c.2))) R as (Nt.ins n c z) := by
 have q0 := h.tup c.1 a n[c.1] ha (List.getElem?_eq_getElem hc)
 have hRa : R ≠ a.2 := by
  intro e
  have h1 := h.lst
  rw [e, q0.2] at h1
  have h2 := HO.lst.inj (Option.some.inj h1)
  have h3 := congrArg List.length h2
  cases hm : n[c.1].2 with
  | nil =>
   rw [hm] at h2
   have : as.map (fun a => V.ref a.1) = [] := h2.symm
   have hl := congrArg List.length this
   rw [List.length_map, h.len] at hl
   rw [hl] at hc
   exact absurd hc (Nat.not_lt_zero _)
  | cons y r =>
   rw [hm] at h2
   cases as with
   | nil => simp at h2
   | cons b bs =>
    simp at h2
 have er : row n c.1 = n[c.1].2 := by unfold row; rw [List.getElem?_eq_getElem hc]; rfl
 refine ⟨by rw [ins_len]; exact h.len, by rw [upd_ne hRa]; exact h.lst, fun i b r hb hr => ?_, h.inj⟩
 unfold Nt.ins at hr
 rw [List.getElem?_modify] at hr
 cases hn : n[i]? with
 | none => rw [hn] at hr; by_cases q : c.1 = i <;> simp [q] at hr
 | some r0 =>
  rw [hn] at hr
  have q1 := h.tup i b r0 hb hn
  have t1 : b.1 ≠ a.2 := ne_of q1.1 q0.2 fun e => nomatch e
  by_cases q : c.1 = i
  ·subst q
   rw [List.getElem?_eq_getElem hc] at hn
   cases hn
   rw [ha] at hb
   cases hb
   simp at hr
   subst hr
   refine ⟨by rw [upd_ne t1]; exact q1.1, ?_⟩
   rw [upd_same, er]
  ·simp [q] at hr
   subst hr
   have t2 : b.2 ≠ a.2 := fun e => by
    have l1 : i < as.length := (List.getElem?_eq_some_iff.mp hb).1
    have l2 : c.1 < as.length := (List.getElem?_eq_some_iff.mp ha).1
    have x1 : (as.map (·.2))[i]? = some b.2 := by rw [List.getElem?_map, hb]; rfl
    have x2 : (as.map (·.2))[c.1]? = some a.2 := by rw [List.getElem?_map, ha]; rfl
    obtain ⟨y1, z1⟩ := List.getElem?_eq_some_iff.mp x1
    obtain ⟨y2, z2⟩ := List.getElem?_eq_some_iff.mp x2
    exact q ((List.getElem_inj (h₀ := y2) (h₁ := y1) h.inj).mp (z2.trans (e.symm.trans z1.symm)))
   exact ⟨by rw [upd_ne t1]; exact q1.1, by rw [upd_ne t2]; exact q1.2⟩
theorem RowsAt.more {H : Hp} {R t l : Addr} {as : List (Addr × Addr)} {n : Net} {pt : Str} {zs : List Str} (h : RowsAt H R as n) (ht : H t = some (.tup [.str pt, .ref l])) (hl : H l = some (Ls zs)) (hn : l ∉ as.map (·.2)) (hR : l ≠ R) :
  RowsAt (upd H R (.lst (as.map (fun a => V.ref a.1) ++ [.ref t]))) R (as ++ [(t, l)]) (n ++ [(pt, zs)]) := by
 have hal := h.len
 refine ⟨by rw [List.length_append, List.length_append, hal]; rfl, by rw [upd_same, List.map_append]; rfl, fun i b r hb hr => ?_, ?_⟩
 ·rcases Nat.lt_or_ge i as.length with c | c
  ·rw [List.getElem?_append_left c] at hb
   rw [List.getElem?_append_left (by omega)] at hr
   have q := h.tup i b r hb hr
   have t1 : b.1 ≠ R := ne_of q.1 h.lst fun e => nomatch e
   have t2 : b.2 ≠ R := by
    intro e
    have h1 := h.lst
    rw [← e, q.2] at h1
    have h2 := HO.lst.inj (Option.some.inj h1)
    cases as with
    | nil => simp at c
    | cons b' bs =>
     cases hm : r.2 with
     | nil => rw [hm] at h2; simp at h2
     | cons y r => rw [hm] at h2; simp at h2
   exact ⟨by rw [upd_ne t1]; exact q.1, by rw [upd_ne t2]; exact q.2⟩
  ·have e : i = as.length := by
    have := (List.getElem?_eq_some_iff.mp hb).1
    rw [List.length_append] at this
    simp at this
    omega
   subst e
   rw [List.getElem?_append_right (Nat.le_refl _)] at hb
   rw [hal, List.getElem?_append_right (Nat.le_refl _)] at hr
   simp at hb hr
   subst hb hr
   have t1 : t ≠ R := ne_of ht h.lst fun e => nomatch e
   exact ⟨by rw [upd_ne t1]; exact ht, by rw [upd_ne hR]; exact hl⟩
 ·rw [List.map_append, List.nodup_append]
  exact ⟨h.inj, by simp, fun x hx y hy e => by simp at hy; subst hy e; exact hn hx⟩
theorem RowsAt.lists {H : Hp} {R : Addr} {as : List (Addr × Addr)} {n : Net} (h : RowsAt H R as n) {x : Addr × Addr} (hx : x ∈ as) : ∃ zs, H x.2 = some (Ls zs) := by
 obtain ⟨i, hi, e⟩ := List.mem_iff_getElem.mp hx
 have hl := h.len
 exact ⟨_, (h.tup i x (n[i]'(by omega)) (by rw [← e]; exact List.getElem?_eq_getElem hi) (List.getElem?_eq_getElem (by omega))).2⟩
theorem RowsAt.fresh {H : Hp} {R l : Addr} {as : List (Addr × Addr)} {n : Net} (h : RowsAt H R as n) (hl : H l = none) {x : Addr × Addr} (hx : x ∈ as) : l ≠ x.2 := by
 obtain ⟨zs, e⟩ := h.lists hx
 exact (ne_of_none e hl).symm
theorem ends_len (n : Net) : (ends n).length = (ties n).length := by
 unfold ends seats
 rw [List.length_map, ← seats_names n 0, List.length_map]
theorem IsFace.ends {n : Net} (T : Twice n) {e : End} {fs : List End} (h : IsFace n e fs) (he : e ∈ ends n) : ∀ c ∈ fs, c ∈ Nt.ends n := by
 intro c hc
 obtain ⟨i, hi, e2⟩ := List.mem_iff_getElem.mp hc
 have := h.at' i hi
 rw [List.getElem?_eq_getElem hi, e2] at this
 rw [Option.some.inj this]
 exact it_mem (fun a ha => step_end T ha) he i
theorem corner_ins {n : Net} {c k : End} {z : Str} (hc : Corner n c) (hk : k.1 < n.length) : Corner (ins n k z) c := by
 refine ⟨by rw [ins_len]; exact hc.1, ?_⟩
 rw [row_ins n k z c.1 hk]
 have := hc.2
 split
 ·rw [List.length_append, List.length_cons, List.length_take, List.length_drop]
  omega
 ·exact this
end Nt
namespace P3
open PySem L2 Nt Sort2
noncomputable def spPut : Sp := fun vs H Q _ => ∃ (R : Addr) (as : List (Addr × Addr)) (n : Net) (b : Int) (z pt : Str), vs = [.ref R, .int b, .str z, .str pt] ∧ RowsAt H R as n ∧ Twice n ∧ Full n ∧ z ∉ ties n ∧ n.length ≤ 100 ∧ (ties n).length ≤ 100 ∧
 ∀ i as' n' H', RowsAt H' R as' n' → Keep H H' (R :: as.map (·.2)) → (∀ a ∈ as', a ∈ as ∨ H a.2 = none) → (ties n').Perm (z :: z :: ties n) → (n'.map (·.1) = n.map (·.1) ∨ n'.map (·.1) = n.map (·.1) ++ [pt]) → Full n' → Q (.int i) H'
section
variable {P : Program} {w : World} {K : PySem.W.Frag} {mg : Str → Option Value} {base : Heap}
noncomputable abbrev NP : List Str := ["_law_rows", "_law_big_here", "_law_tie", "_law_point", "_law_corners", "_law_r", "_law_place", "_law_one", "_law_kind", "_law_face_here", "_law_other_here", "_law_spot"]
theorem scPut : FnScope NP ["_law_rows", "_law_big_here", "_law_tie", "_law_point"] (defScope sPut) := ⟨rfl, rfl, rfl, by decide +kernel, rfl, by decide +kernel, by decide +kernel⟩
theorem at_refs {ts : List Addr} {j : Nat} {t : Addr} (h : ts[j]? = some t) : atI (ts.map V.ref) (j : Int) = some (.ref t) := atI_nat (by rw [List.getElem?_map, h]; rfl)
theorem ok_put {f : Addr} {fd : FuncData} (F : Fun K "_law_put" "_law_put" sPut f fd) (T : Txt mg)
  (GS : Has P w K mg base 3 "_law_seats" ["_law_rows"] spSeats)
  (GF : Has P w K mg base 3 "_law_face" ["_law_rows", "_law_seats_here", "_law_end"] spFace) :
  FnOk P w K mg base CX0 4 f fd ["_law_rows", "_law_big_here", "_law_tie", "_law_point"] spPut := by
 refine F.gb scPut (fun vs H Q E h => ?_) (fun b0 H vs Q E hr h => ?_)
 ·obtain ⟨R, as, n, b, z, pt, rfl, _⟩ := h
  rfl
 obtain ⟨R, as, n, b, z, pt, rfl, hR, hT, hF, hz, hn, htn, q⟩ := h
 have nd := scPut.nd
 have hu := hr.u100
 have hal := hR.len
 show Run _ _ _ [some (.ref R), some (.int b), some (.str z), some (.str pt), none, none, none, none, none, none, none, none] H
 refine run_set 4 nd (ev_lst (ea_nil ⟨(by show 0 ≤ sizeLine; decide), fun lc hlc => ?_⟩))
 have g0 := same_new hlc (.lst [])
 refine run_forR1 T.range (ev_blt call_len_seq T.len boot_len (ea_cons (ev_v 0 (ea_nil ⟨R, _, rfl, .inl (SqL.of (g0 _ _ hR.lst)), _, rfl, by omega, by rw [List.length_map]; omega, ?_⟩))))
 rw [List.length_map, hal, Int.toNat_natCast]
 refine loop_range (fun r σ H3 => ∃ (ts : List Addr) (cs : List Nt.End) (u1 u2 : Option V), Same H H3 ∧ H3 lc = some (.lst (ts.map V.ref)) ∧ Pd H3 ts cs ∧ (∀ c ∈ cs, Corner n c) ∧ (0 < r → cs ≠ []) ∧ cs.length ≤ 101 * r ∧ σ = [some (.ref R), some (.int b), some (.str z), some (.str pt), some (.ref lc), u1, u2, none, none, none, none, none]) ⟨[], [], _, _, g0, upd_same, .nil, fun c hc => (nomatch hc), fun h => absurd h (by decide), Nat.le_refl _, rfl⟩ ?_ ?_
 ·rintro r σ H3 hi ⟨ts, cs, u1, u2, sH, el, ep, hc, hne, hlen, rfl⟩
  rw [Int.zero_add]
  refine eg_name 5 nd ?_
  obtain ⟨a, ea, eat, et, ell, er⟩ := (hR.same sH).at hi
  have hrl := row_le n r
  refine run_forR1 T.range (ev_blt (call_max2 rfl) T.max PyProof.Rows.boot_max (ea_cons (ev_int (ea_cons (ev_blt call_len_seq T.len boot_len (ea_cons (ev_ix ix_tup (ev_ix ix_list (ev_v 0 (ev_v 5 ⟨R, _, _, .ref a.1, rfl, rfl, SqL.of (sH _ _ hR.lst), eat, ev_int ⟨a.1, _, _, .ref a.2, rfl, rfl, SqT.of et, rfl, ea_nil ⟨a.2, _, rfl, .inl (SqL.of ell), ?_⟩⟩⟩))))))))))
  rw [List.length_map]
  have em : (if ((row n r).length : Int) > 1 then ((row n r).length : Int) else 1) = ((max 1 (row n r).length : Nat) : Int) := by
   split <;> omega
  refine ea_nil ⟨1, _, rfl, ((max 1 (row n r).length : Nat) : Int), by rw [em], by omega, by omega, ?_⟩
  rw [Int.toNat_natCast]
  refine loop_range (fun p σ H4 => ∃ (ts : List Addr) (cs : List Nt.End) (u2 : Option V), Same H H4 ∧ H4 lc = some (.lst (ts.map V.ref)) ∧ Pd H4 ts cs ∧ (∀ c ∈ cs, Corner n c) ∧ (0 < r + p → cs ≠ []) ∧ cs.length ≤ 101 * r + p ∧ σ = [some (.ref R), some (.int b), some (.str z), some (.str pt), some (.ref lc), some (.int (r : Int)), u2, none, none, none, none, none]) ⟨ts, cs, _, sH, el, ep, hc, hne, hlen, rfl⟩ ?_ ?_
  ·rintro p σ H4 hp ⟨ts, cs, u2, sH, el, ep, hc, hne, hlen, rfl⟩
   rw [Int.zero_add]
   refine eg_name 6 nd ?_
   refine run_expr (ev_append (ev_v 4 ⟨lc, rfl, ⟨_, el⟩, ev_tup (ea_cons (ev_v 5 (ea_cons (ev_v 6 (ea_nil ⟨(by show 2 ≤ sizeLine; decide), fun t ht => ?_⟩)))))⟩))
   have htl : lc ≠ t := ne_of_none el ht
   have s2 := same_new ht (Tp (r, p))
   have epl := ep.length
   refine ⟨ts.map V.ref, by rw [upd_ne htl]; exact el, by rw [List.length_map]; exact small' (by omega), ?_⟩
   refine run_nil ⟨ts ++ [t], cs ++ [(r, p)], _, same_mut (sH.trans s2) hlc, by rw [upd_same, List.map_append]; rfl, ?_, fun c h => ?_, fun _ => by simp, by rw [List.length_append]; simp; omega, rfl⟩
   ·refine Pd.append (ep.keep fun x e h => ?_) (.cons ?_ .nil)
    ·rw [upd_ne (tp_ne_lst h el)]
     exact s2 _ _ h
    ·rw [upd_ne htl.symm, upd_same]
   ·rcases List.mem_append.mp h with h | h
    ·exact hc c h
    ·rw [List.mem_singleton] at h
     subst h
     exact ⟨hi, hp⟩
  ·rintro σ H4 ⟨ts, cs, u2, sH, el, ep, hc, hne, hlen, rfl⟩
   refine run_nil ⟨ts, cs, _, _, sH, el, ep, hc, fun _ => hne (by omega), by omega, rfl⟩
 rintro σ H3 ⟨ts, cs, u1, u2, sH, el, ep, hc, hne, hlen, rfl⟩
 have hn0 : 0 < n.length := List.length_pos_iff.mpr hF.some
 have cne := hne hn0
 have cpos : 0 < cs.length := List.length_pos_iff.mpr cne
 have epl := ep.length
 have m0 : 0 ≤ b % (cs.length : Int) := Int.emod_nonneg _ (by omega)
 have m1 : b % (cs.length : Int) < cs.length := Int.emod_lt_of_pos _ (by omega)
 obtain ⟨j, hj⟩ : ∃ j : Nat, b % (cs.length : Int) = j := ⟨(b % (cs.length : Int)).toNat, by omega⟩
 have hjl : j < cs.length := by omega
 have hce : cs[j]? = some cs[j] := List.getElem?_eq_getElem hjl
 obtain ⟨t1, et1, e1⟩ := ep.at hce
 have hcc : Corner n cs[j] := hc _ (List.getElem_mem hjl)
 generalize cs[j] = c1 at e1 hcc
 refine run_set 7 nd (ev_ix ix_list (ev_v 4 (ev_op op_mod (ev_v 1 (ev_blt call_len_seq T.len boot_len (ea_cons (ev_v 4 (ea_nil ⟨lc, _, rfl, .inl (SqL.of el), ?_⟩))))))))
 rw [List.length_map, epl]
 refine ⟨_, _, rfl, rfl, by omega, lc, _, _, .ref t1, rfl, rfl, SqL.of el, by rw [hj]; exact at_refs et1, ?_⟩
 refine run_set 1 nd (ev_op op_fdiv (ev_v 1 (ev_blt call_len_seq T.len boot_len (ea_cons (ev_v 4 (ea_nil ⟨lc, _, rfl, .inl (SqL.of el), ?_⟩))))))
 rw [List.length_map, epl]
 refine ⟨_, _, rfl, rfl, ⟨by omega, by omega⟩, ?_⟩
 show Run _ _ _ [some (.ref R), some (.int (b / (cs.length : Int))), some (.str z), some (.str pt), some (.ref lc), u1, u2, some (.ref t1), none, none, none, none] H3
 generalize b / (cs.length : Int) = b2
 refine run_set 8 nd (ev_op op_mod (ev_v 1 (ev_int ⟨_, _, rfl, rfl, (by show (0 : Int) < 3; decide), ?_⟩)))
 refine run_set 1 nd (ev_op op_fdiv (ev_v 1 (ev_int ⟨_, _, rfl, rfl, ⟨by decide, by decide⟩, ?_⟩)))
 show Run _ _ _ [some (.ref R), some (.int (b2 / 3)), some (.str z), some (.str pt), some (.ref lc), u1, u2, some (.ref t1), some (.int (b2 % 3)), none, none, none] H3
 generalize b2 / 3 = b3
 have hR3 := hR.same sH
 obtain ⟨a, ea, eat, eta, ela, era⟩ := hR3.at hcc.1
 have insOk : ∀ (m : Net), (ties m).length ≤ 200 → ∀ i, (row m i).length ≤ 200 := fun m h i => Nat.le_trans (row_le m i) h
 have cin : c1.2 ≤ (row n c1.1).length := by
  have := hcc.2
  omega
 refine run_if (et_cmp op_eq (ev_v 8 (ev_int ⟨rfl, _, rfl, ?_⟩)))
 refine ite2 (fun _ => ?_) (fun _ => run_nil ?_)
 ·
  have rl := row_le n c1.1
  refine run_expr (ev_m2 PySem.F.plainAttrs_list PySem.F.slot_list_insert PySem.F.type_list_insert mt_insert (ev_ix ix_tup (ev_ix ix_list (ev_v 0 (ev_ix ix_tup (ev_v 7 (ev_int ⟨t1, _, _, .int (c1.1 : Int), rfl, rfl, SqT.of e1, rfl, R, _, _, .ref a.1, rfl, rfl, SqL.of hR3.lst, eat, ev_int ⟨a.1, _, _, .ref a.2, rfl, rfl, SqT.of eta, rfl, Or.inl ⟨rfl, _, SqL.of ela⟩, ?_⟩⟩)))))))
  refine ev_ix ix_tup (ev_v 7 (ev_int ⟨t1, _, _, .int (c1.2 : Int), rfl, rfl, SqT.of e1, rfl, ev_v 2 ⟨a.2, _, _, _, rfl, rfl, ela, by omega, by rw [Int.toNat_natCast, List.length_map]; exact cin, by rw [List.length_map]; exact small' (by omega), ?_⟩⟩))
  rw [Int.toNat_natCast, ls_ins]
  have R4 := hR3.ins (z := z) ea hcc.1
  refine run_expr (ev_append (ev_v 0 ⟨R, rfl, ⟨_, R4.lst⟩, ev_tup (ea_cons (ev_v 3 (ea_cons (ev_lst (ea_cons (ev_v 2 (ea_nil ⟨(by show 1 ≤ sizeLine; decide), fun l1 hl1 => ?_⟩)))))))⟩))
  refine ea_nil ⟨(by show 2 ≤ sizeLine; decide), fun t2 ht2 => ?_⟩
  have s5 := same_new hl1 (Ls [z])
  have s6 := same_new ht2 (.tup [.str pt, .ref l1])
  have R6 := (R4.same s5).same s6
  refine ⟨_, R6.lst, by rw [List.length_map]; exact small' (by omega), ?_⟩
  have l1f : H3 l1 = none := by
   by_cases q1 : l1 = a.2
   ·rw [q1, upd_same] at hl1; cases hl1
   ·rwa [upd_ne q1] at hl1
  have l1n : l1 ∉ as.map (·.2) := fun hm => by
   obtain ⟨x, hx, e⟩ := List.mem_map.mp hm
   exact R4.fresh hl1 hx e.symm
  have l1R : l1 ≠ R := fun e => by rw [e, R4.lst] at hl1; cases hl1
  have R7 := R6.more (t := t2) (l := l1) (pt := pt) (zs := [z]) upd_same (s6 _ _ upd_same) l1n l1R
  refine run_ret (ev_v 1 (q _ _ _ _ R7 (fun x o hx hbad => ?_) (fun x hx => ?_) ?_ (.inr ?_) ?_))
  ·have x1 : x ≠ R := fun e => hbad (by rw [e]; exact List.mem_cons_self)
   have x2 : x ≠ a.2 := fun e => hbad (List.mem_cons_of_mem _ (by rw [e]; exact List.mem_map.mpr ⟨a, List.mem_of_getElem? ea, rfl⟩))
   rw [upd_ne x1]
   refine s6 _ _ (s5 _ _ ?_)
   rw [upd_ne x2]
   exact sH _ _ hx
  ·rcases List.mem_append.mp hx with hx | hx
   ·exact .inl hx
   ·rw [List.mem_singleton] at hx
    subst hx
    exact .inr (sH.free l1f)
  ·unfold ties
   rw [List.flatMap_append]
   show (ties (ins n c1 z) ++ [z]).Perm _
   refine (List.perm_append_comm).trans ?_
   exact (ties_ins n c1 z hcc.1).cons z
  ·rw [List.map_append, ins_names]
   rfl
  ·refine .inr ⟨by simp, fun i hi => ?_⟩
   have hfi := (full_ins (z := z) hF hcc.1 hF.either).1
   rw [List.length_append] at hi
   simp at hi
   rcases Nat.lt_or_ge i (ins n c1 z).length with h | h
   ·have := hfi i h
    unfold row at this ⊢
    rw [List.getElem?_append_left h]
    exact this
   ·unfold row
    rw [List.getElem?_append_right h, show i - (ins n c1 z).length = 0 by omega]
    simp
 ·
  refine run_set 9 nd (ev_lst (ea_cons (ev_v 7 (ea_nil ⟨(by show 1 ≤ sizeLine; decide), fun lf hlf => ?_⟩))))
  have s4 := same_new hlf (.lst [.ref t1])
  have sH4 := sH.trans s4
  have hR4 := hR3.same s4
  obtain ⟨a0, ea0, eat0, et0, el0, er0⟩ := hR4.at hn0
  have lf0 : ∀ x ∈ as, lf ≠ x.2 := fun x hx => hR3.fresh hlf hx
  show Run _ _ _ [some (.ref R), some (.int b3), some (.str z), some (.str pt), some (.ref lc), u1, u2, some (.ref t1), some (.int (b2 % 3)), some (.ref lf), none, none] (upd H3 lf (.lst [.ref t1]))
  refine run_ifH (fun k H' => Same (upd H3 lf (.lst [.ref t1])) H' ∧ (k = true → row n 0 ≠ [])) (fun σ' H' => ∃ (lf : Addr) (ts2 : List Addr) (fs : List Nt.End), Same H3 H' ∧ (∀ x ∈ as, lf ≠ x.2) ∧ H' lf = some (.lst (ts2.map V.ref)) ∧ Pd H' ts2 fs ∧ 0 < fs.length ∧ fs.length ≤ 1000 ∧ (∀ c ∈ fs, Corner n c) ∧
   σ' = [some (.ref R), some (.int b3), some (.str z), some (.str pt), some (.ref lc), u1, u2, some (.ref t1), some (.int (b2 % 3)), some (.ref lf), none, none]) ?_ ?_ (fun H5 ⟨s5, _⟩ => run_nil ⟨lf, [t1], [c1], s4.trans s5, lf0, s5 _ _ upd_same, .cons (s5 _ _ (s4 _ _ e1)) .nil, Nat.one_pos, by show 1 ≤ 1000; decide, fun c hcm => by rw [List.mem_singleton] at hcm; rw [hcm]; exact hcc, rfl⟩) ?_
  ·refine et_cmp (op_neD hu) (ev_ix ix_tup (ev_ix ix_list (ev_v 0 (ev_int ⟨R, _, _, .ref a0.1, rfl, rfl, SqL.of hR4.lst, eat0, ev_int ⟨a0.1, _, _, .ref a0.2, rfl, rfl, SqT.of et0, rfl, ev_lst (ea_nil ⟨(by show 0 ≤ sizeLine; decide), fun p hp => ?_⟩)⟩⟩))))
   have s5 := same_new hp (.lst [])
   by_cases h0 : row n 0 = []
   ·refine ⟨1, _, by decide, rnD_list (k := 0) (xs := []) (ys := []) (fun _ => true) (SqL.of (by rw [s5 _ _ el0, h0]; rfl)) (SqL.of upd_same) rfl (fun j x y hx _ => by simp at hx), _, rfl, s5, fun h => by cases h⟩
   ·refine ⟨1, _, by decide, rnD_lens (k := 1) (SqL.of (s5 _ _ el0)) (SqL.of (xs := []) upd_same) (by rw [List.length_map]; intro h; exact h0 (List.length_eq_zero_iff.mp h)), _, rfl, s5, fun _ => h0⟩
  ·rintro H4 ⟨s45, h0⟩
   have h0 := h0 rfl
   have hR4 := hR4.same s45
   have he1 := hF.corner h0 hcc
   have hel := ends_len n
   refine run_set 9 nd (ev_has GF hr (ea_cons (ev_v 0 (ea_cons (ev_has GS hr (ea_cons (ev_v 0 (ea_nil ⟨R, as, n, rfl, hR4, by omega, by omega, fun d ks H5 s5 n5 S5 => ?_⟩))))))))
   refine ea_cons (ev_v 7 (ea_nil ⟨R, d, t1, as, n, ks, c1, rfl, hR4.same s5, S5, hT, s5 _ _ (s45 _ _ (s4 _ _ e1)), he1, by omega, fun l6 ts6 fs6 H6 s6 n6 e6 p6 f6 => ?_⟩))
   exact run_nil ⟨l6, ts6, fs6, s4.trans (s45.trans (s5.trans s6)), fun x hx => (hR4.same s5).fresh n6 hx, e6, p6, f6.pos, by have := f6.len; omega, fun c hcm => corner_of (f6.ends hT he1 c hcm), rfl⟩
  ·rintro σ' H5 ⟨lf, ts2, fs, s5, lfn, elf, epf, fpos, flen, fcor, rfl⟩
   have epl2 := epf.length
   have n0 : 0 ≤ b3 % (fs.length : Int) := Int.emod_nonneg _ (by omega)
   have n1 : b3 % (fs.length : Int) < fs.length := Int.emod_lt_of_pos _ (by omega)
   obtain ⟨j2, hj2⟩ : ∃ j : Nat, b3 % (fs.length : Int) = j := ⟨(b3 % (fs.length : Int)).toNat, by omega⟩
   have hjl2 : j2 < fs.length := by omega
   have hce2 : fs[j2]? = some fs[j2] := List.getElem?_eq_getElem hjl2
   obtain ⟨t2, et2, e2⟩ := epf.at hce2
   have hcc2 : Corner n fs[j2] := fcor _ (List.getElem_mem hjl2)
   generalize fs[j2] = c2 at e2 hcc2
   have e1' := s5 _ _ e1
   refine run_set 10 nd (ev_ix ix_list (ev_v 9 (ev_op op_mod (ev_v 1 (ev_blt call_len_seq T.len boot_len (ea_cons (ev_v 9 (ea_nil ⟨lf, _, rfl, .inl (SqL.of elf), ?_⟩))))))))
   rw [List.length_map, epl2]
   refine ⟨_, _, rfl, rfl, by omega, lf, _, _, .ref t2, rfl, rfl, SqL.of elf, by rw [hj2]; exact at_refs et2, ?_⟩
   have hR5 := hR3.same s5
   show Run _ _ _ [some (.ref R), some (.int b3), some (.str z), some (.str pt), some (.ref lc), u1, u2, some (.ref t1), some (.int (b2 % 3)), some (.ref lf), some (.ref t2), none] H5
   refine run_forL (ev_sorted2 T.sorted (ev_lst (ea_cons (ev_v 7 (ea_cons (ev_v 10 (ea_nil ⟨(by show 2 ≤ sizeLine; decide), fun l2 hl2 => ?_⟩)))))))
   have s6 := same_new hl2 (.lst [.ref t1, .ref t2])
   refine ⟨l2, t1, t2, (c1.1 : Int), (c1.2 : Int), (c2.1 : Int), (c2.2 : Int), rfl, upd_same, s6 _ _ e1', s6 _ _ e2, fun rr hrr => ?_⟩
   have rn : ∀ x ∈ as, rr ≠ x.2 := fun x hx => (hR5.same s6).fresh hrr hx
   obtain ⟨x1, x2, k1, k2, hxs, f1, f2, q1, q2⟩ : ∃ x1 x2 k1 k2, (if lexLt ((c1.1 : Int), (c1.2 : Int)) ((c2.1 : Int), (c2.2 : Int)) = true then [V.ref t2, .ref t1] else [.ref t1, .ref t2]) = [.ref x1, .ref x2] ∧ (upd H5 l2 (.lst [.ref t1, .ref t2])) x1 = some (Tp k1) ∧ (upd H5 l2 (.lst [.ref t1, .ref t2])) x2 = some (Tp k2) ∧ Corner n k1 ∧ Corner n k2 := by
    cases lexLt ((c1.1 : Int), (c1.2 : Int)) ((c2.1 : Int), (c2.2 : Int)) with
    | true => exact ⟨t2, t1, c2, c1, rfl, s6 _ _ e2, s6 _ _ e1', hcc2, hcc⟩
    | false => exact ⟨t1, t2, c1, c2, rfl, s6 _ _ e1', s6 _ _ e2, hcc, hcc2⟩
   rw [hxs]
   have s7 := same_new hrr (.lst [.ref x1, .ref x2])
   have f1 := s7 _ _ f1
   have f2 := s7 _ _ f2
   have s6 := s6.trans s7
   have fr := upd_same (H := upd H5 l2 (.lst [.ref t1, .ref t2])) (a := rr) (o := .lst [.ref x1, .ref x2])
   generalize upd (upd H5 l2 (.lst [.ref t1, .ref t2])) rr (.lst [.ref x1, .ref x2]) = H6 at f1 f2 s6 fr ⊢
   have sH6 : Same H H6 := sH.trans (s5.trans s6)
   have hR6 := hR5.same s6
   have keep0 : Keep H H6 (R :: as.map (·.2)) := fun x o hx _ => sH6 _ _ hx
   refine ⟨rr, rfl, ⟨_, SqL.of fr⟩, loop_list (xs := [.ref x1, .ref x2]) (fun i σ H7 => ∃ (m : Net) (u : Option V), RowsAt H7 R as m ∧ Keep H H7 (R :: as.map (·.2)) ∧ H7 rr = some (.lst [.ref x1, .ref x2]) ∧ H7 lf = some (.lst (ts2.map V.ref)) ∧ H7 x1 = some (Tp k1) ∧ H7 x2 = some (Tp k2) ∧
    ((i = 0 ∧ m = n) ∨ (i = 1 ∧ m = ins n k1 z) ∨ (i = 2 ∧ m = ins (ins n k1 z) k2 z)) ∧ σ = [some (.ref R), some (.int b3), some (.str z), some (.str pt), some (.ref lc), u1, u2, some (.ref t1), some (.int (b2 % 3)), some (.ref lf), some (.ref t2), u]) ⟨n, _, hR6, keep0, fr, s6 _ _ elf, f1, f2, .inl ⟨rfl, rfl⟩, rfl⟩ ?_ ?_ ?_⟩
   ·rintro i σ H7 _ ⟨m, u, _, _, fr7, _⟩
    exact SqL.of fr7
   ·rintro i v σ H7 hv ⟨m, u, hR7, kp7, fr7, fl7, g1, g2, hm, rfl⟩
    have ti1 := (ties_ins n k1 z q1.1).length_eq
    rw [List.length_cons] at ti1
    obtain ⟨y, k, rfl, hy, hk, hnext, hml⟩ : ∃ y k, v = .ref y ∧ H7 y = some (Tp k) ∧ Corner m k ∧ ((i + 1 = 0 ∧ ins m k z = n) ∨ (i + 1 = 1 ∧ ins m k z = ins n k1 z) ∨ (i + 1 = 2 ∧ ins m k z = ins (ins n k1 z) k2 z)) ∧ (ties m).length ≤ 200 := by
     rcases hm with ⟨rfl, rfl⟩ | ⟨rfl, rfl⟩ | ⟨rfl, rfl⟩
     ·cases hv
      exact ⟨x1, k1, rfl, g1, q1, .inr (.inl ⟨rfl, rfl⟩), by omega⟩
     ·cases hv
      exact ⟨x2, k2, rfl, g2, corner_ins q2 q1.1, .inr (.inr ⟨rfl, rfl⟩), by omega⟩
     ·simp at hv
    refine eg_name 11 nd ?_
    obtain ⟨a', ea', eat', eta', ela', era'⟩ := hR7.at hk.1
    have rl := row_le m k.1
    have kin : k.2 ≤ (row m k.1).length := by
     have := hk.2
     omega
    refine run_expr (ev_m2 PySem.F.plainAttrs_list PySem.F.slot_list_insert PySem.F.type_list_insert mt_insert (ev_ix ix_tup (ev_ix ix_list (ev_v 0 (ev_ix ix_tup (ev_v 11 (ev_int ⟨y, _, _, .int (k.1 : Int), rfl, rfl, SqT.of hy, rfl, R, _, _, .ref a'.1, rfl, rfl, SqL.of hR7.lst, eat', ev_int ⟨a'.1, _, _, .ref a'.2, rfl, rfl, SqT.of eta', rfl, Or.inl ⟨rfl, _, SqL.of ela'⟩, ?_⟩⟩)))))))
    refine ev_ix ix_tup (ev_v 11 (ev_int ⟨y, _, _, .int (k.2 : Int), rfl, rfl, SqT.of hy, rfl, ev_v 2 ⟨a'.2, _, _, _, rfl, rfl, ela', by omega, by rw [Int.toNat_natCast, List.length_map]; exact kin, by rw [List.length_map]; exact small' (by omega), ?_⟩⟩))
    rw [Int.toNat_natCast, ls_ins]
    have am : a' ∈ as := List.mem_of_getElem? ea'
    refine run_nil ⟨ins m k z, _, hR7.ins ea' hk.1, fun x o hx hbad => ?_, by rw [upd_ne (rn a' am)]; exact fr7, by rw [upd_ne (lfn a' am)]; exact fl7, by rw [upd_ne (tp_ne_lst g1 ela')]; exact g1, by rw [upd_ne (tp_ne_lst g2 ela')]; exact g2, hnext, rfl⟩
    have x2 : x ≠ a'.2 := fun e => hbad (List.mem_cons_of_mem _ (by rw [e]; exact List.mem_map.mpr ⟨a', am, rfl⟩))
    rw [upd_ne x2]
    exact kp7 x o hx hbad
   ·rintro σ H7 ⟨m, u, hR7, kp7, fr7, fl7, g1, g2, hm, rfl⟩
    have em : m = ins (ins n k1 z) k2 z := by
     rcases hm with ⟨h, _⟩ | ⟨h, _⟩ | ⟨_, h⟩
     ·exact absurd h (by show ¬ (2 = 0); decide)
     ·exact absurd h (by show ¬ (2 = 1); decide)
     ·exact h
    refine run_ret (ev_op op_fdiv (ev_v 1 (ev_blt call_len_seq T.len boot_len (ea_cons (ev_v 9 (ea_nil ⟨lf, _, rfl, .inl (SqL.of fl7), ?_⟩))))))
    rw [List.length_map, epl2]
    refine ⟨_, _, rfl, rfl, ⟨by omega, by omega⟩, ?_⟩
    have fi := full_ins (z := z) hF q1.1 hF.either
    have F2 : Full (ins n k1 z) := .inr ⟨fi.2, fi.1⟩
    have fi2 := full_ins (z := z) F2 (corner_ins (z := z) q2 q1.1).1 F2.either
    subst em
    exact q _ as _ H7 hR7 kp7 (fun x hx => .inl hx) ((ties_ins _ k2 z (corner_ins (z := z) q2 q1.1).1).trans ((ties_ins n k1 z q1.1).cons z)) (.inl (by rw [ins_names, ins_names])) (.inr ⟨fi2.2, fi2.1⟩)
end
end P3
namespace Nt
open PySem L2
noncomputable def dbl (zs : List Str) : List Str := zs.flatMap fun z => [z, z]
theorem dbl_count (y : Str) : ∀ zs : List Str, (dbl zs).count y = 2 * zs.count y
 | [] => rfl
 | z :: r => by
  unfold dbl
  rw [List.flatMap_cons]
  have ih := dbl_count y r
  unfold dbl at ih
  rw [List.count_append, ih, List.count_cons, List.count_cons, List.count_cons, List.count_nil]
  omega
theorem dbl_mem {y : Str} {zs : List Str} : y ∈ dbl zs ↔ y ∈ zs := by
 rw [← List.count_pos_iff, dbl_count, ← List.count_pos_iff]
 omega
theorem dbl_len : ∀ zs : List Str, (dbl zs).length = 2 * zs.length
 | [] => rfl
 | z :: r => by
  unfold dbl
  rw [List.flatMap_cons, List.length_append]
  have ih := dbl_len r
  unfold dbl at ih
  rw [ih, List.length_cons]
  simp
  omega
theorem dbl_snoc (zs : List Str) (z : Str) : dbl (zs ++ [z]) = dbl zs ++ [z, z] := by
 unfold dbl
 rw [List.flatMap_append]
 rfl
theorem twice_of {n : Net} {zs : List Str} (hn : zs.Nodup) (p : (ties n).Perm (dbl zs)) : Twice n := fun z hz => by
 rw [p.count_eq, dbl_count]
 have h1 : z ∈ zs := dbl_mem.mp (p.mem_iff.mp hz)
 rw [hn.count, if_pos h1]
noncomputable def NE (n : Net) : Prop := ∀ r ∈ n, r.2 ≠ []
theorem row_eq {n : Net} {i : Nat} (h : i < n.length) : row n i = n[i].2 := by unfold row; rw [List.getElem?_eq_getElem h]; rfl
theorem ne_full {n : Net} (h : NE n) (h0 : n ≠ []) : Full n := .inr ⟨h0, fun i hi => by rw [row_eq hi]; exact h _ (List.getElem_mem hi)⟩
theorem Full.ne {n : Net} (h : Full n) : (∃ nm, n = [(nm, [])]) ∨ NE n := by
 rcases h with h | ⟨_, h⟩
 ·exact .inl h
 ·refine .inr fun r hr => ?_
  obtain ⟨i, hi, rfl⟩ := List.mem_iff_getElem.mp hr
  have := h i hi
  rwa [row_eq hi] at this
theorem ties_erase : ∀ (n : Net) (k : Nat) (h : k < n.length), (ties n).Perm (n[k].2 ++ ties (n.eraseIdx k))
 | [], k, h => by simp at h
 | a :: n, 0, h => by unfold ties; simp
 | a :: n, k + 1, h => by
  have ih := ties_erase n k (by simpa using h)
  unfold ties at ih ⊢
  simp only [List.flatMap_cons, List.getElem_cons_succ, List.eraseIdx_cons_succ]
  refine (ih.append_left a.2).trans ?_
  rw [← List.append_assoc, ← List.append_assoc]
  exact List.perm_append_comm.append_right _
theorem names_erase (n : Net) (k : Nat) (h : k < n.length) : (n.map (·.1)).Perm (n[k].1 :: (n.eraseIdx k).map (·.1)) := by
 have := (SetT.pick_perm n k h).map (·.1)
 exact this.symm
theorem rot_perm (zs : List Str) (i : Nat) : (zs.drop i ++ zs.take i).Perm zs := by
 refine List.perm_append_comm.trans ?_
 rw [List.take_append_drop]
theorem RowsAt.upd {H : Hp} {R x : Addr} {as : List (Addr × Addr)} {n : Net} (h : RowsAt H R as n) {xs : List V} {o : HO} (hx : H x = some (.lst xs)) (hR : R ≠ x) (ha : ∀ a ∈ as, a.2 ≠ x) : RowsAt (upd H x o) R as n := by
 refine ⟨h.len, by rw [upd_ne hR]; exact h.lst, fun i a r h1 h2 => ?_, h.inj⟩
 have q := h.tup i a r h1 h2
 exact ⟨by rw [upd_ne (ne_of q.1 hx fun e => nomatch e)]; exact q.1, by rw [upd_ne (ha a (List.mem_of_getElem? h1))]; exact q.2⟩
theorem erase_at {α : Type} (l : List α) (k i : Nat) : (l.eraseIdx k)[i]? = if i < k then l[i]? else l[i + 1]? := by
 rw [List.getElem?_eraseIdx]
theorem RowsAt.erase {H : Hp} {R : Addr} {as : List (Addr × Addr)} {n : Net} (h : RowsAt H R as n) {k : Nat} (hk : k < n.length) :
  RowsAt (L2.upd H R (.lst ((as.map fun a => V.ref a.1).eraseIdx k))) R (as.eraseIdx k) (n.eraseIdx k) := by
 have hl := h.len
 refine ⟨by rw [List.length_eraseIdx, List.length_eraseIdx, hl], ?_, fun i a r h1 h2 => ?_, ?_⟩
 ·rw [upd_same]
  congr 2
  refine List.ext_getElem? fun i => ?_
  rw [erase_at, List.getElem?_map, List.getElem?_map, List.getElem?_map, erase_at]
  split <;> rfl
 ·rw [erase_at] at h1 h2
  have q : H a.1 = some (.tup [.str r.1, .ref a.2]) ∧ H a.2 = some (Ls r.2) := by
   by_cases c : i < k
   ·rw [if_pos c] at h1 h2
    exact h.tup i a r h1 h2
   ·rw [if_neg c] at h1 h2
    exact h.tup (i + 1) a r h1 h2
  have t2 : a.2 ≠ R := by
   intro e
   have h3 := h.lst
   rw [← e, q.2] at h3
   have h4 := HO.lst.inj (Option.some.inj h3)
   cases as with
   | nil => simp at hl; simp [← hl] at hk
   | cons b bs =>
    cases hm : r.2 with
    | nil => rw [hm] at h4; simp at h4
    | cons y r => rw [hm] at h4; simp at h4
  exact ⟨by rw [upd_ne (ne_of q.1 h.lst fun e => nomatch e)]; exact q.1, by rw [upd_ne t2]; exact q.2⟩
 ·have : ((as.eraseIdx k).map (·.2)).Sublist (as.map (·.2)) := (List.eraseIdx_sublist as k).map _
  exact h.inj.sublist this
theorem cut_from (zs : List Str) (i : Nat) : cutV (zs.map V.str) (some (i : Int)) none = (zs.drop i).map V.str := by
 unfold cutV
 rw [HT.sIx_nat, HT.sIx_none, List.length_map]
 rw [List.take_of_length_le (by rw [List.length_drop, List.length_map]; omega), List.map_drop]
 rcases Nat.le_total i zs.length with h | h
 ·rw [Nat.min_eq_left h]
 ·rw [Nat.min_eq_right h, List.drop_of_length_le (by simp), List.drop_of_length_le (by simpa using h)]
theorem cut_to (zs : List Str) (i : Nat) : cutV (zs.map V.str) none (some (i : Int)) = (zs.take i).map V.str := by
 unfold cutV
 rw [HT.sIx_nat, HT.sIx_none, List.length_map, List.drop_zero, Nat.sub_zero, List.map_take]
 rcases Nat.le_total i zs.length with h | h
 ·rw [Nat.min_eq_left h]
 ·rw [Nat.min_eq_right h, List.take_of_length_le (by simp), List.take_of_length_le (by simpa using h)]
end Nt
namespace P3
open PySem L2 Nt Sort2
noncomputable def spNet : Sp := fun vs H Q _ => ∃ (b m sm : Int), vs = [.int b, .int m, .int sm] ∧ 0 ≤ m ∧ m ≤ 35 ∧
 ∀ L as n H', Same H H' → H L = none → RowsAt H' L as n → Twice n → (n.map (·.1)).Nodup → Full n → (ties n).length ≤ 2 * m.toNat → n.length ≤ m.toNat + 1 → (∀ a ∈ as, H a.2 = none) → Q (.ref L) H'
section
variable {P : Program} {w : World} {K : PySem.W.Frag} {mg : Str → Option Value} {base : Heap}
noncomputable abbrev NB : List Str := ["_law_big_here", "_law_most", "_law_stem", "_law_many", "_law_ties", "_law_points", "_law_rows", "_law_k", "_law_told_here", "_law_row", "_law_size"]
theorem scNet : FnScope NB ["_law_big_here", "_law_most", "_law_stem"] (defScope sNet) := ⟨rfl, rfl, rfl, by decide +kernel, rfl, by decide +kernel, by decide +kernel⟩
theorem ty_lst {H : Hp} {d : Addr} {xs : List V} (h : H d = some (.lst xs)) : tyV K "list" (.ref d) H := Or.inl ⟨rfl, xs, SqL.of h⟩
theorem at_name {b : Int} {m i : Nat} (h : i < m) : atI ((namesOf b m).map V.str) (i : Int) = some (.str (nameOf b i)) := at_strs (namesOf_at h)
theorem ok_net {f : Addr} {fd : FuncData} (F : Fun K "_law_net_by" "_law_net_by" sNet f fd) (T : Txt mg)
  (GN : Has P w K mg base 4 "_law_names" ["_law_stem", "_law_many"] spNames)
  (GP : Has P w K mg base 4 "_law_put" ["_law_rows", "_law_big_here", "_law_tie", "_law_point"] spPut) :
  FnOk P w K mg base CX0 5 f fd ["_law_big_here", "_law_most", "_law_stem"] spNet := by
 refine F.gb scNet (fun vs H Q E h => ?_) (fun b0 H vs Q E hr h => ?_)
 ·obtain ⟨b, m, sm, rfl, _⟩ := h
  rfl
 obtain ⟨b, m, sm, rfl, m0, m35, q⟩ := h
 have nd := scNet.nd
 have hu := hr.u100
 have k0 : 0 ≤ b % (m + 1) := Int.emod_nonneg _ (by omega)
 have k1 : b % (m + 1) < m + 1 := Int.emod_lt_of_pos _ (by omega)
 obtain ⟨mn, hmn⟩ : ∃ k : Nat, b % (m + 1) = k := ⟨(b % (m + 1)).toNat, by omega⟩
 have hmm : mn ≤ m.toNat := by omega
 show Run _ _ _ [some (.int b), some (.int m), some (.int sm), none, none, none, none, none, none, none, none] H
 refine run_set 3 nd (ev_op op_mod (ev_v 0 (ev_op op_add (ev_v 1 (ev_int ⟨_, _, rfl, rfl, ?_⟩)))))
 refine ⟨_, _, rfl, rfl, (by show 0 < m + 1; omega), ?_⟩
 refine run_set 0 nd (ev_op op_fdiv (ev_v 0 (ev_op op_add (ev_v 1 (ev_int ⟨_, _, rfl, rfl, ?_⟩)))))
 refine ⟨_, _, rfl, rfl, (by show CDiv b (m + 1); exact ⟨by omega, by omega⟩), ?_⟩
 show Run _ _ _ [some (.int (b / (m + 1))), some (.int m), some (.int sm), some (.int (b % (m + 1))), none, none, none, none, none, none, none] H
 rw [hmn]
 generalize b / (m + 1) = b1
 refine run_set 4 nd (ev_has GN hr (ea_cons (ev_v 2 (ea_cons (ev_v 3 (ea_nil ⟨sm, (mn : Int), rfl, by omega, by omega, fun lt H1 s1 n1 e1 => ?_⟩))))))
 rw [Int.toNat_natCast] at e1
 refine run_set 5 nd (ev_has GN hr (ea_cons (ev_ix ix_list (ev_lst (ea_cons (ev_op op_add (ev_op op_fdiv (ev_v 2 (ev_int ⟨_, _, rfl, rfl, ⟨by decide, by decide⟩, ev_int ⟨_, _, rfl, rfl, ea_cons (ev_v 2 (ea_nil ⟨(by show 2 ≤ sizeLine; decide), fun p hp => ?_⟩))⟩⟩)))))))))
 refine ev_typ call_intB T.tint PyProof.Rows.boot_int (ea_cons (ev_cmp op_eq (ev_op op_mod (ev_v 2 (ev_int ⟨_, _, rfl, rfl, (by show (0 : Int) < 4; decide), ev_int ⟨rfl, ea_nil ⟨_, rfl, ?_⟩⟩⟩)))))
 have s2 := same_new hp (.lst [.int (sm / 3 + 1), .int sm])
 obtain ⟨s2m, ex⟩ : ∃ s2m : Int, atI [V.int (sm / 3 + 1), .int sm] (if decide (V.int (sm % 4) = V.int 1) = true then 1 else 0) = some (.int s2m) := by
  cases decide (V.int (sm % 4) = V.int 1) with
  | true => exact ⟨sm, rfl⟩
  | false => exact ⟨sm / 3 + 1, rfl⟩
 refine ⟨p, _, _, .int s2m, rfl, rfl, SqL.of upd_same, ex, ?_⟩
 refine ea_cons (ev_op op_add (ev_v 3 (ev_int ⟨_, _, rfl, rfl, ea_nil ⟨s2m, (mn : Int) + 1, rfl, by omega, by omega, fun lp H2 s3 n3 e3 => ?_⟩⟩)))
 have em : ((mn : Int) + 1).toNat = mn + 1 := by omega
 rw [em] at e3
 have sH2 : Same H H2 := s1.trans (s2.trans s3)
 have e1 : H2 lt = some (Ls (namesOf sm mn)) := s3 _ _ (s2 _ _ e1)
 show Run _ _ _ [some (.int b1), some (.int m), some (.int sm), some (.int (mn : Int)), some (.ref lt), some (.ref lp), none, none, none, none, none] H2
 refine run_set 6 nd (ev_lst (ea_cons (ev_tup (ea_cons (ev_ix ix_list (ev_v 5 (ev_int ⟨lp, _, _, .str (nameOf s2m 0), rfl, rfl, SqL.of e3, at_name (Nat.succ_pos _), ea_cons (ev_lst (ea_nil ⟨(by show 0 ≤ sizeLine; decide), fun l1 hl1 => ?_⟩))⟩)))))))
 refine ea_nil ⟨(by show 2 ≤ sizeLine; decide), fun t1 ht1 => ea_nil ⟨(by show 1 ≤ sizeLine; decide), fun R hRn => ?_⟩⟩
 have s4 := same_new hl1 (Ls [])
 have s5 := same_new ht1 (.tup [.str (nameOf s2m 0), .ref l1])
 have s6 := same_new hRn (.lst [.ref t1])
 have hR0 : RowsAt (upd (upd (upd H2 l1 (.lst [])) t1 (.tup [.str (nameOf s2m 0), .ref l1])) R (.lst [.ref t1])) R [(t1, l1)] [(nameOf s2m 0, [])] := by
  refine ⟨rfl, upd_same, fun i a r h1 h2 => ?_, by simp⟩
  cases i with
  | zero =>
   cases h1
   cases h2
   exact ⟨s6 _ _ upd_same, s6 _ _ (s5 _ _ upd_same)⟩
  | succ i => simp at h1
 have fR : H2 R = none := s4.free (s5.free hRn)
 show Run _ _ _ [some (.int b1), some (.int m), some (.int sm), some (.int (mn : Int)), some (.ref lt), some (.ref lp), some (.ref R), none, none, none, none] (upd (upd (upd H2 l1 (.lst [])) t1 (.tup [.str (nameOf s2m 0), .ref l1])) R (.lst [.ref t1]))
 refine run_forR1 T.range (ev_v 3 ⟨(mn : Int), rfl, by omega, by omega, ?_⟩)
 rw [Int.toNat_natCast]
 refine loop_range (fun k σ H3 => ∃ (as : List (Addr × Addr)) (n : Net) (b : Int) (u : Option V), RowsAt H3 R as n ∧ Same H2 H3 ∧ (∀ a ∈ as, H2 a.2 = none) ∧ Full n ∧ (ties n).Perm (dbl (namesOf sm k)) ∧ n.map (·.1) = namesOf s2m n.length ∧ n.length ≤ k + 1 ∧
  σ = [some (.int b), some (.int m), some (.int sm), some (.int (mn : Int)), some (.ref lt), some (.ref lp), some (.ref R), u, none, none, none]) ⟨_, _, b1, _, hR0, s4.trans (s5.trans s6), fun a ha => by rw [List.mem_singleton] at ha; rw [ha]; exact hl1, .inl ⟨_, rfl⟩, List.Perm.refl _, rfl, Nat.le_refl _, rfl⟩ ?_ ?_
 ·rintro k σ H3 hk ⟨as, n, b, u, hR, sH, hfr, hF, hp, hnm, hlen, rfl⟩
  rw [Int.zero_add]
  refine eg_name 7 nd ?_
  have hal := hR.len
  have tl := hp.length_eq
  rw [dbl_len, namesOf_len] at tl
  have nz : nameOf sm k ∉ ties n := fun h => by
   have h1 := dbl_mem.mp (hp.mem_iff.mp h)
   have h2 := namesOf_nodup (b := sm) (m := k + 1) (by omega)
   rw [namesOf_succ, List.nodup_append] at h2
   exact h2.2.2 _ h1 _ (List.mem_singleton.mpr rfl) rfl
  have n0 : 0 < n.length := List.length_pos_iff.mpr hF.some
  refine run_set 0 nd (ev_has GP hr (ea_cons (ev_v 6 (ea_cons (ev_v 0 (ea_cons (ev_ix ix_list (ev_v 4 (ev_v 7 ⟨lt, _, _, .str (nameOf sm k), rfl, rfl, SqL.of (sH _ _ e1), at_name hk, ?_⟩)))))))))
  refine ea_cons (ev_ix ix_list (ev_v 5 (ev_blt call_len_seq T.len boot_len (ea_cons (ev_v 6 (ea_nil ⟨R, _, rfl, .inl (SqL.of hR.lst), ?_⟩))))))
  rw [List.length_map, hal]
  refine ⟨lp, _, _, .str (nameOf s2m n.length), rfl, rfl, SqL.of (sH _ _ e3), at_name (by omega), ?_⟩
  refine ea_nil ⟨R, as, n, b, nameOf sm k, nameOf s2m n.length, rfl, hR, twice_of (namesOf_nodup (by omega)) hp, hF, nz, by omega, by omega, fun i as' n' H' hR' kp hfr' hp' hnm' hF' => ?_⟩
  have sH' : Same H2 H' := fun x o hx => by
   refine kp x o (sH _ _ hx) fun hm => ?_
   rcases List.mem_cons.mp hm with h | h
   ·rw [h, fR] at hx; cases hx
   ·obtain ⟨y, hy, e⟩ := List.mem_map.mp h
    rw [← e, hfr y hy] at hx; cases hx
  refine run_nil ⟨as', n', i, _, hR', sH', fun y hy => ?_, hF', ?_, ?_, ?_, rfl⟩
  ·rcases hfr' y hy with h | h
   ·exact hfr y h
   ·exact sH.free h
  ·refine hp'.trans ?_
   rw [namesOf_succ, dbl_snoc]
   refine List.Perm.trans ?_ List.perm_append_comm
   exact ((hp.cons _).cons _)
  ·rcases hnm' with h | h
   ·have hl := congrArg List.length h
    rw [List.length_map, List.length_map] at hl
    rw [h, hl]
    exact hnm
   ·have hl := congrArg List.length h
    rw [List.length_map, List.length_append, List.length_map] at hl
    have hl' : n'.length = n.length + 1 := hl
    rw [h, hl', namesOf_succ, hnm]
  ·rcases hnm' with h | h
   ·have hl := congrArg List.length h
    rw [List.length_map, List.length_map] at hl
    omega
   ·have hl := congrArg List.length h
    rw [List.length_map, List.length_append, List.length_map] at hl
    have hl' : n'.length = n.length + 1 := hl
    omega
 rintro σ H3 ⟨as0, n0, b, u, hR, sH, hfr, hF, hp, hnm, hlen, rfl⟩
 have tl := hp.length_eq
 rw [dbl_len, namesOf_len] at tl
 have hT0 : Twice n0 := twice_of (namesOf_nodup (by omega)) hp
 have hN0 : (n0.map (·.1)).Nodup := by rw [hnm]; exact namesOf_nodup (by omega)
 refine run_set 8 nd (ev_lst (ea_nil ⟨(by show 0 ≤ sizeLine; decide), fun L hL => ?_⟩))
 have s7 := same_new hL (.lst [])
 have hRL : R ≠ L := ne_of_none hR.lst hL
 have fL : H2 L = none := sH.free hL
 have hL0 : RowsAt (upd H3 L (.lst [])) L [] [] := ⟨rfl, upd_same, fun i a r h1 => by simp at h1, by simp⟩
 refine run_while (fun k σ H4 => ∃ (as as2 : List (Addr × Addr)) (n n2 : Net) (b : Int) (u9 u10 : Option V), k = n.length ∧ RowsAt H4 R as n ∧ RowsAt H4 L as2 n2 ∧ Same H2 H4 ∧ (∀ a ∈ as, a.2 ≠ L) ∧ (∀ a ∈ as2, a.2 ≠ R) ∧ (∀ a ∈ as2, H2 a.2 = none) ∧ n.length + n2.length = n0.length ∧
   (ties n ++ ties n2).Perm (ties n0) ∧ (n.map (·.1) ++ n2.map (·.1)).Perm (n0.map (·.1)) ∧ (NE n0 → NE n ∧ NE n2) ∧
   σ = [some (.int b), some (.int m), some (.int sm), some (.int (mn : Int)), some (.ref lt), some (.ref lp), some (.ref R), u, some (.ref L), u9, u10])
  (m0 := n0.length) ⟨as0, [], n0, [], b, _, _, rfl, hR.same s7, hL0, sH.trans s7, fun a ha => (hR.fresh hL ha).symm, fun a ha => (nomatch ha), fun a ha => (nomatch ha), rfl, by simp [ties], by simp, fun h => ⟨h, fun r hr => (nomatch hr)⟩, rfl⟩ ?_
 rintro k σ H4 ⟨as, as2, n, n2, b, u9, u10, rfl, hR, hL2, sH, aL, aR, fr2, hlen2, pt, pn, hne, rfl⟩
 have hal := hR.len
 have hal2 := hL2.len
 have tlen : (ties n).length ≤ 70 := by
  have := pt.length_eq
  rw [List.length_append] at this
  omega
 refine et_cmp (op_neD hu) (ev_v 6 (ev_lst (ea_nil ⟨(by show 0 ≤ sizeLine; decide), fun p hp2 => ?_⟩)))
 have s8 := same_new hp2 (.lst [])
 by_cases h0 : n = []
 ·subst h0
  have ea : as = [] := List.length_eq_zero_iff.mp (by simpa using hal)
  subst ea
  refine ⟨1, _, by decide, rnD_list (k := 0) (xs := []) (ys := []) (fun _ => true) (SqL.of (s8 _ _ hR.lst)) (SqL.of upd_same) rfl (fun j x y hx _ => by simp at hx), _, rfl, iteF (run_ret (ev_v 8 ?_))⟩
  have pt' : (ties n2).Perm (ties n0) := pt
  have pn' : (n2.map (·.1)).Perm (n0.map (·.1)) := pn
  have l2 : n2.length = n0.length := by simpa using hlen2
  refine q L as2 n2 _ (sH2.trans (sH.trans s8)) (sH2.free fL) (hL2.same s8) (fun z hz => ?_) (pn'.nodup_iff.mpr hN0) ?_ (by rw [pt'.length_eq]; omega) (by omega) fun a ha => sH2.free (fr2 a ha)
  ·rw [pt'.count_eq]
   exact hT0 z (pt'.mem_iff.mp hz)
  ·rcases hF.ne with ⟨nm, h⟩ | h
   ·subst h
    have t0 : ties n2 = [] := List.Perm.eq_nil pt'
    match n2, l2, t0 with
    | [(nm2, zs)], _, t0 =>
     have : zs = [] := by simpa [ties] using t0
     subst this
     exact .inl ⟨_, rfl⟩
   ·refine ne_full (hne h).2 fun e => ?_
    rw [e] at l2
    exact hF.some (List.length_eq_zero_iff.mp l2.symm)
 ·have np : 0 < n.length := List.length_pos_iff.mpr h0
  refine ⟨1, _, by decide, rnD_lens (k := 1) (SqL.of (s8 _ _ hR.lst)) (SqL.of (xs := []) upd_same) (by rw [List.length_map, hal]; exact Nat.ne_of_gt np), _, rfl, iteT ?_⟩
  have hR := hR.same s8
  have hL2 := hL2.same s8
  have sH := sH.trans s8
  generalize upd H4 p (.lst []) = H5 at hR hL2 sH ⊢
  have r0 : 0 ≤ b % (n.length : Int) := Int.emod_nonneg _ (by omega)
  have r1 : b % (n.length : Int) < n.length := Int.emod_lt_of_pos _ (by omega)
  obtain ⟨j, hj⟩ : ∃ k : Nat, b % (n.length : Int) = k := ⟨(b % (n.length : Int)).toNat, by omega⟩
  have hjn : j < n.length := by omega
  obtain ⟨a, ea, eat, et, el, er⟩ := hR.at hjn
  refine run_set 9 nd (ev_m1 PySem.F.plainAttrs_list PySem.F.slot_list_pop PySem.F.type_list_pop mt_popAt (ev_v 6 ⟨ty_lst hR.lst, ev_op op_mod (ev_v 0 (ev_blt call_len_seq T.len boot_len (ea_cons (ev_v 6 (ea_nil ⟨R, _, rfl, .inl (SqL.of hR.lst), ?_⟩)))))⟩))
  rw [List.length_map, hal]
  refine ⟨_, _, rfl, rfl, by omega, R, _, _, j, .ref a.1, rfl, rfl, hR.lst, by rw [hj]; omega, by rw [hj]; omega, ?_, ?_, ?_⟩
  ·rw [hj, List.length_map, hal]
   unfold seqIndex?
   have c1 : ¬ ((j : Int) < 0) := by omega
   simp only [c1, if_false]
   have c2 : (decide (0 ≤ (j : Int)) && decide ((j : Int) < (n.length : Int))) = true := by
    rw [Bool.and_eq_true, decide_eq_true_eq, decide_eq_true_eq]
    omega
   rw [if_pos c2, Int.toNat_natCast]
  ·rw [List.getElem?_map, ea]
   rfl
  have R6 := hR.erase hjn
  have am : a ∈ as := List.mem_of_getElem? ea
  have lneR : ∀ x ∈ as, x.2 ≠ R := fun x hx e => by
   obtain ⟨zs, e2⟩ := hR.lists hx
   have h3 := hR.lst
   rw [← e, e2] at h3
   have h4 := HO.lst.inj (Option.some.inj h3)
   cases as with
   | nil => cases hx
   | cons b' bs =>
    cases zs with
    | nil => simp at h4
    | cons y r => simp at h4
  have L6 := hL2.upd (o := .lst ((as.map fun a => V.ref a.1).eraseIdx j)) hR.lst hRL.symm aR
  have et6 : (upd H5 R (.lst ((as.map fun a => V.ref a.1).eraseIdx j))) a.1 = some (.tup [.str n[j].1, .ref a.2]) := by rw [upd_ne (ne_of et hR.lst fun e => nomatch e)]; exact et
  have el6 : (upd H5 R (.lst ((as.map fun a => V.ref a.1).eraseIdx j))) a.2 = some (Ls (row n j)) := by rw [upd_ne (lneR a am)]; exact el
  have sH6 : Same H2 (upd H5 R (.lst ((as.map fun a => V.ref a.1).eraseIdx j))) := same_mut sH fR
  generalize upd H5 R (.lst ((as.map fun a => V.ref a.1).eraseIdx j)) = H6 at R6 L6 et6 el6 sH6 ⊢
  have le6 := R6.len
  have len6 : (n.eraseIdx j).length = n.length - 1 := by rw [List.length_eraseIdx, if_pos hjn]
  refine run_set 0 nd (ev_op op_fdiv (ev_v 0 (ev_op op_add (ev_blt call_len_seq T.len boot_len (ea_cons (ev_v 6 (ea_nil ⟨R, _, rfl, .inl (SqL.of R6.lst), ev_int ⟨_, _, rfl, rfl, ?_⟩⟩)))))))
  rw [List.length_map, le6, len6]
  refine ⟨_, _, rfl, rfl, ⟨by omega, by omega⟩, ?_⟩
  have rlen := row_le n j
  refine run_set 10 nd (ev_blt (call_max2 rfl) T.max PyProof.Rows.boot_max (ea_cons (ev_int (ea_cons (ev_blt call_len_seq T.len boot_len (ea_cons (ev_ix ix_tup (ev_v 9 (ev_int ⟨a.1, _, _, .ref a.2, rfl, rfl, SqT.of et6, rfl, ea_nil ⟨a.2, _, rfl, .inl (SqL.of el6), ?_⟩⟩)))))))))
  rw [List.length_map]
  refine ea_nil ⟨1, _, rfl, ?_⟩
  have emx : (if ((row n j).length : Int) > 1 then ((row n j).length : Int) else 1) = ((max 1 (row n j).length : Nat) : Int) := by
   split <;> omega
  rw [emx]
  show Run _ _ _ [some (.int (b / ((n.length - 1 : Nat) + 1 : Int))), some (.int m), some (.int sm), some (.int (mn : Int)), some (.ref lt), some (.ref lp), some (.ref R), u, some (.ref L), some (.ref a.1), some (.int ((max 1 (row n j).length : Nat) : Int))] H6
  generalize b / ((n.length - 1 : Nat) + 1 : Int) = b2
  have z0 : 0 ≤ b2 % ((max 1 (row n j).length : Nat) : Int) := Int.emod_nonneg _ (by omega)
  obtain ⟨i, hi⟩ : ∃ k : Nat, b2 % ((max 1 (row n j).length : Nat) : Int) = k := ⟨(b2 % ((max 1 (row n j).length : Nat) : Int)).toNat, by omega⟩
  refine run_expr (ev_append (ev_v 8 ⟨L, rfl, ⟨_, L6.lst⟩, ev_tup (ea_cons (ev_ix ix_tup (ev_v 9 (ev_int ⟨a.1, _, _, .str n[j].1, rfl, rfl, SqT.of et6, rfl, ?_⟩))))⟩))
  refine ea_cons (ev_op op_cat (ev_slice sl_list (ev_ix ix_tup (ev_v 9 (ev_int ⟨a.1, _, _, .ref a.2, rfl, rfl, SqT.of et6, rfl, eo_some (ev_op op_mod (ev_v 0 (ev_v 10 ⟨b2, ((max 1 (row n j).length : Nat) : Int), rfl, rfl, by omega, _, rfl, eo_none ⟨a.2, _, rfl, SqL.of el6, fun p1 hp1 => ?_⟩⟩)))⟩)))))
  rw [hi, cut_from]
  have t1 := same_new hp1 (Ls ((row n j).drop i))
  refine ev_slice sl_list (ev_ix ix_tup (ev_v 9 (ev_int ⟨a.1, _, _, .ref a.2, rfl, rfl, SqT.of (t1 _ _ et6), rfl, eo_none (eo_some (ev_op op_mod (ev_v 0 (ev_v 10 ⟨b2, ((max 1 (row n j).length : Nat) : Int), rfl, rfl, by omega, _, rfl, a.2, _, rfl, SqL.of (t1 _ _ el6), fun p2 hp2 => ?_⟩))))⟩)))
  rw [hi, cut_to]
  have t2 := same_new hp2 (Ls ((row n j).take i))
  refine ⟨p1, p2, _, _, rfl, rfl, t2 _ _ upd_same, upd_same, ?_, fun p3 hp3 => ?_⟩
  ·rw [List.length_map, List.length_map, List.length_drop, List.length_take]
   exact small (by omega)
  rw [← List.map_append]
  have t3 := same_new hp3 (Ls ((row n j).drop i ++ (row n j).take i))
  refine ea_nil ⟨(by show 2 ≤ sizeLine; decide), fun t4 ht4 => ?_⟩
  have s4 := same_new ht4 (.tup [.str n[j].1, .ref p3])
  have sAll := t1.trans (t2.trans (t3.trans s4))
  have L7 := L6.same sAll
  have R7 := R6.same sAll
  have p3L : p3 ≠ L := fun e => by rw [e, (t1.trans t2) _ _ L6.lst] at hp3; cases hp3
  have p3R : p3 ≠ R := fun e => by rw [e, (t1.trans t2) _ _ R6.lst] at hp3; cases hp3
  have p3n : p3 ∉ as2.map (·.2) := fun hm => by
   obtain ⟨y, hy, e⟩ := List.mem_map.mp hm
   exact (L6.same (t1.trans t2)).fresh hp3 hy e.symm
  have L8 := L7.more (t := t4) (l := p3) (pt := n[j].1) (zs := (row n j).drop i ++ (row n j).take i) upd_same (s4 _ _ upd_same) p3n p3L
  refine ⟨_, L7.lst, by rw [List.length_map, hal2]; exact small' (by omega), ?_⟩
  have aL6 : ∀ x ∈ as.eraseIdx j, x.2 ≠ L := fun x hx => aL x (List.mem_of_mem_eraseIdx hx)
  have R8 := R7.upd (o := .lst (as2.map (fun a => V.ref a.1) ++ [.ref t4])) L7.lst hRL aL6
  refine run_set 0 nd (ev_op op_fdiv (ev_v 0 (ev_v 10 ⟨b2, ((max 1 (row n j).length : Nat) : Int), rfl, rfl, ⟨by omega, by omega⟩, ?_⟩)))
  have pe := ties_erase n j hjn
  have ne := names_erase n j hjn
  refine run_nil ⟨n.length - 1, by omega, as.eraseIdx j, as2 ++ [(t4, p3)], n.eraseIdx j, n2 ++ [(n[j].1, (row n j).drop i ++ (row n j).take i)], _, _, _, len6.symm, R8, L8, same_mut (sH6.trans sAll) fL, aL6, fun x hx => ?_, fun x hx => ?_, ?_, ?_, ?_, fun h => ⟨fun r hr => ?_, fun r hr => ?_⟩, rfl⟩
  ·rcases List.mem_append.mp hx with hx | hx
   ·exact aR x hx
   ·rw [List.mem_singleton] at hx
    rw [hx]
    exact p3R
  ·rcases List.mem_append.mp hx with hx | hx
   ·exact fr2 x hx
   ·rw [List.mem_singleton] at hx
    rw [hx]
    exact sH6.free (t1.free (t2.free hp3))
  ·rw [List.length_append, len6]
   simp
   omega
  ·refine List.Perm.trans ?_ pt
   unfold ties
   rw [List.flatMap_append]
   show (ties (n.eraseIdx j) ++ (ties n2 ++ (((row n j).drop i ++ (row n j).take i) ++ []))).Perm _
   rw [List.append_nil, er]
   have w1 : (n[j].2.drop i ++ n[j].2.take i).Perm n[j].2 := rot_perm _ _
   refine ((w1.append_left _).append_left _).trans ?_
   have w2 : (ties n ++ ties n2).Perm ((n[j].2 ++ ties (n.eraseIdx j)) ++ ties n2) := pe.append_right _
   refine List.Perm.trans ?_ w2.symm
   rw [List.append_assoc]
   refine List.Perm.trans ?_ (List.perm_append_comm (l₁ := ties (n.eraseIdx j) ++ ties n2))
   rw [List.append_assoc]
  ·refine List.Perm.trans ?_ pn
   rw [List.map_append]
   show ((n.eraseIdx j).map (·.1) ++ (n2.map (·.1) ++ [n[j].1])).Perm _
   refine List.Perm.trans ?_ (ne.append_right _).symm
   rw [← List.append_assoc]
   exact List.perm_append_comm
  ·exact (hne h).1 r (List.mem_of_mem_eraseIdx hr)
  ·rcases List.mem_append.mp hr with hr | hr
   ·exact (hne h).2 r hr
   ·rw [List.mem_singleton] at hr
    rw [hr]
    intro e
    have w1 := (rot_perm (row n j) i).length_eq
    have e' : (row n j).drop i ++ (row n j).take i = [] := e
    rw [e'] at w1
    have := (hne h).1 n[j] (List.getElem_mem hjn)
    rw [er] at w1
    exact this (List.length_eq_zero_iff.mp w1.symm)
end
end P3
namespace L2
open PySem PySem.Spec PyProof.Rows
theorem is_kV {P : Program} {w : World} {k : Key} {u : Value} (h : (mixKind P w).is k u = true) : RelV (kV k) u := by
 rcases keyIs_shape h with ⟨i, t, rfl, rfl⟩ | ⟨x, t, rfl, rfl⟩ <;> exact ⟨t, rfl⟩
section
variable {X : Cx} {pins : List (Addr × Obj)} {σ : St} {H : Hp} {s : Shared}
end
section
variable {X : Cx} {elt tg : Expr} {ifs : List Expr} {scope : Scope} {σ : St} {H : Hp} {N' : List Str} {A a d : Addr} {xs : List V} {kvs : List (Key × V)} {after : Hp → Prop}
theorem comp_listP (Pv : Nat → St → Hp → Prop) (h0 : Pv 0 σ H) (hl : ∀ i σ' H', i ≤ xs.length → Pv i σ' H' → SqL X.K H' a xs)
  (hs : ∀ i x σ' H', xs[i]? = some x → Pv i σ' H' → CEg X N' scope tg x σ' H' fun σ2 H3 => CEi X N' scope ifs σ2 H3 fun b H4 =>
   if b = true then CEv X N' scope elt σ2 H4 fun v H5 => ∃ ys, H5 A = some (.lst ys) ∧ ys.length < sizeLine ∧ Pv (i + 1) σ2 (upd H5 A (.lst (ys ++ [v]))) else Pv (i + 1) σ2 H4)
  (hd : ∀ σ' H', Pv xs.length σ' H' → after H') : CompL X N' scope tg ifs elt (Itl X.K a) A after σ H := by
 refine ⟨fun i m σ' H' => m = xs.length - i ∧ i ≤ xs.length ∧ Pv i σ' H', ⟨_, rfl, Nat.zero_le _, h0⟩, ?_⟩
 rintro i m σ' H' ⟨rfl, hi, p⟩
 have q := hl i σ' H' hi p
 by_cases hlt : i < xs.length
 ·refine .inr ⟨⟨xs, xs[i], q, by simp [hlt]⟩, Pv (i + 1), fun σ' H' p' => ⟨xs.length - (i + 1), by omega, rfl, hlt, p'⟩, fun x H2 y => ?_⟩
  obtain ⟨e, y⟩ := y
  subst e
  exact hs i x σ' _ (y xs q) p
 ·have e : i = xs.length := by omega
  subst e
  exact .inl ⟨⟨xs, q, Nat.le_refl _⟩, hd σ' H' p⟩
theorem inV_strs (z : Str) (zs : List Str) : inV (.str z) (zs.map V.str) = zs.contains z := by
 unfold inV
 induction zs with
 | nil => rfl
 | cons y r ih =>
  rw [List.map_cons, List.any_cons, ih, List.contains_cons]
  congr 1
  show eqV (.str y) (.str z) = (z == y)
  by_cases h : y = z
  ·subst h; simp [eqV]
  ·have h' : z ≠ y := fun q => h q.symm
   show (y == z) = (z == y)
   rw [beq_eq_false_iff_ne.mpr h, beq_eq_false_iff_ne.mpr h']
theorem flat_strs (zs : List Str) : (zs.map V.str).all flatV = true := by
 rw [List.all_eq_true]
 intro x hx
 obtain ⟨z, _, rfl⟩ := List.mem_map.mp hx
 rfl
theorem Eg.mono {e : Expr} {v : V} {R R' : St → Hp → Prop} (h : Eg X e v σ H R) (f : ∀ σ' H', R σ' H' → R' σ' H') : Eg X e v σ H R' :=
 ⟨fun pins s u I r => thn (h.run pins s u I r) fun _ s' ⟨σ', H', I', q⟩ => ⟨σ', H', I', f σ' H' q⟩⟩
theorem eg_pair {e1 e2 : Expr} {k : Nat} {pos : Pos} {t : Addr} {x y : V} {R : St → Hp → Prop} (hc : X.calm = true) (ht : SqT X.K H t [x, y]) (h : Eg X e1 x σ H fun σ1 H1 => Eg X e2 y σ1 H1 R)
  (hn : (assignEach [e1, e2] X.env).length = 2 := by rfl) (hst : (assignEach [e1, e2] X.env).findIdx? (·.1) = none := by rfl)
  (hs1 : (assignEach [e1, e2] X.env).map (·.2) = assign e1 X.env :: (assignEach [e2] X.env).map (·.2) := by rfl) (hs2 : (assignEach [e2] X.env).map (·.2) = assign e2 X.env :: (assignEach [] X.env).map (·.2) := by rfl) :
  Eg X (.Tuple [e1, e2] k pos) (.ref t) σ H R :=
 eg_of (pg_tup (t := gCons (fun v σ H Q => Eg X e1 v σ H Q) (gCons (fun v σ H Q => Eg X e2 v σ H Q) gNil)) hc (pgs_cons pg_eg (pgs_cons pg_eg pgs_nil hs2) hs1) hn hst) ⟨t, _, rfl, ht, rfl, _, _, rfl, h.mono fun σ1 H1 h1 => ⟨_, _, rfl, h1.mono fun σ2 H2 q => ⟨rfl, q⟩⟩⟩
end
end L2
namespace Nt
open PySem L2
theorem tie_two {n : Net} (T : Twice n) {e x : End} {z : Str} (h : tieAt n e = some z) : tieAt n x = some z ↔ x = e ∨ x = other n e := by
 obtain ⟨o1, o2, o3⟩ := other_spec T h
 refine ⟨fun hx => ?_, fun hx => ?_⟩
 ·obtain ⟨a, b, hp, hab, he⟩ := pos_two T h
  have mx : x ∈ pos n z := mem_pos.mpr hx
  have mo : other n e ∈ pos n z := mem_pos.mpr o1
  rw [hp] at mx mo
  simp only [List.mem_cons, List.not_mem_nil, or_false] at mx mo
  rcases he with he | he
  ·rcases mx with m | m
   ·exact .inl (m.trans he.symm)
   ·rcases mo with m2 | m2
    ·exact absurd (m2.trans he.symm) o3
    ·exact .inr (m.trans m2.symm)
  ·rcases mx with m | m
   ·rcases mo with m2 | m2
    ·exact .inr (m.trans m2.symm)
    ·exact absurd (m2.trans he.symm) o3
   ·exact .inl (m.trans he.symm)
 ·rcases hx with rfl | rfl
  ·exact h
  ·exact o1
end Nt
namespace PySem
theorem getAttr?_miss_list {prog : Program} {w : World} {A : Around} {E : Value → Shared → Prop} {s : Shared} {a : Addr} {o : Obj} {xs : Array Value} {k : Nat} {name : Str} {Q : Option Value → Shared → Prop}
  (hx : s.heap.get? a = some o) (hc : o.cls = .type "list") (hdat : o.data = .seq xs k) (hd : o.dict = none) (hmiss : typeLookup (.type "list") name = pure none) (hname : (["__module__", "__name__", "__qualname__", "__doc__", "__annotations__"] : List Str).contains name = false) (hA : A.handled = none)
  (h : ∀ h' tk e, Heap.NewExcOf s.heap h' e "AttributeError" → Q none { s with heap := h', toks := tk }) (hsz : name.length + 100 ≤ sizeLine := by size_fits) :
  wpAny (model prog w) A (getAttr? (.ref a) name) Q E s := by
 obtain ⟨c, dct, dat, sl⟩ := o
 simp only at hc hdat hd
 subst hc hdat hd
 obtain ⟨hp, g, d, tk, os⟩ := s
 have hT : ∀ tk', (⟨hp, g, d, tk', os⟩ : Shared).TypeIs (.ref a) "list" := fun _ => ⟨_, hx, rfl⟩
 have f1 := sub_AttributeError
 have f3 := F.slot_list_getattribute.lookup
 have f4 := F.slot_list_getattribute.bind (.ref a)
 have f5 := am_list_getattr_none
 unfold getAttr? getAttrBy? getAttrBy
 repeat (any_goals (first | assumption | exact hT _ | ((with_reducible show wpAny _ _ (call (Value.builtin "list.__getattribute__") _ _) _ _ _); refine call_meets F.slot_list_getattribute (hT _) am_entry_list_getattribute (F.args_list_getattribute_2 _ _) (meets_getattribute_miss_list a xs k sl name _ hmiss hname hsz) ⟨hx, hA, fun h' tk' e hx' => ?_⟩) | wp_step))
 obtain ⟨t', u', he⟩ := hx'.there
 show wpAny _ _ (getattributeRaised _ _ _ _ _ _ _) _ _ _
 unfold getattributeRaised
 repeat (any_goals (first | assumption | wp_step))
 exact h _ _ _ hx'.of
end PySem
namespace PySem
namespace F
theorem entry_dict_update_loop : entryFor table "dict.update.loop" = some Builtin.«dict.update.loop» := entryFor_of_tree (by kernel_rfl)
theorem plain_dict_update_loop : plainId "dict.update.loop" = true := by decide +kernel
theorem list_no_keys : typeLookup (.type "list") "keys" = pure none := by rw [typeLookup_type, builtinLookup_eq_fast]; kernel_rfl
end F
section
variable {prog : Program} {w : World} {K : Type} [DecidableEq K] {knd : KeyKind prog w K} {A : Around} {R : Result → Shared → Prop}
noncomputable def PairsAt (knd : KeyKind prog w K) (h : Heap) (items : List Value) (prs : List (K × Value)) : Prop :=
 items.length = prs.length ∧ ∀ (j : Nat) it, items[j]? = some it → ∃ T key k v o n, it = .ref T ∧ prs[j]? = some (k, v) ∧ knd.is k key = true ∧ h.get? T = some o ∧ o.cls = .type "tuple" ∧ o.data = .seq #[key, v] n
theorem length_stored (kvs : List (K × Value)) (k : K) (v : Value) : (stored kvs k v).length ≤ kvs.length + 1 := by
 unfold stored
 split
 ·rw [List.length_map]; omega
 ·rw [List.length_append]; simp
theorem pairs_loop {hB : Heap} {d I l : Addr} {items : List Value} {prs : List (K × Value)} (hd : hB.objs.size ≤ d) (hI : hB.objs.size ≤ I) (hdI : d ≠ I) (hl : hB.IsList l items.toArray) (hp : PairsAt knd hB items prs) (hn : items.length < sizeLine) (hh : A.handled = none) :
  ∀ (k i : Nat) (s : Shared) (acc : List (K × Value)), items.length - i = k → i ≤ items.length → (∀ b o, hB.get? b = some o → s.heap.get? b = some o) → s.heap.IsListIter I l i → s.heap.DictOf knd d acc → acc.length ≤ i →
   (∀ h' tk, (∀ b o, b ≠ I → b ≠ d → s.heap.get? b = some o → h'.get? b = some o) → h'.DictOf knd d ((prs.drop i).foldl (fun a p => stored a p.1 p.2) acc) → R (.ok (.ret .none)) { s with heap := h', toks := tk }) →
   codeAny (model prog w) A (.builtin "dict.update.loop" ⟨[.ref d, .ref I, rawInt i, .none], []⟩) R s := by
 have nb : ∀ b o, hB.get? b = some o → b ≠ I ∧ b ≠ d := fun b o e => ⟨Nat.ne_of_lt (Nat.lt_of_lt_of_le (Heap.lt_size e) hI), Nat.ne_of_lt (Nat.lt_of_lt_of_le (Heap.lt_size e) hd)⟩
 intro k
 induction k with
 | zero =>
  intro i s acc hk hi hkeep hst hD hal hR
  have hin : i = items.length := by omega
  refine codeAny_builtin F.entry_dict_update_loop ?_
  rw [Around.under_plainId F.plain_dict_update_loop _]
  show wpAny _ A.in1 (pyNext (.ref I) >>= _) _ _ s
  have hl' : s.heap.IsList l items.toArray := let ⟨o, ho, r⟩ := hl; ⟨o, hkeep _ _ ho, r⟩
  refine wpAny_bind (wpAny_pyNext_list_end hh hst hl' (by simp; omega) fun h' eb => ?_)
  show wpAny _ A.in1 (Builtin.Dict.addKeywords d [] >>= _) _ _ _
  refine wpAny_bind (wpAny_pure (wpAny_pure ?_))
  refine hR h' s.toks (fun b o hb _ e => eb b o hb e) ?_
  rw [List.drop_eq_nil_of_le (by have := hp.1; omega)]
  exact hD.extBut eb hdI
 | succ k ih =>
  intro i s acc hk hi hkeep hst hD hal hR
  have hlt : i < items.length := by omega
  have hx : items[i]? = some items[i] := List.getElem?_eq_getElem hlt
  obtain ⟨T, key, kk, v, o, n, e1, e2, e3, e4, e5, e6⟩ := hp.2 i _ hx
  rw [e1] at hx
  refine codeAny_builtin F.entry_dict_update_loop ?_
  rw [Around.under_plainId F.plain_dict_update_loop _]
  show wpAny _ A.in1 (pyNext (.ref I) >>= _) _ _ s
  have hl' : s.heap.IsList l items.toArray := let ⟨o, ho, r⟩ := hl; ⟨o, hkeep _ _ ho, r⟩
  refine wpAny_bind (wpAny_pyNext_list_item hst hl' (x := .ref T) (by simpa using hx) fun h' st' sb => ?_)
  have eT : h'.get? T = some o := (sb.2 T (nb T o e4).1).trans (hkeep _ _ e4)
  refine wpAny_bind (wpAny_holding (wpAny_bind (wpAny_tryCatch ?_)))
  unfold Builtin.Dict.pairItems
  refine wpAny_bind (wpAny_typeOf (T := "tuple") ⟨o, eT, e5⟩ ?_)
  rw [if_pos (by decide)]
  refine wpAny_bind (wpAny_seqItems (s := { s with heap := h' }) eT e6 (wpAny_pure ?_))
  show wpAny _ _ (holding [key, v] (dictSet d key v)) _ _ _
  refine wpAny_holding (wpAny_dictSet_pairs (knd := knd) (s := { s with heap := h' }) (k := kk) e3 (hD.extBut sb.extBut hdI) (fun h2 D2 sb2 => ?_) (by omega))
  refine wpAny_pure ⟨plainId_quiet F.plain_dict_update_loop _, ?_⟩
  have hki : ∀ b o, b ≠ I → b ≠ d → s.heap.get? b = some o → h2.get? b = some o := fun b o h1 h3 e => (sb2.2 b h3).trans ((sb.2 b h1).trans e)
  refine ih (i + 1) { s with heap := h2, toks := s.toks + 1 } (stored acc kk v) (by omega) hlt (fun b o e => hki b o (nb b o e).1 (nb b o e).2 (hkeep _ _ e)) (st'.extBut sb2.extBut (Ne.symm hdI)) D2 (by have := length_stored acc kk v; omega) fun h3 tk k3 D3 => ?_
  refine hR h3 tk (fun b o h1 h2' e => k3 b o h1 h2' (hki b o h1 h2' e)) ?_
  have e7 : prs.drop i = (kk, v) :: prs.drop (i + 1) := by
   obtain ⟨hj, e8⟩ := List.getElem?_eq_some_iff.mp e2
   rw [List.drop_eq_getElem_cons hj, e8]
  rw [e7]
  exact D3
theorem call_dict_pairs {E : Value → Shared → Prop} {s : Shared} {Q : Value → Shared → Prop} {l : Addr} {ol : Obj} {nl : Nat} {items : List Value} {prs : List (K × Value)} (ho : s.heap.get? l = some ol) (hc : ol.cls = .type "list") (hod : ol.dict = none) (hdt : ol.data = .seq items.toArray nl) (hp : PairsAt knd s.heap items prs) (hn : items.length < sizeLine) (hh : A.handled = none)
  (h : ∀ h' tk, (∀ b o, s.heap.get? b = some o → h'.get? b = some o) → h'.DictOf knd s.heap.objs.size (prs.foldl (fun a p => stored a p.1 p.2) []) → Q (.ref s.heap.objs.size) { s with heap := h', toks := tk }) :
  wpAny (model prog w) A (call (.type "dict") [.ref l]) Q E s := by
 refine callType_codes (Q₁ := fun obj s₁ => obj = .ref s.heap.objs.size ∧ s₁ = { s with heap := s.heap.push { cls := .type "dict", data := .dict #[] } }) F.kt_called_dict (F.kt_typeCall_dict_1 _) F.entry_dict_init (kt_code_dict_new _ ⟨rfl, rfl⟩) ?_
 rintro obj s₁ ⟨rfl, rfl⟩
 have hnew : (s.heap.push { cls := .type "dict", data := .dict #[] }).DictOf knd s.heap.objs.size [] := Heap.DictOf.new s.heap
 have ho' : (s.heap.push { cls := .type "dict", data := .dict #[] }).get? l = some ol := Heap.get?_push_of_some _ ho
 refine ⟨hnew.typeIs, F.args_dict_init_2 _ _, ?_⟩
 unfold Builtin.«dict.__init__»
 refine wpAny_bind ?_
 unfold Builtin.Dict.selfAndRest
 refine wpAny_bind (wpAny_notOrdered_dict hnew.typeIs ?_)
 show wpAny _ _ (pure (s.heap.objs.size, [Value.ref l])) _ _ _
 refine wpAny_pure ?_
 show wpAny _ _ (Builtin.Dict.updateFrom "dict.__init__" s.heap.objs.size (.ref l) [] .none) _ _ _
 unfold Builtin.Dict.updateFrom
 refine wpAny_bind (wpAny_typeOf (T := "list") ⟨ol, ho', hc⟩ ?_)
 rw [if_pos (by decide)]
 refine wpAny_bind (getAttr?_miss_list ho' hc hdt hod F.list_no_keys (by decide) (by exact hh) (fun h' tk e ne => ?_))
 rw [if_pos (show (none : Option Value).isNone = true from rfl)]
 have kp : ∀ b o, s.heap.get? b = some o → h'.get? b = some o := fun b o e => ne.keeps b o (Heap.get?_push_of_some _ e)
 refine wpAny_bind (wpAny_rule ?_)
 have hL : h'.IsList l items.toArray := ⟨ol, kp _ _ ho, hc, nl, hdt⟩
 refine wpAny_bind (wpAny_pyIter_list hL ?_)
 refine wpAny_pure ⟨plainId_quiet F.plain_dict_update_loop _, ?_⟩
 have hD' : h'.DictOf knd s.heap.objs.size [] := let ⟨o, es, ep, ho, r⟩ := hnew; ⟨o, es, ep, ne.keeps _ _ ho, r⟩
 have hlt : s.heap.objs.size < h'.objs.size := let ⟨o, es, ep, ho, r⟩ := hD'; Heap.lt_size ho
 refine pairs_loop (hB := s.heap) (d := s.heap.objs.size) (I := h'.objs.size) (l := l) (Nat.le_refl _) (Nat.le_of_lt hlt) (Nat.ne_of_lt hlt) ⟨ol, ho, hc, nl, hdt⟩ hp hn (by exact hh) _ 0 _ [] rfl (Nat.zero_le _) (fun b o e => Heap.get?_push_of_some _ (kp b o e)) ⟨_, Heap.get?_push_size _ rfl, rfl, rfl⟩ (hD'.push _) (Nat.zero_le _) fun h2 tk2 k2 D2 => ?_
 refine ⟨rfl, h h2 tk2 (fun b o e => k2 b o (Nat.ne_of_lt (Heap.lt_size (kp b o e))) (Nat.ne_of_lt (Heap.lt_size e)) (Heap.get?_push_of_some _ (kp b o e))) D2⟩
end
end PySem
namespace L2
open PySem PySem.Spec PyProof.Rows
section
variable {X : Cx} {pins : List (Addr × Obj)} {σ : St} {H : Hp} {s : Shared}
theorem fold_stored {kvs : List (Key × V)} : ∀ {ps : List (Key × V)} {acc : List (Key × Value)} {rs : List (Key × Value)}, KV ps acc → KV kvs rs → KV (kvs.foldl (fun a p => putK a p.1 p.2) ps) (rs.foldl (fun a p => stored a p.1 p.2) acc) := by
 induction kvs with
 | nil => intro ps acc rs h g; cases g; exact h
 | cons p r ih =>
  intro ps acc rs h g
  cases g with
  | @cons _ q _ r' hq hr =>
   obtain ⟨e1, e2⟩ := hq
   rw [List.foldl_cons, List.foldl_cons]
   refine ih ?_ hr
   rw [← e1]
   exact h.put p.1 e2
theorem pairs_ex {P : Program} {w : World} {h : Heap} : ∀ {kvs : List (Key × V)} {ts : List Addr}, ts.length = kvs.length → (∀ (j : Nat) t kv, ts[j]? = some t → kvs[j]? = some kv → ∃ key v o m, (mixKind P w).is kv.1 key = true ∧ RelV kv.2 v ∧ h.get? t = some o ∧ o.cls = .type "tuple" ∧ o.data = .seq #[key, v] m) →
  ∃ rs : List (Key × Value), KV kvs rs ∧ ∀ (j : Nat) t, ts[j]? = some t → ∃ key k v o m, rs[j]? = some (k, v) ∧ (mixKind P w).is k key = true ∧ h.get? t = some o ∧ o.cls = .type "tuple" ∧ o.data = .seq #[key, v] m
 | [], ts, hl, _ => by
  have : ts = [] := List.length_eq_zero_iff.mp hl
  subst this
  exact ⟨[], .nil, fun j t h => by simp at h⟩
 | kv :: r, [], hl, _ => by simp at hl
 | kv :: r, t :: ts, hl, hp => by
  obtain ⟨key, v, o, m, q1, q2, q3, q4, q5⟩ := hp 0 t kv rfl rfl
  obtain ⟨rs, hk, hr⟩ := pairs_ex (kvs := r) (ts := ts) (by simpa using hl) fun j t kv h1 h2 => hp (j + 1) t kv (by simpa using h1) (by simpa using h2)
  refine ⟨(kv.1, v) :: rs, .cons ⟨rfl, q2⟩ hk, fun j t' ht => ?_⟩
  cases j with
  | zero =>
   cases ht
   exact ⟨key, kv.1, v, o, m, rfl, q1, q3, q4, q5⟩
  | succ j =>
   obtain ⟨key, k, v, o, m, e, z⟩ := hr j t' (by simpa using ht)
   exact ⟨key, k, v, o, m, by simpa using e, z⟩
theorem call_dict_list (hc : X.calm = true) : CallR X (.type "dict") (fun xs H Q => ∃ (a : Addr) (ts : List Addr) (kvs : List (Key × V)), xs = [.ref a] ∧ H a = some (.lst (ts.map V.ref)) ∧ ts.length = kvs.length ∧ ts.length < sizeLine ∧ (∀ (j : Nat) t kv, ts[j]? = some t → kvs[j]? = some kv → H t = some (.tup [kV kv.1, kv.2])) ∧
  ∀ d, H d = none → Q (.ref d) (upd H d (.dK (kvs.foldl (fun a p => putK a p.1 p.2) [])))) := by
 intro pins s σ H xs us Q I r h
 obtain ⟨a, ts, kvs, rfl, hH, hl, hz, ht, q⟩ := h
 obtain ⟨u, rfl, ru⟩ := vals1 r
 cases (show u = Value.ref a from ru)
 obtain ⟨z, its, n, rv, e⟩ := (show ObjOk X.prog X.w H s.heap a (.lst (ts.map V.ref)) from I.hok a _ hH)
 have hil := rv.length
 rw [List.length_map] at hil
 have its_at : ∀ (j : Nat) t, ts[j]? = some t → its[j]? = some (.ref t) := fun j t hj => by
  obtain ⟨u, hu, ru⟩ := rv.get (i := j) (x := .ref t) (by rw [List.getElem?_map, hj]; rfl)
  cases (show u = Value.ref t from ru)
  exact hu
 have pair : ∀ (j : Nat) t kv, ts[j]? = some t → kvs[j]? = some kv → ∃ key v o m, (mixKind X.prog X.w).is kv.1 key = true ∧ RelV kv.2 v ∧ s.heap.get? t = some o ∧ o.cls = .type "tuple" ∧ o.data = .seq #[key, v] m := fun j t kv h1 h2 => by
  obtain ⟨z2, its2, rv2, o, eo, co, m, dm⟩ := (show ObjOk X.prog X.w H s.heap t (.tup [kV kv.1, kv.2]) from I.hok t _ (ht j t kv h1 h2))
  obtain ⟨key, v, e3, r1, r2⟩ := rv2.two
  refine ⟨key, v, o, m, kV_is r1, r2, eo, co, ?_⟩
  rw [dm, e3]
 obtain ⟨rs, hk, hr⟩ := pairs_ex hl pair
 have hkl := hk.length
 have hP : PairsAt (mixKind X.prog X.w) s.heap its rs := by
  refine ⟨by omega, fun j it hj => ?_⟩
  have hjl : j < ts.length := by have := (List.getElem?_eq_some_iff.mp hj).1; omega
  have htj : ts[j]? = some ts[j] := List.getElem?_eq_getElem hjl
  have e2 := its_at j _ htj
  rw [hj] at e2
  obtain ⟨key, k, v, o, m, q1, q2, q3, q4, q5⟩ := hr j _ htj
  exact ⟨ts[j], key, k, v, o, m, Option.some.inj e2, q1, q2, q3, q4, q5⟩
 refine call_dict_pairs (knd := mixKind X.prog X.w) e rfl rfl rfl hP (by omega) (I.ok.hd hc) fun h' tk kp D => ?_
 have hlen : ∀ (l : List (Key × V)) (a : List (Key × V)), (l.foldl (fun a p => putK a p.1 p.2) a).length ≤ a.length + l.length := by
  intro l
  induction l with
  | nil => intro a; exact Nat.le_refl _
  | cons p r ih =>
   intro a
   rw [List.foldl_cons, List.length_cons]
   have h1 := ih (putK a p.1 p.2)
   have h2 := length_putK a p.1 p.2
   omega
 have hb := I.big
 refine ⟨.ref s.heap.objs.size, _, I.laid (t' := tk) kp (Nat.le_refl _) (show ObjOk X.prog X.w _ h' _ (.dK (kvs.foldl (fun a p => putK a p.1 p.2) [])) from ⟨?_, ?_, _, fold_stored (kvs := kvs) (ps := []) (acc := []) .nil hk, D⟩), rfl, q _ (I.hok.fresh (Nat.le_refl _))⟩
 ·have := hlen kvs []
  rw [List.length_nil] at this
  omega
 ·exact beq_eq_false_iff_ne.mpr (Nat.ne_of_gt hb)
end
end L2
namespace L2
open PySem PySem.Spec PyProof.Rows
section
variable {X : Cx} {pins : List (Addr × Obj)} {σ : St} {H : Hp} {s : Shared} {h' : Heap}
theorem Inv.turnedL {t' : Nat} {ch : List Addr} (I : Inv X pins σ H s) (hf : ∀ b ∈ ch, FpOk X pins H b) (k : ∀ b o, b ∉ ch → s.heap.get? b = some o → h'.get? b = some o) : Inv X pins σ H { s with heap := h', toks := t' } := by
 have nit : ∀ b u, H b = some u → b ∉ ch := fun b u e z => by rw [(hf b z).1] at e; cases e
 refine I.step (g' := s.gens) (d' := s.drawn) (ch := ch) (fun b hb => ?_) (fun b o _ _ hc e _ => k b o hc e) (fun b o _ _ hc e _ => ⟨o.slots, k b o hc e⟩) (fun _ _ _ _ n => n)
  (fun b o hc e => ⟨o, k b o hc e⟩) (fun _ _ e => e) (fun _ _ _ e => e) (fun b ps e => ⟨#[], by rw [e]; simp⟩) (fun m hm => ?_) (fun b u e => ?_) I.bare
 ·obtain ⟨f0, f1, f2, f3, f4, f5⟩ := hf b hb
  exact ⟨f3, f1, f4, f5⟩
 ·obtain ⟨o, es, ep, ho, r⟩ := hm
  exact ⟨o, es, ep, k _ o (fun z => (hf _ z).2.1 rfl) ho, r⟩
 ·refine (I.hok b u e).stay (fun c v hc q => k c v ?_ q) (fun _ q => q) fun _ _ q => q
  rcases hc with z | z
  ·rw [z]; exact nit b u e
  ·exact nit c _ z
noncomputable def Itz (K : PySem.W.Frag) (a b : Addr) : It :=
  ⟨fun i H => ∃ xs ys x y, SqL K H a xs ∧ SqL K H b ys ∧ xs[i]? = some x ∧ ys[i]? = some y,
   fun i H v H' => ∃ T x y, H T = none ∧ v = .ref T ∧ H' = upd H T (.tup [x, y]) ∧ (∀ xs, SqL K H a xs → xs[i]? = some x) ∧ ∀ ys, SqL K H b ys → ys[i]? = some y,
   fun i H => ∃ xs ys, SqL K H a xs ∧ SqL K H b ys ∧ (xs.length ≤ i ∨ ys.length ≤ i)⟩
noncomputable def ZipTn (m a b : Addr) (i : Nat) (h : Heap) : Prop :=
 IsZip h (m + 4) (m + 2) (m + 3) .none ∧ IsPair h (m + 2) (.ref m) (.ref (m + 1)) ∧ (∃ x y, IsPair h (m + 3) x y) ∧ h.IsListIter m a i ∧ h.IsListIter (m + 1) b i
theorem zip_apart {h : Heap} {m a b : Addr} {i : Nat} {xs ys : Array Value} (z : ZipTn m a b i h) (ha : h.IsList a xs) (hb : h.IsList b ys) : ZipApart (m + 4) (m + 2) (m + 3) m (m + 1) a b := by
  obtain ⟨z1, z2, ⟨x, y, z3⟩, ⟨o4, e4, c4, _⟩, ⟨o5, e5, c5, _⟩⟩ := z
  have cls : ∀ {l : Addr} {vs : Array Value} {c : Addr} {o : Obj}, h.IsList l vs → h.get? c = some o → o.cls ≠ .type "list" → l ≠ c := fun hl hc hn e => by
    obtain ⟨ol, hol, hcl, _⟩ := hl
    rw [e, hc] at hol
    cases hol
    exact hn hcl
  exact { TIz := by simp, TOz := by simp, i1z := by simp, i2z := by simp, TITO := by simp, TIi1 := by simp, TIi2 := by simp, TOi1 := by simp, TOi2 := by simp, i12 := by simp
          l1z := cls ha z1 (by show Value.type "zip" ≠ Value.type "list"; decide), l1TO := cls ha z3 (by show Value.type "tuple" ≠ Value.type "list"; decide), l1i1 := cls ha e4 (by rw [c4]; decide), l1i2 := cls ha e5 (by rw [c5]; decide)
          l2z := cls hb z1 (by show Value.type "zip" ≠ Value.type "list"; decide), l2TO := cls hb z3 (by show Value.type "tuple" ≠ Value.type "list"; decide), l2i1 := cls hb e4 (by rw [c4]; decide), l2i2 := cls hb e5 (by rw [c5]; decide) }
theorem turn_zip {P : Program} {w : World} {K : PySem.W.Frag} {elts : List Expr} {k : Nat} {tp : Pos} (m a b : Addr) : Turn P w K (.Tuple elts k tp) (Itz K a b) [m, m + 1, m + 2, m + 3, m + 4] (m + 4) (ZipTn m a b) where
 mem := by simp
 obj := fun i h st c hc => by
  obtain ⟨z1, z2, ⟨x, y, z3⟩, ⟨o4, e4, c4, d4⟩, ⟨o5, e5, c5, d5⟩⟩ := st
  simp only [List.mem_cons, List.not_mem_nil, or_false] at hc
  rcases hc with rfl | rfl | rfl | rfl | rfl
  ·exact ⟨_, e4, fun v z => by rw [d4] at z; cases z⟩
  ·exact ⟨_, e5, fun v z => by rw [d5] at z; cases z⟩
  ·exact ⟨_, z2, fun v z => by cases z⟩
  ·exact ⟨_, z3, fun v z => by cases z⟩
  ·exact ⟨_, z1, fun v z => by cases z⟩
 keep := fun i h h' st kp => by
  obtain ⟨z1, z2, ⟨x, y, z3⟩, ⟨o4, e4, r4⟩, ⟨o5, e5, r5⟩⟩ := st
  exact ⟨kp _ (by simp) _ z1, kp _ (by simp) _ z2, ⟨x, y, kp _ (by simp) _ z3⟩, ⟨o4, kp _ (by simp) _ e4, r4⟩, ⟨o5, kp _ (by simp) _ e5, r5⟩⟩
 item := by
  intro X hP hw hK hc i pins s σ H E I hf st hg
  subst hP hw hK
  obtain ⟨xs, ys, x, y, hxs, hys, hx, hy⟩ := hg
  obtain ⟨its1, rv1, p1, hz1⟩ := I.list hxs
  obtain ⟨its2, rv2, p2, hz2⟩ := I.list hys
  obtain ⟨u1, hu1, ru1⟩ := rv1.get hx
  obtain ⟨u2, hu2, ru2⟩ := rv2.get hy
  have D := zip_apart st p1.isList p2.isList
  obtain ⟨z1, z2, ⟨x0, y0, z3⟩, z4, z5⟩ := id st
  refine wpAny_pyNext_zip_item D z1 z2 z3 z4 z5 p1.isList p2.isList (x := u1) (y := u2) (by simpa using hu1) (by simpa using hu2) fun h' a1 a2 a3 a4 a5 a6 kp => ?_
  have hT : H s.heap.objs.size = none := I.hok.fresh (Nat.le_refl _)
  have nT : ∀ c ∈ [m, m + 1, m + 2, m + 3, m + 4], c ≠ s.heap.objs.size := fun c hc' => by
   have : ∃ o, s.heap.get? c = some o := by
    obtain ⟨o4, e4, _⟩ := z4
    obtain ⟨o5, e5, _⟩ := z5
    simp only [List.mem_cons, List.not_mem_nil, or_false] at hc'
    rcases hc' with rfl | rfl | rfl | rfl | rfl
    ·exact ⟨_, e4⟩
    ·exact ⟨_, e5⟩
    ·exact ⟨_, z2⟩
    ·exact ⟨_, z3⟩
    ·exact ⟨_, z1⟩
   obtain ⟨o, e⟩ := this
   exact Nat.ne_of_lt (Heap.lt_size e)
  have I1 : Inv X pins σ (upd H s.heap.objs.size (.tup [x, y])) { s with heap := s.heap.push { cls := .type "tuple", data := .seq #[u1, u2] } } :=
   I.laid (t' := s.toks) (fun b o e => Heap.get?_push_of_some _ e) (Nat.le_refl _) (show ObjOk X.prog X.w _ _ _ (.tup [x, y]) from ⟨(by show 2 ≤ sizeLine; decide), [u1, u2], .cons ru1 (.cons ru2 .nil), ⟨_, Heap.get?_push_size _ rfl, rfl, _, rfl⟩⟩)
  have f1 : ∀ c ∈ [m, m + 1, m + 2, m + 3, m + 4], FpOk X pins (upd H s.heap.objs.size (.tup [x, y])) c := fun c hc' => ⟨by rw [upd_ne (nT c hc')]; exact (hf c hc').1, (hf c hc').2⟩
  have kp2 : ∀ c o, c ∉ [m, m + 1, m + 2, m + 3, m + 4] → (s.heap.push { cls := .type "tuple", data := .seq #[u1, u2] }).get? c = some o → h'.get? c = some o := fun c o hc' e => by
   rcases Heap.get?_push_cases e with ⟨ec, eo⟩ | e'
   ·rw [ec, eo]
    exact a5
   ·simp only [List.mem_cons, List.not_mem_nil, or_false, not_or] at hc'
    exact kp c o hc'.2.2.2.2 hc'.2.2.2.1 hc'.1 hc'.2.1 e'
  have I2 := Inv.turnedL (h' := h') (t' := s.toks) I1 f1 kp2
  refine ⟨_, rfl, wpAny_letOwnedTupleGo_zip (s := { s with heap := h' }) a1 fun h2 b1 sb => ?_⟩
  have z2' : IsPair h' (m + 2) (.ref m) (.ref (m + 1)) := kp _ _ (by simp) (by simp) (by simp) (by simp) z2
  have kp3 : ∀ c o, c ∉ [m + 4] → h'.get? c = some o → h2.get? c = some o := fun c o hc' e => (sb.2 c (by simpa using hc')).trans e
  have I3 := Inv.turnedL (h' := h2) (t' := s.toks) I2 (ch := [m + 4]) (fun c hc' => f1 c (by simp at hc'; simp [hc'])) kp3
  refine ⟨.ref s.heap.objs.size, _, I3, rfl, ⟨_, x, y, hT, rfl, rfl, fun zs hz => by rw [I.list_inj hz hxs]; exact hx, fun zs hz => by rw [I.list_inj hz hys]; exact hy⟩, ?_, fun c hc' => (f1 c hc').1⟩
  have sx : ∀ c o, c ≠ m + 4 → h'.get? c = some o → h2.get? c = some o := fun c o hc' e => (sb.2 c hc').trans e
  obtain ⟨o3, e3, r3⟩ := a3
  obtain ⟨o4, e4, r4⟩ := a4
  exact ⟨b1, sx _ _ (by simp) z2', ⟨u1, u2, sx _ _ (by simp) a2⟩, ⟨o3, sx _ _ (by simp) e3, r3⟩, ⟨o4, sx _ _ (by simp) e4, r4⟩⟩
 done := by
  intro X hP hw hK hc i pins s σ H E I hf st hg
  subst hP hw hK
  obtain ⟨xs, ys, hxs, hys, hend⟩ := hg
  obtain ⟨its1, rv1, p1, hz1⟩ := I.list hxs
  obtain ⟨its2, rv2, p2, hz2⟩ := I.list hys
  have l1 := rv1.length
  have l2 := rv2.length
  have D := zip_apart st p1.isList p2.isList
  obtain ⟨z1, z2, ⟨x0, y0, z3⟩, z4, z5⟩ := id st
  refine wpAny_pyNext_zip_end (I.ok.hd hc) D z1 z2 z3 z4 z5 p1.isList p2.isList ?_ fun h' kp => ⟨rfl, I.turnedL (t' := s.toks) (ch := [m, m + 1, m + 2, m + 3, m + 4]) hf fun c o hc' e => ?_⟩
  ·rcases hend with h | h
   ·exact .inl (by simp; omega)
   ·exact .inr (by simp; omega)
  ·simp only [List.mem_cons, List.not_mem_nil, or_false, not_or] at hc'
   exact kp c o hc'.2.2.2.2 hc'.2.2.2.1 hc'.1 hc'.2.1 e
 self := fun _ _ _ _ _ st h => wpAny_pyIter_zip st.1 h
end
section
variable {X : Cx}
noncomputable def iZip (K : PySem.W.Frag) (ta : TA) : TI := fun σ H R => ta σ H fun vs H1 => ∃ a b, vs = [.ref a, .ref b] ∧ (∃ xs, SqL K H1 a xs) ∧ (∃ ys, SqL K H1 b ys) ∧ R (Itz K a b) H1
theorem pi_zip {elts : List Expr} {k : Nat} {tp : Pos} {a b : Expr} {ta : TA} {p pos : Pos} (hg : Gl X "zip") (hm : X.mg "zip" = none) (ha : PA X [a, b] ta) (hs : starEach [a, b] X.env = [(false, eval a X.env), (false, eval b X.env)] := by rfl) (hs2 : starEach [b] X.env = [(false, eval b X.env)] := by rfl) :
  PI X (.Tuple elts k tp) (.Call (.Name "zip" p) [a, b] [] pos) (iZip X.K ta) := by
 intro pins s σ H R I h
 refine Call_ (ld_blt I hg hm boot_zip (PyProof.Rows.callWith_type1 (thn (ha pos pins s σ H _ I h) fun us s1 ⟨vs, H1, I1, r1, q1⟩ => ?_) (by rw [hs, hs2]) (by rw [hs2]; rfl)))
 obtain ⟨x, y, e, ⟨xs, hx⟩, ⟨ys, hy⟩, q⟩ := q1
 subst e
 obtain ⟨u, v, rfl, ru, rv⟩ := r1.two
 cases (show u = Value.ref x from ru)
 cases (show v = Value.ref y from rv)
 obtain ⟨its1, rv1, p1, hz1⟩ := I1.list hx
 obtain ⟨its2, rv2, p2, hz2⟩ := I1.list hy
 refine call_zip_2 p1.isList p2.isList fun h' a1 a2 a3 a4 a5 a6 kp => ?_
 refine wpAny_pyIter_zip (s := { s1 with heap := h' }) a1 ?_
 refine ⟨s1.heap.objs.size + 4, [s1.heap.objs.size, s1.heap.objs.size + 1, s1.heap.objs.size + 2, s1.heap.objs.size + 3, s1.heap.objs.size + 4], _, _, H1, rfl, I1.kept (t' := s1.toks) kp, turn_zip s1.heap.objs.size x y, ⟨a1, a2, ⟨_, _, a3⟩, a4, a5⟩, fun b hb => ?_, q⟩
 have hle : s1.heap.objs.size ≤ b := by
  simp only [List.mem_cons, List.not_mem_nil, or_false] at hb
  rcases hb with rfl | rfl | rfl | rfl | rfl <;> omega
 exact I1.fpOk hle (I1.hok.fresh hle)
end
end L2
namespace L2
open PySem PySem.Spec PyProof.Rows
structure Clause (e : Expr) (d : Nat) (tg iter : Expr) (ifs : List Expr) (acc : Value) (env : Env) (inner : Sem Unit) : Prop where
 at' : (clausesOf e)[d]? = some ⟨tg, iter, ifs, 0⟩
 quiet : ∀ it, (Code.compLoop e d it acc env).quiet = true
 den : ∀ (prog : Program) (w : World) it, (model prog w).den (.compLoop e d it acc env) = (compTurn e d it acc env).onRaise (fun x => do noteFrame x env; theTreesLotGoes x)
 und : ∀ (A : Around) it, A.under (.compLoop e d it acc env) = A
 denS : ∀ (prog : Program) (w : World) it, (model prog w).den (.compStart e d it acc env) = (compStart e d it acc env).onRaise (fun x => do noteFrame x env; standAt theWindowsPlace)
 undS : ∀ (A : Around) it, A.under (.compStart e d it acc env) = A
 turn : ∀ it, compTurn e d it acc env = (do
   standAt iter.pos
   match ← pyNext it with
   | none => pure (.done .next)
   | some v =>
    letOwnedTupleGo tg it v
    assign tg env v
    let mut ok := true
    for c in ifs do
     if ok then ok ← isTrue c env (eval c env)
    if ok then
     inner
    again (.compLoop e d it acc env))
section
variable {prog : Program} {w : World} {A : Around} {R : Result → Shared → Prop} {s : Shared}
theorem codeAny_compLoop_any {e : Expr} {d : Nat} {tg iter : Expr} {ifs : List Expr} {it acc : Value} {env : Env} {inner : Sem Unit} (C : Clause e d tg iter ifs acc env inner) (I : Nat → Shared → Prop)
  (turn : ∀ n s, I n s → wpAny (model prog w) A (pyNext it) (fun r s₁ => match r with
   | none => R (.ok .next) s₁
   | some v => wpAny (model prog w) A (letOwnedTupleGo tg it v) (fun _ s₁' => wpAny (model prog w) A (assign tg env v) (fun _ s₂ =>
     wpAny (model prog w) A (forIn ifs true fun c r => if r = true then do let ok ← isTrue c env (eval c env); pure (ForInStep.yield ok) else pure (ForInStep.yield r)) (fun ok s₃ =>
      if ok = true then wpAny (model prog w) A inner (fun _ s₄ => ∃ m, m < n ∧ I m s₄) (notedBy (model prog w) A env fun e s' => R (.error e) s') s₃
      else ∃ m, m < n ∧ I m s₃) (notedBy (model prog w) A env fun e s' => R (.error e) s') s₂) (notedBy (model prog w) A env fun e s' => R (.error e) s') s₁') (notedBy (model prog w) A env fun e s' => R (.error e) s') s₁) (notedBy (model prog w) A env fun e s' => R (.error e) s') s)
  (n : Nat) (h : I n s) :
  codeAny (model prog w) A (.compLoop e d it acc env) R s := by
 refine codeAny_loop (C.quiet it) I (fun n s hI => ?_) n h
 rw [C.und, C.den]
 refine wpAny_noted ?_
 rw [C.turn]
 refine wpAny_bind (wpAny_standAt (wpAny_bind (wpAny_mono (turn n s hI) (fun r s₁ h₁ => ?_) fun _ _ h' => h')))
 cases r with
 | none => exact wpAny_pure h₁
 | some v =>
  refine wpAny_bind (wpAny_mono h₁ (fun _ s₁' h₁' => ?_) fun _ _ h' => h')
  refine wpAny_bind (wpAny_mono h₁' (fun _ s₂ h₂ => wpAny_bind (wpAny_mono h₂ (fun ok s₃ h₃ => ?_) fun _ _ h' => h')) fun _ _ h' => h')
  cases ok with
  | false => exact wpAny_pure ⟨rfl, h₃⟩
  | true => exact wpAny_bind (wpAny_mono h₃ (fun _ s₄ h₄ => wpAny_pure ⟨rfl, h₄⟩) fun _ _ h' => h')
theorem codeAny_compStart_any {e : Expr} {d : Nat} {tg iter : Expr} {ifs : List Expr} {it acc : Value} {env : Env} {inner : Sem Unit} (C : Clause e d tg iter ifs acc env inner)
  (h0 : codeAny (model prog w) A (.compLoop e d it acc env) R s)
  (h : wpAny (model prog w) A (pyIter it) (fun it' s' => codeAny (model prog w) A (.compLoop e d it' acc env) R s') (notedBy (model prog w) A env fun x s' => R (.error x) s') s) :
  codeAny (model prog w) A (.compStart e d it acc env) R s := by
 refine codeAny_of_tree ?_
 rw [C.undS, C.denS]
 refine wpAny_notedAt ?_
 unfold compStart
 rw [C.at']
 show wpAny _ _ (ask >>= _) _ _ s
 refine wpAny_bind (wpAny_askSetting (wpAny_ite ?_))
 split
 ·first
   | exact wpAny_bind (wpAny_pure (wpAny_pure (And.intro (C.quiet _) h0)))
   | exact wpAny_pure (And.intro (C.quiet _) h0)
 ·first
   | exact wpAny_bind (wpAny_rule (wpAny_bind (wpAny_standAt (wpAny_bind (wpAny_mono h (fun it' s' h' => wpAny_pure (And.intro (C.quiet _) h')) fun _ _ x => x)))))
   | (refine wpAny_bind (wpAny_rule ?_); show wpAny _ _ (standAt iter.pos >>= _) _ _ s; exact wpAny_bind (wpAny_standAt (wpAny_bind (wpAny_mono h (fun it' s' h' => wpAny_pure (And.intro (C.quiet _) h')) fun _ _ x => x))))
end
structure Ein (X : Cx) (m : Sem Unit) (σ : St) (H : Hp) (Q : St → Hp → Prop) : Prop where
 run : ∀ (pins : List (Addr × Obj)) (s : Shared), Inv X pins σ H s → wpAny (model X.prog X.w) X.A m (fun _ s' => ∃ σ' H', Inv X pins σ' H' s' ∧ Q σ' H') X.xe s
noncomputable def ClauseL (X : Cx) (tg : Expr) (ifs : List Expr) (inner : Sem Unit) (J : It) (after : St → Hp → Prop) (σ : St) (H : Hp) : Prop :=
 ∃ W : Nat → Nat → St → Hp → Prop, (∃ m, W 0 m σ H) ∧ ∀ i m σ' H', W i m σ' H' →
  (J.stop i H' ∧ after σ' H') ∨ (J.go i H' ∧ ∃ N : St → Hp → Prop, (∀ σ' H', N σ' H' → ∃ m', m' < m ∧ W (i + 1) m' σ' H') ∧ ∀ x H2, J.yld i H' x H2 → Eg X tg x σ' H2 fun σ2 H3 => Ei X ifs σ2 H3 fun b H4 =>
   if b = true then Ein X inner σ2 H4 N else N σ2 H4)
theorem clause_loop {X : Cx} (hxe : X.xe = fun _ _ => False) (hc : X.calm = true) {e : Expr} {d : Nat} {tg iter : Expr} {ifs : List Expr} {acc : Value} {inner : Sem Unit} (C : Clause e d tg iter ifs acc X.env inner) {pins : List (Addr × Obj)} {σ : St} {H : Hp} {s : Shared}
  {it : Addr} {fp : List Addr} {tn : Nat → Heap → Prop} {J : It} {after : St → Hp → Prop} {R : Result → Shared → Prop} (I : Inv X pins σ H s) (T : Turn X.prog X.w X.K tg J fp it tn) (st : tn 0 s.heap) (hf : ∀ b ∈ fp, FpOk X pins H b) (h : ClauseL X tg ifs inner J after σ H)
  (hR : ∀ σ' H' s', Inv X pins σ' H' s' → after σ' H' → R (.ok .next) s') :
  codeAny (model X.prog X.w) X.A (.compStart e d (.ref it) acc X.env) R s := by
 obtain ⟨W, ⟨m0, w0⟩, turn⟩ := h
 have stat : ∀ {H' : Hp}, (∀ b ∈ fp, H' b = none) → ∀ b ∈ fp, FpOk X pins H' b := fun hn b hb => ⟨hn b hb, (hf b hb).2⟩
 have loop : codeAny (model X.prog X.w) X.A (.compLoop e d (.ref it) acc X.env) R s := by
  refine codeAny_compLoop_any C (fun k s' => ∃ i σ' H', Inv X pins σ' H' s' ∧ tn i s'.heap ∧ (∀ b ∈ fp, H' b = none) ∧ W i k σ' H') ?_ m0 ⟨0, σ, H, I, st, fun b hb => (hf b hb).1, w0⟩
  rintro k s4 ⟨i, σ4, H4, J4, st4, fr4, w4⟩
  rcases turn i k σ4 H4 w4 with ⟨stop, qn⟩ | ⟨go, N, hN, step⟩
  ·have d1 := T.done X rfl rfl rfl hc i pins s4 σ4 H4 (fun _ _ => False) J4 (stat fr4) st4 stop
   refine thnF d1 fun r s5 ⟨hr, I5⟩ => ?_
   subst hr
   exact hR _ _ _ I5 qn
  ·have d1 := T.item X rfl rfl rfl hc i pins s4 σ4 H4 (fun _ _ => False) J4 (stat fr4) st4 go
   refine thnF d1 fun r s5 ⟨u, hr, h5⟩ => ?_
   subst hr
   refine thnF h5 fun _ s6 ⟨x, H6, I6, r6, y6, st6, fr6⟩ => ?_
   have I6' := I6.pinned (stat fr6) (T.obj _ _ st6)
   have again : ∀ {σ7 : St} {H7 : Hp} {s7 : Shared}, Inv X (pins ++ pinsAt fp s6.heap) σ7 H7 s7 → N σ7 H7 → ∃ m, m < k ∧ ∃ i σ' H', Inv X pins σ' H' s7 ∧ tn i s7.heap ∧ (∀ b ∈ fp, H' b = none) ∧ W i m σ' H' := fun {σ7 H7 s7} I7 n7 => by
    obtain ⟨m', hm, w7⟩ := hN σ7 H7 n7
    refine ⟨m', hm, i + 1, σ7, H7, I7.unpinned, T.keep _ _ _ st6 fun b hb o e => (I7.pin (b, o) (List.mem_append_right _ (List.mem_append_right _ (mem_pinsAt hb e)))).1, fun b hb => ?_, w7⟩
    obtain ⟨o, e, d⟩ := T.obj _ _ st6 b hb
    exact (I7.pin (b, o) (List.mem_append_right _ (List.mem_append_right _ (mem_pinsAt hb e)))).2.1
   have a1 := (step x H6 y6).run _ s6 u I6' r6
   rw [hxe] at a1
   refine thnF a1 fun _ s7 ⟨σ7, H7, I7, q7⟩ => ?_
   have a2 := q7.run _ s7 I7
   rw [hxe] at a2
   refine thnF a2 fun ok s8 ⟨H8, I8, q8⟩ => ?_
   cases ok with
   | false =>
    rw [if_neg Bool.false_ne_true] at q8 ⊢
    exact again I8 q8
   | true =>
    rw [if_pos rfl] at q8 ⊢
    have a3 := q8.run _ s8 I8
    rw [hxe] at a3
    exact thnF a3 fun _ s9 ⟨σ9, H9, I9, q9⟩ => again I9 q9
 exact codeAny_compStart_any C loop (T.self _ 0 _ _ _ st loop)
end L2
namespace L2
open PySem PySem.Spec PyProof.Rows
theorem comp_core_any {X : Cx} {e : Expr} {tg iter : Expr} {ifs : List Expr} {scope : Scope} {N' : List Str} {newAcc : Sem Value} {o0 : Obj} {u0 : Addr → HO} {n : Nat} {inner : Value → Env → Sem Unit} {pins : List (Addr × Obj)} {σ : St} {H2 : Hp} {s2 : Shared} {E : Value → Shared → Prop} {RR : Value → Addr → Result → Shared → Prop} {it : Addr} {fp : List Addr} {tn : Nat → Heap → Prop} {J : It} {Q : VK}
  (hnew : ∀ (Q : Value → Shared → Prop) (E : Value → Shared → Prop) (s : Shared), Q (.ref s.heap.objs.size) { s with heap := s.heap.push o0 } → wpAny (model X.prog X.w) X.A newAcc Q E s) (hobj : ∀ (H : Hp) (h : Heap), sysModules < h.objs.size → ObjOk X.prog X.w H (h.push o0) h.objs.size (u0 h.objs.size))
  (hc : X.calm = true) (ck : CompOk X.env.scope scope X.N N') (hl : N'.length = X.N.length + n) (hC : ∀ acc env, Clause e 0 tg iter ifs acc env (inner acc env))
  (I2 : Inv X pins σ H2 s2) (T : Turn X.prog X.w X.K tg J fp it tn) (st2 : tn 0 s2.heap) (f2 : ∀ b ∈ fp, FpOk X pins H2 b)
  (q : ∀ D, H2 D = none → ∀ cl C s₀ H₀ ex, ClauseL (cxComp X N' scope cl C s₀ H₀ ex) tg ifs (inner (.ref D) (compEnvC scope cl C X.env)) J (fun _ H' => Q (.ref D) H') (σ ++ List.replicate n none) (upd H2 D (u0 D)))
  (hRR : ∀ D C H' s' m, Inv X pins σ H' s' → s'.heap.Ns C m → H' C = none → C ≠ X.env.locals → X.s₀.heap.objs.size ≤ C → (∀ x c, X.env.cells.lookup x = some c → c ≠ C) → (∀ p ∈ X.pn ++ pins, p.1 ≠ C) → Q (.ref D) H' → RR (.ref D) C (.ok .next) s') :
  wpAny (model X.prog X.w) X.A newAcc (fun acc s₃ => wpAny (model X.prog X.w) X.A (newFunctionEnv scope X.env.globals (closeL scope.names X.env.cells []) [] X.env.qual none .none (some X.env)) (fun cenv s₄ =>
   codeAny (model X.prog X.w) X.A (.compStart e 0 (.ref it) acc { cenv with scope := relabel scope X.env }) (RR acc cenv.locals) s₄) E s₃) E s2 := by
 refine hnew _ _ _ (wpAny_newFunctionEnv ck.cell (by intro y hy; simp at hy) (fun h₁ hns₁ hsb₁ => ?_) ck.kind)
 have hD : H2 s2.heap.objs.size = none := I2.hok.fresh (Nat.le_refl _)
 have q0 := q s2.heap.objs.size hD (closeL scope.names X.env.cells [])
 have fl : ∀ b ∈ fp, b < s2.heap.objs.size := fun b hb => by
  obtain ⟨o, e, _⟩ := T.obj 0 _ st2 b hb
  exact Heap.lt_size e
 have I3 : Inv X pins σ (upd H2 s2.heap.objs.size (u0 s2.heap.objs.size)) { s2 with heap := s2.heap.push o0 } :=
  I2.laid (t' := s2.toks) (fun b o e => Heap.get?_push_of_some _ e) (Nat.le_refl _) (hobj _ _ I2.big)
 generalize hs3 : ({ s2 with heap := s2.heap.push o0 } : Shared) = s3 at I3 hns₁ hsb₁ ⊢
 have hz3 : s3.heap.objs.size = s2.heap.objs.size + 1 := by rw [← hs3]; exact Heap.size_push ..
 have old2 : ∀ b o, s2.heap.get? b = some o → s3.heap.get? b = some o := fun b o e => by rw [← hs3]; exact Heap.get?_push_of_some _ e
 have old : ∀ b o, s3.heap.get? b = some o → h₁.get? b = some o := fun b o e =>
  hsb₁.extBut b o (Nat.ne_of_lt (Heap.lt_size e)) (Heap.get?_push_of_some _ e)
 have f3 : ∀ b ∈ fp, FpOk X pins (upd H2 s2.heap.objs.size (u0 s2.heap.objs.size)) b ∧ b < s3.heap.objs.size := fun b hb => by
  refine ⟨⟨?_, (f2 b hb).2⟩, by rw [hz3]; exact Nat.lt_succ_of_lt (fl b hb)⟩
  rw [upd_ne (Nat.ne_of_lt (fl b hb))]
  exact (f2 b hb).1
 have I4 := fun (t' : Nat) => inv_comp (N' := N') (scope := scope) (n := n) (fp := fp) (h₁ := h₁) (t' := t') I3 ck hl hns₁ old f3
 generalize hX : cxComp X N' scope (closeL scope.names X.env.cells []) s3.heap.objs.size s3 (upd H2 s2.heap.objs.size (u0 s2.heap.objs.size)) fp = X' at I4
 have eP : X'.prog = X.prog := by rw [← hX]; rfl
 have ew : X'.w = X.w := by rw [← hX]; rfl
 have eK : X'.K = X.K := by rw [← hX]; rfl
 have eA : X'.A = X.A := by rw [← hX]; rfl
 have eE : X'.env = compEnvC scope (closeL scope.names X.env.cells []) s3.heap.objs.size X.env := by rw [← hX]; rfl
 have ec : X'.calm = true := by rw [← hX]; exact hc
 have ex' : X'.xe = fun _ _ => False := by rw [← hX]; rfl
 have stat : ∀ {H' : Hp}, (∀ b ∈ fp, H' b = none) → ∀ b ∈ fp, FpOk X' [] H' b := fun hn b hb => by
  refine ⟨hn b hb, ?_, ?_, ?_, ?_, ?_⟩
  ·rw [eE]; exact Nat.ne_of_lt (f3 b hb).2
  ·rw [← hX]
   intro hf
   rcases List.mem_cons.mp (I3.stkSub b hf) with z | z
   ·exact (f3 b hb).1.2.1 z
   ·exact (f3 b hb).1.2.2.1 z
  ·rw [← hX]; exact .inl hb
  ·rw [eE]
   intro x c e
   exact (f3 b hb).1.2.2.2.2.1 x c (closeL_sub _ _ _ (fun _ _ z => by simp at z) x c (PySem.mem_of_lookup e))
  ·rw [← hX]; intro p hp; exact absurd hp (by simp [cxComp])
 have fin : ∀ {σ' : St} {H' : Hp} {s' : Shared}, Inv X' [] σ' H' s' → Q (.ref s2.heap.objs.size) H' → RR (.ref s2.heap.objs.size) s3.heap.objs.size (.ok .next) s' := fun {σ' H' s'} I' q' => by
  obtain ⟨m', hn', _⟩ := id I'.loc
  rw [eE] at hn'
  have hos : s'.os = s3.os := by have := I'.os; rw [← hX] at this; exact this
  have hun : Un (frs X.stack) fp (upd H2 s2.heap.objs.size (u0 s2.heap.objs.size)) H' s3.heap s'.heap := by have := I'.base; rw [← hX] at this; exact this
  have hok : HOk X.prog X.w H' s'.heap := by have := I'.hok; rw [eP, ew] at this; exact this
  have IX : Inv X pins σ H' s' := I3.call' (ch := fp) hos hun hok I'.bare fun b hb => ⟨(f3 b hb).1.2.2.2.1, (f3 b hb).1.2.1, (f3 b hb).1.2.2.2.2.1, (f3 b hb).1.2.2.2.2.2⟩
  have hfr := I'.free
  rw [eE] at hfr
  refine hRR _ _ H' s' m' IX hn' hfr (Nat.ne_of_gt I3.lt) I3.sz (fun x c e z => ?_) (fun p hp z => ?_) q'
  ·obtain ⟨v, o, ho, _⟩ := I3.cell x c e
   exact absurd (Heap.lt_size ho) (by rw [z]; exact Nat.lt_irrefl _)
  ·exact absurd (Heap.lt_size (I3.pin p hp).1) (by rw [z]; exact Nat.lt_irrefl _)
 have fs0 : ∀ b ∈ fp, FpOk X' [] (upd H2 s2.heap.objs.size (u0 s2.heap.objs.size)) b := stat fun b hb => (f3 b hb).1.1
 have q1 : ClauseL X' tg ifs (inner (.ref s2.heap.objs.size) X'.env) J (fun _ H' => Q (.ref s2.heap.objs.size) H') (σ ++ List.replicate n none) (upd H2 s2.heap.objs.size (u0 s2.heap.objs.size)) := by
  rw [eE, ← hX]
  exact q0 _ _ _ _
 have T' : Turn X'.prog X'.w X'.K tg J fp it tn := by rw [eP, ew, eK]; exact T
 have fin2 := clause_loop (s := { s3 with heap := h₁, toks := s3.toks }) ex' ec (hC (.ref s2.heap.objs.size) X'.env) (I4 s3.toks) T' (T.keep 0 _ _ st2 fun b _ o e => old b o (old2 b o e)) fs0 q1 (R := RR (.ref s2.heap.objs.size) s3.heap.objs.size) fun σ' H' s' I' a' => fin I' a'
 rw [eP, ew, eA, eE] at fin2
 exact fin2
end L2
namespace L2
open PySem PySem.Spec PyProof.Rows
noncomputable def next2 (elt t1 i1 : Expr) (f1 : List Expr) (t2 i2 : Expr) (f2 : List Expr) (scope : Scope) (pos : Pos) (acc : Value) (env : Env) : Sem Unit := do
 let x ← eval i2 env
 standAt i2.pos
 let x ← foldedSetIterable i2 env x
 let _ ← runOwn (.compStart (.ListComp elt [⟨t1, i1, f1, 0⟩, ⟨t2, i2, f2, 0⟩] scope pos) 1 (← holding [x] (pyIter x)) acc env) env
noncomputable def emit (elt : Expr) (acc : Value) (env : Env) : Sem Unit := do let _ ← call (.builtin "list.append") [acc, ← eval elt env]
section
variable {X : Cx} {elt t1 i1 t2 i2 : Expr} {f1 f2 : List Expr} {scope : Scope} {pos : Pos} {σ : St} {H : Hp} {acc : Value} {env : Env}
theorem clause0 : Clause (.ListComp elt [⟨t1, i1, f1, 0⟩, ⟨t2, i2, f2, 0⟩] scope pos) 0 t1 i1 f1 acc env (next2 elt t1 i1 f1 t2 i2 f2 scope pos acc env) := ⟨rfl, fun _ => rfl, fun _ _ _ => rfl, fun _ _ => rfl, fun _ _ _ => rfl, fun _ _ => rfl, fun it => by
 unfold next2
 simp only [bind_assoc, pure_bind]
 rfl⟩
theorem clause1 : Clause (.ListComp elt [⟨t1, i1, f1, 0⟩, ⟨t2, i2, f2, 0⟩] scope pos) 1 t2 i2 f2 acc env (emit elt acc env) := ⟨rfl, fun _ => rfl, fun _ _ _ => rfl, fun _ _ => rfl, fun _ _ _ => rfl, fun _ _ => rfl, fun _ => rfl⟩
theorem ein_emit {D : Addr} {Q : St → Hp → Prop} (h : Ev X elt σ H fun v H1 => ∃ ys, H1 D = some (.lst ys) ∧ ys.length < sizeLine ∧ Q σ (upd H1 D (.lst (ys ++ [v])))) : Ein X (emit elt (.ref D) X.env) σ H Q := by
 refine ⟨fun pins s I => ?_⟩
 unfold emit
 refine wpAny_bind (thn (h.run pins s I) fun v s1 ⟨x, H1, I1, r1, ys, hy, hz, q⟩ => ?_)
 refine wpAny_bind (thn (mt_append (X := X) _ s1 σ H1 (.ref D) [x] (.ref D) [v] (fun _ H' => Q σ H') I1 rfl (.cons r1 .nil) ⟨_, ys, x, rfl, rfl, hy, hz, q⟩) fun _ s2 ⟨_, H2, I2, _, q2⟩ => wpAny_pure ⟨σ, H2, I2, q2⟩)
theorem ein_next {wi : TI} {Q : St → Hp → Prop} (hxe : X.xe = fun _ _ => False) (hc : X.calm = true) (hi : PI X t2 i2 wi) (h : wi σ H fun J H1 => ClauseL X t2 f2 (emit elt acc X.env) J Q σ H1)
  (hs : ∀ x, foldedSetIterable i2 X.env x = pure x := by intro _; rfl) : Ein X (next2 elt t1 i1 f1 t2 i2 f2 scope pos acc X.env) σ H Q := by
 refine ⟨fun pins s I => ?_⟩
 unfold next2
 refine wpAny_bind (thn (hi pins s σ H _ I h) fun x s1 h1 => ?_)
 refine wpAny_bind (wpAny_standAt (wpAny_bind (wpAny_of_eq (hs x) (wpAny_bind (wpAny_holding (wpAny_mono h1 (fun itv s2 h2 => ?_) fun _ _ e => e))))))
 obtain ⟨it, fp, tn, J, H2, e, I2, T, st2, f2', q⟩ := h2
 subst e
 refine wpAny_bind (wpAny_runOwn (Q := fun _ s' => wpAny (model X.prog X.w) X.A (pure ()) (fun _ s' => ∃ σ' H', Inv X pins σ' H' s' ∧ Q σ' H') X.xe s') ?_)
 exact clause_loop hxe hc clause1 I2 T st2 f2' q fun σ' H' s' I' q' => wpAny_pure ⟨σ', H', I', q'⟩
theorem ev_comp2 {wi : TI} {Q : VK} (sc : Scope) (N N' : List Str) (n : Nat) (hi : PI X t1 i1 wi)
  (h : wi σ H fun J H1 => ∀ D, H1 D = none → ∀ cl C s₀ H₀ ex, ClauseL (cxComp X N' scope cl C s₀ H₀ ex) t1 f1 (next2 elt t1 i1 f1 t2 i2 f2 scope pos (.ref D) (compEnvC scope cl C X.env)) J (fun _ H' => Q (.ref D) H') (σ ++ List.replicate n none) (upd H1 D (.lst [])))
  (hc : X.calm = true := by rfl) (hsc : X.env.scope = sc := by rfl) (hN : X.N = N := by rfl) (hk : compOk sc scope N N' = true := by decide +kernel) (hl : N'.length = N.length + n := by rfl)
  (hs : ∀ x, foldedSetIterable i1 X.env x = pure x := by intro _; rfl) : Ev X (.ListComp elt [⟨t1, i1, f1, 0⟩, ⟨t2, i2, f2, 0⟩] scope pos) σ H Q := by
 refine ⟨fun pins s I => ?_⟩
 subst hsc hN
 have ck := CompOk.of hk
 rw [eval_ListComp]
 refine wpAny_comprehension_free (use := none) rfl hs (closure_eq fun x hx hf => I.ok.has x.1 (ck.free x hx hf)) ck.kind ck.names (thn (hi pins s σ H _ I h) fun v s1 h1 => thn h1 fun itv s2 h2 => ?_)
 obtain ⟨it, fp, tn, J, H2, e, I2, T, st2, f2', q⟩ := h2
 subst e
 refine comp_core_any (e := .ListComp elt [⟨t1, i1, f1, 0⟩, ⟨t2, i2, f2, 0⟩] scope pos) (newAcc := newList []) (o0 := { cls := .type "list", dict := none, data := .seq ([] : List Value).toArray }) (u0 := fun _ => .lst []) (fun _ _ _ h => wpAny_newObj_type h (by show (0 : Nat) ≤ sizeLine; exact Nat.zero_le _)) (fun _ _ _ => ⟨Nat.zero_le _, [], 0, .nil, Heap.get?_push_size _ rfl⟩) (Q := Q) (RR := fun acc C => compPost (model X.prog X.w) X.A X.xe none (EP X pins σ Q) acc C) hc ck hl (inner := next2 elt t1 i1 f1 t2 i2 f2 scope pos) (fun _ _ => clause0) I2 T st2 f2' q ?_
 intro D C H' s' m IX hn hC c1 c2 c3 c4 qq
 exact ⟨m, hn, fun h' hs' => ⟨.ref D, H', IX.turned (t' := s'.toks) (fun b o hb e => hs'.extBut b o hb e) hC (Ne.symm (Ne.symm c1)) (.inr c2) c3 c4, rfl, qq⟩⟩
end
end L2
namespace L2
open PySem PySem.Spec PyProof.Rows
section
variable {X : Cx} {pins : List (Addr × Obj)} {σ : St} {H : Hp} {s : Shared} {a : Addr} {y v : V} {u r : Value} {A : Around} {E : Value → Shared → Prop}
theorem d_dictSet {H' : Hp} {Q : Unit → Shared → Prop} (hu : A.units + 1 < cLine) (I : Inv X pins σ H s) (g : DPut H a y v H') (ry : RelV y u) (rv : RelV v r) (h : ∀ s', Inv X pins σ H' s' → Q () s') :
  wpAny (model X.prog X.w) A (dictSet a u r) Q E s := by
 rcases g with ⟨kvs, k, e, ey, l, eH⟩ | ⟨kvs, k, b, e, ey, eb, l, eH⟩
 ·subst ey eH
  obtain ⟨z, hd, vs, rel, dd⟩ := dk_of I.hok e
  have hz : vs.length ≤ sizeLine := by rw [← rel.length]; exact z
  have hl : (putK kvs k v).length ≤ sizeLine := by have := length_putK kvs k v; omega
  refine wpAny_dictSet_pairs (hsz := hz) (kV_is ry) dd fun h' dd' hs => h _ ?_
  have he : ∃ q, h'.get? a = some q := let ⟨q, _, _, hq, _⟩ := dd'; ⟨q, hq⟩
  exact d_write I (by rw [e]; exact True.intro) hs he (dk_new hl hd (rel.put k rv) dd')
 ·subst ey eH
  cases (show u = Value.ref b from ry)
  obtain ⟨z, hd, xs, rel, dd⟩ := dt_of I.hok e
  have hz : xs.length ≤ sizeLine := by rw [← Paired.length rel]; exact z
  have hl : (putK kvs k v).length ≤ sizeLine := by have := length_putK kvs k v; omega
  have room : (tupleKind (mixKind X.prog X.w)).room A := by first | exact hu | exact Nat.lt_of_succ_lt hu | exact Nat.lt_of_le_of_lt (Nat.le_succ _) hu
  refine wpAny_dictSet_heap (hsz := hz) room (key_of I.hok eb) dd fun h' dd' hs => h _ ?_
  obtain ⟨q, es, ep, hq, h2, h3, h4, _, h5⟩ := dd'
  refine d_write I (by rw [e]; exact True.intro) hs ⟨q, hq⟩ ⟨hl, hd, _, (rel.put k eb rv).keeps fun c ys ec => ?_, q, es, ep, hq, h2, h3, h4, h5⟩
  rw [upd_ne (ne_of ec e (fun z => nomatch z))]
  exact ec
end
noncomputable def emitD (k v : Expr) (acc : Value) (env : Env) : Sem Unit := do
 let kv ← eval k env
 let vv ← holding [kv] (eval v env)
 match acc with
 | .ref d => do
  standAt { k.pos with endLine := v.pos.endLine, endCol := v.pos.endCol }
  holding [kv, vv] (dictSet d kv vv)
 | _ => unsupported "internal:dictcomp"
noncomputable def nextD (k v t1 i1 : Expr) (f1 : List Expr) (t2 i2 : Expr) (f2 : List Expr) (scope : Scope) (pos : Pos) (acc : Value) (env : Env) : Sem Unit := do
 let x ← eval i2 env
 standAt i2.pos
 let x ← foldedSetIterable i2 env x
 let _ ← runOwn (.compStart (.DictComp k v [⟨t1, i1, f1, 0⟩, ⟨t2, i2, f2, 0⟩] scope pos) 1 (← holding [x] (pyIter x)) acc env) env
section
variable {X : Cx} {k v t1 i1 t2 i2 : Expr} {f1 f2 : List Expr} {scope : Scope} {pos : Pos} {σ : St} {H : Hp} {acc : Value} {env : Env}
theorem clauseD : Clause (.DictComp k v [⟨t1, i1, f1, 0⟩] scope pos) 0 t1 i1 f1 acc env (emitD k v acc env) := ⟨rfl, fun _ => rfl, fun _ _ _ => rfl, fun _ _ => rfl, fun _ _ _ => rfl, fun _ _ => rfl, fun it => by
 unfold emitD
 cases acc <;> first | rfl | (simp only [bind_assoc, pure_bind]; rfl)⟩
theorem clauseD0 : Clause (.DictComp k v [⟨t1, i1, f1, 0⟩, ⟨t2, i2, f2, 0⟩] scope pos) 0 t1 i1 f1 acc env (nextD k v t1 i1 f1 t2 i2 f2 scope pos acc env) := ⟨rfl, fun _ => rfl, fun _ _ _ => rfl, fun _ _ => rfl, fun _ _ _ => rfl, fun _ _ => rfl, fun it => by
 unfold nextD
 simp only [bind_assoc, pure_bind]
 rfl⟩
theorem clauseD1 : Clause (.DictComp k v [⟨t1, i1, f1, 0⟩, ⟨t2, i2, f2, 0⟩] scope pos) 1 t2 i2 f2 acc env (emitD k v acc env) := ⟨rfl, fun _ => rfl, fun _ _ _ => rfl, fun _ _ => rfl, fun _ _ _ => rfl, fun _ _ => rfl, fun it => by
 unfold emitD
 cases acc <;> first | rfl | (simp only [bind_assoc, pure_bind]; rfl)⟩
theorem ein_emitD {D : Addr} {Q : St → Hp → Prop} (hu : X.A.units + 1 < cLine) (h : Ev X k σ H fun y H1 => Ev X v σ H1 fun x H2 => ∃ H3, DPut H2 D y x H3 ∧ Q σ H3) : Ein X (emitD k v (.ref D) X.env) σ H Q := by
 refine ⟨fun pins s I => ?_⟩
 unfold emitD
 refine wpAny_bind (thn (h.run pins s I) fun kv s1 ⟨y, H1, I1, r1, h1⟩ => ?_)
 refine wpAny_bind (wpAny_holding (thn (h1.run pins s1 I1) fun vv s2 ⟨x, H2, I2, r2, H3, dp, q⟩ => ?_))
 show wpAny _ _ (standAt _ >>= fun _ => holding [kv, vv] (dictSet D kv vv)) _ _ _
 exact wpAny_bind (wpAny_standAt (wpAny_holding (d_dictSet hu I2 dp r1 r2 fun s' I' => ⟨σ, H3, I', q⟩)))
theorem ein_nextD {wi : TI} {Q : St → Hp → Prop} (hxe : X.xe = fun _ _ => False) (hc : X.calm = true) (hi : PI X t2 i2 wi) (h : wi σ H fun J H1 => ClauseL X t2 f2 (emitD k v acc X.env) J Q σ H1)
  (hs : ∀ x, foldedSetIterable i2 X.env x = pure x := by intro _; rfl) : Ein X (nextD k v t1 i1 f1 t2 i2 f2 scope pos acc X.env) σ H Q := by
 refine ⟨fun pins s I => ?_⟩
 unfold nextD
 refine wpAny_bind (thn (hi pins s σ H _ I h) fun x s1 h1 => ?_)
 refine wpAny_bind (wpAny_standAt (wpAny_bind (wpAny_of_eq (hs x) (wpAny_bind (wpAny_holding (wpAny_mono h1 (fun itv s2 h2 => ?_) fun _ _ e => e))))))
 obtain ⟨it, fp, tn, J, H2, e, I2, T, st2, f2', q⟩ := h2
 subst e
 refine wpAny_bind (wpAny_runOwn (Q := fun _ s' => wpAny (model X.prog X.w) X.A (pure ()) (fun _ s' => ∃ σ' H', Inv X pins σ' H' s' ∧ Q σ' H') X.xe s') ?_)
 exact clause_loop hxe hc clauseD1 I2 T st2 f2' q fun σ' H' s' I' q' => wpAny_pure ⟨σ', H', I', q'⟩
theorem ev_compDT {wi : TI} {Q : VK} (sc : Scope) (N N' : List Str) (n : Nat) (hi : PI X t1 i1 wi)
  (h : wi σ H fun J H1 => ∀ D, H1 D = none → ∀ cl C s₀ H₀ ex, ClauseL (cxComp X N' scope cl C s₀ H₀ ex) t1 f1 (emitD k v (.ref D) (compEnvC scope cl C X.env)) J (fun _ H' => Q (.ref D) H') (σ ++ List.replicate n none) (upd H1 D (.dT [])))
  (hc : X.calm = true := by rfl) (hsc : X.env.scope = sc := by rfl) (hN : X.N = N := by rfl) (hk : compOk sc scope N N' = true := by decide +kernel) (hl : N'.length = N.length + n := by rfl)
  (hs : ∀ x, foldedSetIterable i1 X.env x = pure x := by intro _; rfl) : Ev X (.DictComp k v [⟨t1, i1, f1, 0⟩] scope pos) σ H Q := by
 refine ⟨fun pins s I => ?_⟩
 subst hsc hN
 have ck := CompOk.of hk
 show wpAny _ _ (comprehension (.DictComp k v [⟨t1, i1, f1, 0⟩] scope pos) scope X.env (firstIterPos [⟨t1, i1, f1, 0⟩] pos) newDict (firstAsync [⟨t1, i1, f1, 0⟩]) (firstIter [⟨t1, i1, f1, 0⟩] X.env)) _ _ _
 refine wpAny_comprehension_free (use := none) rfl hs (closure_eq fun x hx hf => I.ok.has x.1 (ck.free x hx hf)) ck.kind ck.names (thn (hi pins s σ H _ I h) fun xv s1 h1 => thn h1 fun itv s2 h2 => ?_)
 obtain ⟨it, fp, tn, J, H2, e, I2, T, st2, f2', q⟩ := h2
 subst e
 refine comp_core_any (e := .DictComp k v [⟨t1, i1, f1, 0⟩] scope pos) (newAcc := newDict) (o0 := { cls := .type "dict", data := .dict #[] }) (u0 := fun _ => .dT []) (fun _ _ _ h => wpAny_newObj_type h) (fun _ h hb => dt_empty h hb) (Q := Q) (RR := fun acc C => compPost (model X.prog X.w) X.A X.xe none (EP X pins σ Q) acc C) hc ck hl (inner := emitD k v) (fun _ _ => clauseD) I2 T st2 f2' q ?_
 intro D C H' s' m IX hn hC c1 c2 c3 c4 qq
 exact ⟨m, hn, fun h' hs' => ⟨.ref D, H', IX.turned (t' := s'.toks) (fun b o hb e => hs'.extBut b o hb e) hC (Ne.symm (Ne.symm c1)) (.inr c2) c3 c4, rfl, qq⟩⟩
theorem ev_compDT2 {wi : TI} {Q : VK} (sc : Scope) (N N' : List Str) (n : Nat) (hi : PI X t1 i1 wi)
  (h : wi σ H fun J H1 => ∀ D, H1 D = none → ∀ cl C s₀ H₀ ex, ClauseL (cxComp X N' scope cl C s₀ H₀ ex) t1 f1 (nextD k v t1 i1 f1 t2 i2 f2 scope pos (.ref D) (compEnvC scope cl C X.env)) J (fun _ H' => Q (.ref D) H') (σ ++ List.replicate n none) (upd H1 D (.dT [])))
  (hc : X.calm = true := by rfl) (hsc : X.env.scope = sc := by rfl) (hN : X.N = N := by rfl) (hk : compOk sc scope N N' = true := by decide +kernel) (hl : N'.length = N.length + n := by rfl)
  (hs : ∀ x, foldedSetIterable i1 X.env x = pure x := by intro _; rfl) : Ev X (.DictComp k v [⟨t1, i1, f1, 0⟩, ⟨t2, i2, f2, 0⟩] scope pos) σ H Q := by
 refine ⟨fun pins s I => ?_⟩
 subst hsc hN
 have ck := CompOk.of hk
 show wpAny _ _ (comprehension (.DictComp k v [⟨t1, i1, f1, 0⟩, ⟨t2, i2, f2, 0⟩] scope pos) scope X.env (firstIterPos [⟨t1, i1, f1, 0⟩, ⟨t2, i2, f2, 0⟩] pos) newDict (firstAsync [⟨t1, i1, f1, 0⟩, ⟨t2, i2, f2, 0⟩]) (firstIter [⟨t1, i1, f1, 0⟩, ⟨t2, i2, f2, 0⟩] X.env)) _ _ _
 refine wpAny_comprehension_free (use := none) rfl hs (closure_eq fun x hx hf => I.ok.has x.1 (ck.free x hx hf)) ck.kind ck.names (thn (hi pins s σ H _ I h) fun xv s1 h1 => thn h1 fun itv s2 h2 => ?_)
 obtain ⟨it, fp, tn, J, H2, e, I2, T, st2, f2', q⟩ := h2
 subst e
 refine comp_core_any (e := .DictComp k v [⟨t1, i1, f1, 0⟩, ⟨t2, i2, f2, 0⟩] scope pos) (newAcc := newDict) (o0 := { cls := .type "dict", data := .dict #[] }) (u0 := fun _ => .dT []) (fun _ _ _ h => wpAny_newObj_type h) (fun _ h hb => dt_empty h hb) (Q := Q) (RR := fun acc C => compPost (model X.prog X.w) X.A X.xe none (EP X pins σ Q) acc C) hc ck hl (inner := nextD k v t1 i1 f1 t2 i2 f2 scope pos) (fun _ _ => clauseD0) I2 T st2 f2' q ?_
 intro D C H' s' m IX hn hC c1 c2 c3 c4 qq
 exact ⟨m, hn, fun h' hs' => ⟨.ref D, H', IX.turned (t' := s'.toks) (fun b o hb e => hs'.extBut b o hb e) hC (Ne.symm (Ne.symm c1)) (.inr c2) c3 c4, rfl, qq⟩⟩
end
end L2
namespace L2
open PySem PySem.Spec PyProof.Rows SetT
theorem call_add {prog : Program} {w : World} {A : Around} {E : Value → Shared → Prop} {s : Shared} {a : Addr} {zs : List Str} {z : Str} {tk : Tok} {Q : Value → Shared → Prop} (S : SetAt prog w s.heap a zs) (hb : zs.length + 1 < 1000)
  (h : ∀ h', Heap.SameBut a s.heap h' → SetAt prog w h' a (added zs z) → Q .none { s with heap := h', toks := s.toks + 1 }) :
  wpAny (model prog w) A (call (.builtin "set.add") [.ref a, .str z tk]) Q E s := by
 have hT : s.TypeIs (.ref a) "set" := let ⟨o, _, _, _, ho, hx, _⟩ := S; ⟨o, ho, hx.1⟩
 refine wpAny_call_entry F.slot_set_add hT F.entry_set_add ?_ (F.args_set_add_2 _ _)
 unfold Builtin.«set.add» Builtin.Frozenset.oneOther
 simp only [List.isEmpty_nil, bind_assoc]
 unfold Builtin.Frozenset.addrOf setAdd
 refine wpAny_bind (wpAny_pure ?_)
 try dsimp only
 refine wpAny_bind (wpAny_pure ?_)
 try dsimp only
 refine wpAny_bind ?_
 refine wpAny_holding ?_
 refine wpAny_bind ((PySem.strKind prog w).pyHash (k := z) (v := .str z tk) (by simp [PySem.strKind, Value.isStrOf]) ?_)
 refine wp_add (s := { s with toks := s.toks + 1 }) S hb fun b h' sb S' => ?_
 show wpAny _ _ (ret Value.none) _ _ _
 exact wpAny_pure ⟨_, rfl, h h' sb S'⟩
theorem new_set {prog : Program} {w : World} {A : Around} {E : Value → Shared → Prop} {s : Shared} {Q : Value → Shared → Prop} (k : Q (.ref s.heap.objs.size) { s with heap := s.heap.push (setNew w) }) : wpAny (model prog w) A (newSet (.type "set")) Q E s := by
 unfold newSet
 refine wpAny_bind (wp_text ?_)
 dsimp only
 simp only [newObj]
 exact wpAny_bind (wpAny_alloc (wpAny_pure k))
noncomputable def emitS (elt : Expr) (acc : Value) (env : Env) : Sem Unit := do let v ← eval elt env; standAt elt.pos; let _ ← call (.builtin "set.add") [acc, v]
noncomputable def nextS (elt t1 i1 : Expr) (f1 : List Expr) (t2 i2 : Expr) (f2 : List Expr) (scope : Scope) (pos : Pos) (acc : Value) (env : Env) : Sem Unit := do
 let x ← eval i2 env
 standAt i2.pos
 let x ← foldedSetIterable i2 env x
 let _ ← runOwn (.compStart (.SetComp elt [⟨t1, i1, f1, 0⟩, ⟨t2, i2, f2, 0⟩] scope pos) 1 (← holding [x] (pyIter x)) acc env) env
section
variable {X : Cx} {elt t1 i1 t2 i2 : Expr} {f1 f2 : List Expr} {scope : Scope} {pos : Pos} {σ : St} {H : Hp} {acc : Value} {env : Env}
theorem clauseS0 : Clause (.SetComp elt [⟨t1, i1, f1, 0⟩, ⟨t2, i2, f2, 0⟩] scope pos) 0 t1 i1 f1 acc env (nextS elt t1 i1 f1 t2 i2 f2 scope pos acc env) := ⟨rfl, fun _ => rfl, fun _ _ _ => rfl, fun _ _ => rfl, fun _ _ _ => rfl, fun _ _ => rfl, fun it => by
 unfold nextS
 simp only [bind_assoc, pure_bind]
 rfl⟩
theorem clauseS1 : Clause (.SetComp elt [⟨t1, i1, f1, 0⟩, ⟨t2, i2, f2, 0⟩] scope pos) 1 t2 i2 f2 acc env (emitS elt acc env) := ⟨rfl, fun _ => rfl, fun _ _ _ => rfl, fun _ _ => rfl, fun _ _ _ => rfl, fun _ _ => rfl, fun it => by
 unfold emitS
 first | rfl | (simp only [bind_assoc, pure_bind]; rfl)⟩
theorem ein_emitS {D : Addr} {Q : St → Hp → Prop} (h : Ev X elt σ H fun v H1 => ∃ z zs, v = .str z ∧ H1 D = some (SetO X.prog X.w D zs) ∧ zs.length + 1 < 1000 ∧ Q σ (upd H1 D (SetO X.prog X.w D (added zs z)))) : Ein X (emitS elt (.ref D) X.env) σ H Q := by
 refine ⟨fun pins s I => ?_⟩
 unfold emitS
 refine wpAny_bind (thn (h.run pins s I) fun v s1 ⟨x, H1, I1, r1, z, zs, e, hD, hl, q⟩ => ?_)
 subst e
 obtain ⟨tk, rfl⟩ := r1
 refine wpAny_bind (wpAny_standAt (wpAny_bind (call_add (I1.set hD) hl fun h' sb S' => wpAny_pure ⟨σ, _, d_write (t' := s1.toks + 1) I1 (by rw [hD]; exact True.intro) sb ?_ (set_obj S'), q⟩)))
 obtain ⟨o, _, _, _, ho, _⟩ := S'
 exact ⟨o, ho⟩
theorem ein_nextS {wi : TI} {Q : St → Hp → Prop} (hxe : X.xe = fun _ _ => False) (hc : X.calm = true) (hi : PI X t2 i2 wi) (h : wi σ H fun J H1 => ClauseL X t2 f2 (emitS elt acc X.env) J Q σ H1)
  (hs : ∀ x, foldedSetIterable i2 X.env x = pure x := by intro _; rfl) : Ein X (nextS elt t1 i1 f1 t2 i2 f2 scope pos acc X.env) σ H Q := by
 refine ⟨fun pins s I => ?_⟩
 unfold nextS
 refine wpAny_bind (thn (hi pins s σ H _ I h) fun x s1 h1 => ?_)
 refine wpAny_bind (wpAny_standAt (wpAny_bind (wpAny_of_eq (hs x) (wpAny_bind (wpAny_holding (wpAny_mono h1 (fun itv s2 h2 => ?_) fun _ _ e => e))))))
 obtain ⟨it, fp, tn, J, H2, e, I2, T, st2, f2', q⟩ := h2
 subst e
 refine wpAny_bind (wpAny_runOwn (Q := fun _ s' => wpAny (model X.prog X.w) X.A (pure ()) (fun _ s' => ∃ σ' H', Inv X pins σ' H' s' ∧ Q σ' H') X.xe s') ?_)
 exact clause_loop hxe hc clauseS1 I2 T st2 f2' q fun σ' H' s' I' q' => wpAny_pure ⟨σ', H', I', q'⟩
theorem ev_compS2 {wi : TI} {Q : VK} (sc : Scope) (N N' : List Str) (n : Nat) (hi : PI X t1 i1 wi)
  (h : wi σ H fun J H1 => ∀ D, H1 D = none → ∀ cl C s₀ H₀ ex, ClauseL (cxComp X N' scope cl C s₀ H₀ ex) t1 f1 (nextS elt t1 i1 f1 t2 i2 f2 scope pos (.ref D) (compEnvC scope cl C X.env)) J (fun _ H' => Q (.ref D) H') (σ ++ List.replicate n none) (upd H1 D (SetO X.prog X.w D [])))
  (hc : X.calm = true := by rfl) (hsc : X.env.scope = sc := by rfl) (hN : X.N = N := by rfl) (hk : compOk sc scope N N' = true := by decide +kernel) (hl : N'.length = N.length + n := by rfl)
  (hs : ∀ x, foldedSetIterable i1 X.env x = pure x := by intro _; rfl) : Ev X (.SetComp elt [⟨t1, i1, f1, 0⟩, ⟨t2, i2, f2, 0⟩] scope pos) σ H Q := by
 refine ⟨fun pins s I => ?_⟩
 subst hsc hN
 have ck := CompOk.of hk
 show wpAny _ _ (comprehension (.SetComp elt [⟨t1, i1, f1, 0⟩, ⟨t2, i2, f2, 0⟩] scope pos) scope X.env (firstIterPos [⟨t1, i1, f1, 0⟩, ⟨t2, i2, f2, 0⟩] pos) (newSet (.type "set")) (firstAsync [⟨t1, i1, f1, 0⟩, ⟨t2, i2, f2, 0⟩]) (firstIter [⟨t1, i1, f1, 0⟩, ⟨t2, i2, f2, 0⟩] X.env)) _ _ _
 refine wpAny_comprehension_free (use := none) rfl hs (closure_eq fun x hx hf => I.ok.has x.1 (ck.free x hx hf)) ck.kind ck.names (thn (hi pins s σ H _ I h) fun xv s1 h1 => thn h1 fun itv s2 h2 => ?_)
 obtain ⟨it, fp, tn, J, H2, e, I2, T, st2, f2', q⟩ := h2
 subst e
 refine comp_core_any (e := .SetComp elt [⟨t1, i1, f1, 0⟩, ⟨t2, i2, f2, 0⟩] scope pos) (newAcc := newSet (.type "set")) (o0 := setNew X.w) (u0 := fun D => SetO X.prog X.w D []) (fun _ _ _ h => new_set h) (fun _ h _ => set_obj (setNew_at (Heap.get?_push_size _ rfl))) (Q := Q) (RR := fun acc C => compPost (model X.prog X.w) X.A X.xe none (EP X pins σ Q) acc C) hc ck hl (inner := nextS elt t1 i1 f1 t2 i2 f2 scope pos) (fun _ _ => clauseS0) I2 T st2 f2' q ?_
 intro D C H' s' m IX hn hC c1 c2 c3 c4 qq
 exact ⟨m, hn, fun h' hs' => ⟨.ref D, H', IX.turned (t' := s'.toks) (fun b o hb e => hs'.extBut b o hb e) hC (Ne.symm (Ne.symm c1)) (.inr c2) c3 c4, rfl, qq⟩⟩
end
end L2
namespace Spl
open PySem PySem.Builtin PySem.Builtin.Str PySem.StrLaws
end Spl
namespace L2
open PySem PySem.Builtin PySem.Builtin.Str
section
variable {X : Cx} {σ : St} {H : Hp} {Q : VK}
end
end L2
namespace PySem
noncomputable def Plain (h : Heap) (d : Addr) (es : Array DictEntry) (ep : Nat) : Prop := ∃ o, h.get? d = some o ∧ o.ExactDict ∧ o.data = .dict es ep
section
variable {P : Program} {w : World} {A : Around} {E : Value → Shared → Prop} {s : Shared}
theorem items_spec (d : Addr) (hd : (d == sysModules) = false) : MeetsIn P w (Builtin.«dict.items» ⟨[.ref d], []⟩) (fun _ R u => u.TypeIs (.ref d) "dict" ∧
  R (.ok (.ret (.ref u.heap.objs.size))) { u with heap := u.heap.push { cls := .type "dict_items", data := .fields #[.ref d] } }) := by
 refine .of_wp fun B R u ⟨hT, k⟩ => ?_
 unfold Builtin.«dict.items» Builtin.Dict.noArgs
 refine wpAny_bind (wpAny_bind (wpAny_notOrdered_dict hT ?_))
 show wpAny _ _ (pure d) _ _ u
 refine wpAny_pure ?_
 show wpAny _ _ (Builtin.Dict.showsAll d >>= _) _ _ u
 unfold Builtin.Dict.showsAll
 rw [if_neg (by rw [hd]; exact Bool.false_ne_true)]
 exact wpAny_bind (wpAny_pure (wpAny_bind (wpAny_newObj_type (wpAny_pure ⟨_, rfl, k⟩))))
theorem items_iter {v d : Addr} {es : Array DictEntry} {ep : Nat} {Q : Value → Shared → Prop} (hv : s.heap.IsItemsView v d) (hm : Plain s.heap d es ep)
  (k : Q (.ref s.heap.objs.size) { s with heap := s.heap.push { cls := .type "dict_itemiterator", data := .fields #[.none, .bool false, .ref d, .int 0 0, .int es.size 0, .int ep 0, .none, .none] } }) :
  wpAny (model P w) A (pyIter (.ref v)) Q E s := by
 obtain ⟨vo, e1, e2, e3⟩ := id hv
 obtain ⟨o, f1, f2, f3⟩ := hm
 refine wpAny_pyIter_slot hv.typeIs F.slot_dict_items_iter (wpAny_call_entry F.slot_dict_items_iter hv.typeIs F.entry_dict_items_iter ?_ (F.args_dict_items_iter_1 _))
 unfold Builtin.«dict_items.__iter__» Builtin.Dict_items.dictOf Builtin.Dict_items.newIterator
 refine wpAny_bind (wpAny_pure (wpAny_bind (wpAny_bind (wpAny_field e1 e3 (x := .ref d) rfl (wpAny_pure ?_)))))
 refine wpAny_bind (wpAny_bind (wpAny_dictEntries f1 f3 (wpAny_bind (wpAny_dictEpoch f1 f3 ?_))))
 have ow : Builtin.Dict_items.ownsTuple "dict_itemiterator" = true := by decide
 simp only [ow, if_true]
 refine wpAny_newObj_type (wpAny_pure ⟨_, rfl, "dict_itemiterator", _, ⟨_, Heap.get?_push_size _ rfl, rfl⟩, F.slot_dict_itemiterator_next.lookup, ?_⟩) ?_
 ·simpa [rawInt, Builtin.Dict_items.ownedTupleFields] using k
 ·simp only [sizeOk, Builtin.Dict_items.ownedTupleFields, List.size_toArray, List.length_append, List.length_cons, List.length_nil, sizeLine_eq]
  omega
theorem items_next {it d : Addr} {i ep : Nat} {es : Array DictEntry} {en : DictEntry} {y z : Value} {Q : Option Value → Shared → Prop} (hit : IsItemIter s.heap it d i es.size ep y z) (hm : Plain s.heap d es ep) (hx : es[i]? = some en)
  (k : ∀ h', IsItemIterOut h' it d (i + 1) es.size ep en.key en.val s.heap.objs.size → h'.get? s.heap.objs.size = some { cls := .type "tuple", data := .seq #[en.key, en.val] } →
   (∀ b o, b ≠ it → s.heap.get? b = some o → h'.get? b = some o) → Q (some (.ref s.heap.objs.size)) { s with heap := h' }) : wpAny (model P w) A (pyNext (.ref it)) Q E s := by
 obtain ⟨hp, g, dr, tk, os⟩ := s
 obtain ⟨o, f1, f2, f3⟩ := hm
 have ty : Shared.TypeIs ⟨hp, g, dr, tk, os⟩ (.ref it) "dict_itemiterator" := ⟨_, hit, rfl⟩
 have lt : i < es.size := by
  rcases Nat.lt_or_ge i es.size with h | h
  ·exact h
  ·rw [Array.getElem?_eq_none h] at hx
   cases hx
 have ow : Builtin.Dict_items.ownsTuple "dict_itemiterator" = true := by decide
 unfold pyNext
 refine wpAny_bind (wpAny_attempt (wpAny_callSpecial?_slot (name := Str.ofString "__next__") ty F.slot_dict_itemiterator_next (wpAny_call_entry F.slot_dict_itemiterator_next ty F.entry_dict_itemiterator_next ?_ (F.args_dict_itemiterator_next_1 _))))
 refine wpAny_bind (wpAny_pure (wpAny_bind (wpAny_bind ?_)))
 first | refine wpAny_bind (wpAny_typeNameOfWhole_itemiter ty (wpAny_pure ?_)) | refine wpAny_bind (wpAny_typeNameOf_itemiter ty (wpAny_pure ?_))
 refine wpAny_bind (wpAny_fieldsOf hit rfl ?_)
 simp only [ow, if_true]
 show wpAny _ _ (if (Value.ref d == Value.none) = true then _ else _) _ _ _
 rw [if_neg (show ¬ ((Value.ref d == Value.none) = true) from Bool.false_ne_true)]
 refine wpAny_bind (wpAny_pure (wpAny_bind (wpAny_dictEntries f1 f3 ?_)))
 rw [if_neg (by simp)]
 refine wpAny_bind (wpAny_pure (wpAny_bind (wpAny_dictEpoch f1 f3 ?_)))
 rw [if_neg (by simp)]
 refine wpAny_pure ?_
 have ee : es[i] = en := Option.some.inj ((Array.getElem?_eq_getElem lt).symm.trans hx)
 simp only [show ¬ ((i : Int) < 0) from by omega, if_false, Int.toNat_natCast, hx]
 refine wpAny_bind ?_
 first | refine wpAny_bind (wpAny_typeNameOfWhole_itemiter ty (wpAny_pure ?_)) | refine wpAny_bind (wpAny_typeNameOf_itemiter ty (wpAny_pure ?_))
 refine wpAny_bind (wpAny_isOneOf_itemiter ty ?_)
 show wpAny _ _ (setField (.ref it) 3 (rawInt ((i : Int) + 1)) >>= _) _ _ ⟨hp, g, dr, tk, os⟩
 refine wpAny_bind (wpAny_setField_rec hit (by simp) fun ha ea sa => ?_)
 replace sa : Heap.SameBut it hp ha := sa
 replace ea : IsItemIter ha it d (i + 1) es.size ep y z := by
  have e : ((i + 1 : Nat) : Int) = (i : Int) + 1 := by omega
  unfold IsItemIter
  rw [e]
  simpa [rawInt] using ea
 have tya : Shared.TypeIs ⟨ha, g, dr, tk, os⟩ (.ref it) "dict_itemiterator" := ⟨_, ea, rfl⟩
 refine wpAny_bind (wpAny_holding (wpAny_bind (wpAny_isOneOf_itemiter tya (wpAny_bind (wpAny_isOneOf_itemiter tya ?_)))))
 show wpAny _ _ (Builtin.Dict_items.pairFromOwner (.ref it) 6 en.key en.val) _ _ ⟨ha, g, dr, tk, os⟩
 unfold Builtin.Dict_items.pairFromOwner Builtin.Dict_items.ownedTupleIsFree
 refine wpAny_bind (wpAny_newTuple ?_)
 have eb : IsItemIter (ha.push { cls := .type "tuple", data := .seq #[en.key, en.val] }) it d (i + 1) es.size ep y z := Heap.get?_push_of_some _ ea
 have za : ha.objs.size = hp.objs.size := sa.1
 have il : it < hp.objs.size := Heap.lt_size hit
 have tb : (ha.push { cls := .type "tuple", data := .seq #[en.key, en.val] }).get? hp.objs.size = some { cls := .type "tuple", data := .seq #[en.key, en.val] } := by rw [← za]; exact Heap.get?_push_size _ rfl
 have kb : ∀ b u, b ≠ it → hp.get? b = some u → (ha.push { cls := .type "tuple", data := .seq #[en.key, en.val] }).get? b = some u := fun b u hb e => Heap.get?_push_of_some _ (sa.extBut b u hb e)
 rw [za]
 generalize ha.push { cls := .type "tuple", data := .seq #[en.key, en.val] } = hb at eb tb kb
 refine wpAny_bind (wpAny_bind (wpAny_field (s := ⟨hb, g, dr, tk, os⟩) eb rfl (x := .none) rfl (wpAny_pure ?_)))
 simp only [if_true]
 refine wpAny_bind (wpAny_field (s := ⟨hb, g, dr, tk, os⟩) eb rfl (x := y) rfl (wpAny_bind (wpAny_field (s := ⟨hb, g, dr, tk, os⟩) eb rfl (x := z) rfl ?_)))
 refine wpAny_bind (wpAny_setField_rec eb (by simp) fun h3 e3 s3 => ?_)
 replace s3 : Heap.SameBut it hb h3 := s3
 replace e3 : IsItemIter h3 it d (i + 1) es.size ep en.key z := e3
 refine wpAny_bind (wpAny_setField_rec e3 (by simp) fun h4 e4 s4 => ?_)
 replace s4 : Heap.SameBut it h3 h4 := s4
 replace e4 : IsItemIter h4 it d (i + 1) es.size ep en.key en.val := e4
 refine wpAny_bind (wpAny_setField_rec e4 (by simp) fun h5 e5 s5 => ?_)
 replace s5 : Heap.SameBut it h4 h5 := s5
 replace e5 : IsItemIterOut h5 it d (i + 1) es.size ep en.key en.val hp.objs.size := e5
 refine wpAny_bind (wpAny_setField_rec e5 (by simp) fun h6 e6 s6 => ?_)
 replace s6 : Heap.SameBut it h5 h6 := s6
 replace e6 : IsItemIterOut h6 it d (i + 1) es.size ep en.key en.val hp.objs.size := e6
 have all := ((s3.trans s4).trans s5).trans s6
 exact wpAny_bind (wpAny_letGo (wpAny_pure (wpAny_pure ⟨_, rfl, wpAny_pure (k h6 e6 (all.extBut _ _ (Nat.ne_of_gt il) tb) fun b u hb' e => all.extBut b u hb' (kb b u hb' e))⟩)))
theorem items_end {it d : Addr} {i ep : Nat} {es : Array DictEntry} {y z : Value} {Q : Option Value → Shared → Prop} (hh : A.handled = none) (hit : IsItemIter s.heap it d i es.size ep y z) (hm : Plain s.heap d es ep) (hx : es.size ≤ i)
  (k : ∀ h', Heap.ExtBut it s.heap h' → Q none { s with heap := h' }) : wpAny (model P w) A (pyNext (.ref it)) Q E s := by
 obtain ⟨o, f1, f2, f3⟩ := hm
 have ty : s.TypeIs (.ref it) "dict_itemiterator" := ⟨_, hit, rfl⟩
 have ow : Builtin.Dict_items.ownsTuple "dict_itemiterator" = true := by decide
 unfold pyNext
 refine wpAny_bind (wpAny_attempt (wpAny_callSpecial?_slot (name := Str.ofString "__next__") ty F.slot_dict_itemiterator_next (wpAny_call_entry F.slot_dict_itemiterator_next ty F.entry_dict_itemiterator_next ?_ (F.args_dict_itemiterator_next_1 _))))
 refine wpAny_bind (wpAny_pure (wpAny_bind (wpAny_bind ?_)))
 first | refine wpAny_bind (wpAny_typeNameOfWhole_itemiter ty (wpAny_pure ?_)) | refine wpAny_bind (wpAny_typeNameOf_itemiter ty (wpAny_pure ?_))
 refine wpAny_bind (wpAny_fieldsOf hit rfl ?_)
 simp only [ow, if_true]
 show wpAny _ _ (if (Value.ref d == Value.none) = true then _ else _) _ _ s
 rw [if_neg (show ¬ ((Value.ref d == Value.none) = true) from Bool.false_ne_true)]
 refine wpAny_bind (wpAny_pure (wpAny_bind (wpAny_dictEntries f1 f3 ?_)))
 rw [if_neg (by simp)]
 refine wpAny_bind (wpAny_pure (wpAny_bind (wpAny_dictEpoch f1 f3 ?_)))
 rw [if_neg (by simp)]
 refine wpAny_pure ?_
 simp only [show ¬ ((i : Int) < 0) from by omega, if_false, Int.toNat_natCast, Array.getElem?_eq_none hx]
 refine wpAny_bind ?_
 first | refine wpAny_bind (wpAny_typeNameOfWhole_itemiter ty (wpAny_pure ?_)) | refine wpAny_bind (wpAny_typeNameOf_itemiter ty (wpAny_pure ?_))
 show wpAny _ _ (setField (.ref it) 2 .none >>= _) _ _ s
 refine wpAny_bind (wpAny_setField hit rfl (by simp) ?_)
 show wpAny _ _ (newExc (.type "StopIteration") [] >>= _) _ _ _
 refine wpAny_bind ?_
 simp only [newExc, newTuple]
 refine wpAny_bind (wpAny_newObj_type ?_ (by size_fits))
 refine wpAny_bind (m := firstArgMember _ _) (wpAny_of_eq (a := Value.none) (by first | rfl | (simp only [firstArgMember]; rfl)) ?_)
 refine wpAny_newObj_type ?_ (by size_fits)
 simp only [raiseNew]
 refine wpAny_bind (wpAny_handled ?_)
 rw [show A.in1.handled = none from hh]
 refine wpAny_bind (wpAny_pure (wpAny_throw ?_))
 exact wpAny_bind (wpAny_isInstance (T := "StopIteration") (b := true) ⟨_, Heap.get?_push_size _ rfl, rfl⟩ isSubtype_stop (wpAny_pure (k _ (((Heap.SameBut.update ..).extBut.push _).push _))))
theorem entry_itemiter : entryFor table "dict_itemiterator.__iter__" = some Builtin.«dict_keyiterator.__iter__» :=
 entryFor_alias (id' := "dict_keyiterator.__iter__") (by kernel_rfl) rfl (by decide +kernel) (by kernel_rfl)
theorem items_self {it d : Addr} {i n ep : Nat} {y z : Value} {Q : Value → Shared → Prop} (e : IsItemIter s.heap it d i n ep y z) (h : Q (.ref it) s) : wpAny (model P w) A (pyIter (.ref it)) Q E s := by
 have ty : s.TypeIs (.ref it) "dict_itemiterator" := ⟨_, e, rfl⟩
 refine wpAny_pyIter_slot ty F.slot_dict_itemiterator_iter (wpAny_call_entry F.slot_dict_itemiterator_iter ty entry_itemiter ?_ (F.args_dict_itemiterator_iter_1 _))
 show wpAny _ _ (ret (.ref it)) _ _ s
 exact wpAny_pure ⟨_, rfl, "dict_itemiterator", _, ty, F.slot_dict_itemiterator_next.lookup, h⟩
end
end PySem
namespace L2
open PySem PySem.Spec PyProof.Rows
section
variable {X : Cx} {pins : List (Addr × Obj)} {σ : St} {H : Hp} {s : Shared}
theorem inv_freezeT {d : Addr} {kvs : List (List Key × V)} (I : Inv X pins σ H s) (e : H d = some (.dT kvs)) : ∃ o, s.heap.get? d = some o ∧ Inv X pins σ (upd H d (.frz o (.dT kvs))) s := by
 obtain ⟨z, hd, xs, r, o, es, ep, ho, h2, h3, h4, h5⟩ := (show ObjOk X.prog X.w H s.heap d (.dT kvs) from I.hok d _ e)
 refine ⟨o, ho, ?_⟩
 have r' : KT (upd H d (.frz o (.dT kvs))) kvs xs := KT.keeps r fun b ys q => by
  rw [upd_ne (ne_of q e fun z => nomatch z)]
  exact q
 exact d_write (t' := s.toks) I (by rw [e]; exact True.intro) ⟨rfl, fun _ _ => rfl⟩ ⟨o, ho⟩ (show ObjOk X.prog X.w _ s.heap d (.frz o (.dT kvs)) from ⟨ho, z, hd, xs, r', o, es, ep, ho, h2, h3, h4, h5⟩)
noncomputable def Itm (d : Addr) (o : Obj) (kvs : List (List Key × V)) : It :=
  ⟨fun i H => H d = some (.frz o (.dT kvs)) ∧ i < kvs.length,
   fun i H v H' => ∃ T b k x, kvs[i]? = some (k, x) ∧ H b = some (.tup (k.map kV)) ∧ H T = none ∧ v = .ref T ∧ H' = upd H T (.tup [.ref b, x]),
   fun i H => H d = some (.frz o (.dT kvs)) ∧ kvs.length ≤ i⟩
theorem frz_atT {P : Program} {w : World} {h : Heap} {d : Addr} {o : Obj} {es : Array DictEntry} {ep : Nat} {kvs : List (List Key × V)} (hok : HOk P w H h) (e : H d = some (.frz o (.dT kvs))) (hd : o.data = .dict es ep) :
  Plain h d es ep ∧ ∃ xs, KT H kvs xs ∧ es.toList = xs.map (entryOfKey (tupleKind (mixKind P w))) := by
 obtain ⟨ho, z, _, xs, r, o', es', ep', ho', h2, h3, h4, h5⟩ := (show ObjOk P w H h d (.frz o (.dT kvs)) from hok d _ e)
 have : o = o' := Option.some.inj (ho.symm.trans ho')
 subst this
 rw [hd] at h3
 injection h3 with e1 e2
 subst e1
 subst e2
 exact ⟨⟨o, ho, h2, hd⟩, xs, r, h4⟩
theorem kt_len {H : Hp} : ∀ {kvs : List (List Key × V)} {xs : List (List Key × Addr × Value)}, KT H kvs xs → kvs.length = xs.length := fun r => by
 induction r with
 | nil => rfl
 | cons _ _ ih => simp only [List.length_cons, ih]
theorem kt_at {H : Hp} : ∀ {kvs : List (List Key × V)} {xs : List (List Key × Addr × Value)}, KT H kvs xs → ∀ {i : Nat} {k : List Key} {x : V}, kvs[i]? = some (k, x) → ∃ b u, xs[i]? = some (k, b, u) ∧ H b = some (.tup (k.map kV)) ∧ RelV x u := fun r => by
 induction r with
 | nil => intro i k x h; simp at h
 | @cons p q ps qs hq t ih =>
  intro i k x h
  cases i with
  | zero =>
   simp only [List.getElem?_cons_zero, Option.some.injEq] at h
   subst h
   obtain ⟨a, b, c⟩ := q
   obtain ⟨q1, q2, q3⟩ := hq
   have q1 : k = a := q1
   subst q1
   exact ⟨b, c, rfl, q2, q3⟩
  | succ i => exact ih (by simpa using h)
theorem turn_items {P : Program} {w : World} {K : PySem.W.Frag} {elts : List Expr} {kk : Nat} {tp : Pos} (d it : Addr) (o : Obj) (es : Array DictEntry) (ep : Nat) (kvs : List (List Key × V)) (hod : o.data = .dict es ep) :
  Turn P w K (.Tuple elts kk tp) (Itm d o kvs) [it] it (fun i h => ∃ y z, IsItemIter h it d i es.size ep y z) where
 mem := by simp
 obj := fun i h st b hb => by
  have e : b = it := by simpa using hb
  subst e
  obtain ⟨y, z, e⟩ := st
  exact ⟨_, e, fun v z => by cases z⟩
 keep := fun i h h' st k => let ⟨y, z, e⟩ := st; ⟨y, z, k it (by simp) _ e⟩
 item := by
  intro X hP hw hK hc i pins s σ H E I hf st hg
  subst hP hw hK
  obtain ⟨f0, f1, f2, f3, f4, f5⟩ := hf it (by simp)
  obtain ⟨hd, hi⟩ := hg
  obtain ⟨pd, xs, r, hes⟩ := frz_atT I.hok hd hod
  obtain ⟨y, z, st⟩ := st
  have hx : kvs[i]? = some (kvs[i].1, kvs[i].2) := List.getElem?_eq_getElem hi
  obtain ⟨b, u, hxs, hb, ru⟩ := kt_at r hx
  have hen := entry_at hes i
  rw [hxs] at hen
  refine items_next st pd (en := entryOfKey (tupleKind (mixKind X.prog X.w)) (kvs[i].1, b, u)) hen fun h' q1 q2 kp => ?_
  have hT : H s.heap.objs.size = none := I.hok.fresh (Nat.le_refl _)
  have nT : it ≠ s.heap.objs.size := Nat.ne_of_lt (Heap.lt_size st)
  have I1 : Inv X pins σ (upd H s.heap.objs.size (.tup [.ref b, kvs[i].2])) { s with heap := s.heap.push { cls := .type "tuple", data := .seq #[Value.ref b, u] } } :=
   I.laid (t' := s.toks) (fun b o e => Heap.get?_push_of_some _ e) (Nat.le_refl _) (show ObjOk X.prog X.w _ _ _ (.tup [.ref b, kvs[i].2]) from ⟨(by show 2 ≤ sizeLine; decide), [Value.ref b, u], .cons rfl (.cons ru .nil), ⟨_, Heap.get?_push_size _ rfl, rfl, _, rfl⟩⟩)
  have fp : ∀ c ∈ [it], FpOk X pins (upd H s.heap.objs.size (.tup [.ref b, kvs[i].2])) c := fun c hc' => by
   have e : c = it := by simpa using hc'
   subst e
   exact ⟨by rw [upd_ne nT]; exact f0, f1, f2, f3, f4, f5⟩
  have I2 := Inv.turnedL (h' := h') (t' := s.toks) I1 fp fun c v hc' e => by
   have nc : c ≠ it := by simpa using hc'
   rcases Heap.get?_push_cases e with ⟨ec, eo⟩ | e'
   ·rw [ec, eo]
    exact q2
   ·exact kp c v nc e'
  refine ⟨_, rfl, wpAny_letOwnedTupleGo_items (s := { s with heap := h' }) q1 fun h2 b1 sb => ?_⟩
  have I3 := Inv.turnedL (h' := h2) (t' := s.toks) I2 fp fun c v hc' e => (sb.2 c (by simpa using hc')).trans e
  exact ⟨.ref s.heap.objs.size, _, I3, rfl, ⟨_, b, kvs[i].1, kvs[i].2, hx, hb, hT, rfl, rfl⟩, ⟨_, _, b1⟩, fun c hc' => (fp c hc').1⟩
 done := by
  intro X hP hw hK hc i pins s σ H E I hf st hg
  subst hP hw hK
  obtain ⟨hd, hi⟩ := hg
  obtain ⟨pd, xs, r, hes⟩ := frz_atT I.hok hd hod
  obtain ⟨y, z, st⟩ := st
  have hl : es.size = kvs.length := by rw [kt_len r, ← Array.length_toList, hes, List.length_map]
  exact items_end (I.ok.hd hc) st pd (by omega) fun h' eb => ⟨rfl, I.turnedL (t' := s.toks) hf fun c v hc' e => eb c v (by simpa using hc') e⟩
 self := fun _ _ _ _ _ st h => let ⟨y, z, e⟩ := st; items_self e h
end
section
variable {X : Cx}
noncomputable def iItems (to : TE) : TI := fun σ H R => to σ H fun x H1 => ∃ d kvs, x = .ref d ∧ H1 d = some (.dT kvs) ∧ ∀ o, R (Itm d o kvs) (upd H1 d (.frz o (.dT kvs)))
theorem pi_items {elts : List Expr} {kk : Nat} {tp ap cp : Pos} {l : Expr} {to : TE} (ho : PE X l to) (hbase : attributeBase l "items" X.env (eval l X.env) = eval l X.env := by rfl) (hline : (ap.endLine == cp.line) = true := by rfl) :
  PI X (.Tuple elts kk tp) (.Call (.Attribute l "items" ap) [] [] cp) (iItems to) := by
 intro pins s σ H R I h
 refine wpAny_Call_method0_late hbase hline (thn (ho pins s σ H _ I h) fun v s1 ⟨x, H1, I1, r1, q1⟩ => ?_)
 obtain ⟨d, kvs, e, hd, q⟩ := q1
 subst e
 cases (show v = Value.ref d from r1)
 obtain ⟨_, hsy, _, _, o, es, ep, e1, e2, e3, _⟩ := (show ObjOk X.prog X.w H1 s1.heap d (.dT kvs) from I1.hok d _ hd)
 have ty : s1.TypeIs (.ref d) "dict" := ⟨o, e1, e2.1⟩
 refine ⟨"dict", "dict.items", F.plainAttrs_dict, F.slot_dict_items, F.type_dict_items, ty, fun a ea => ?_, Calls.callWith_builtin rfl (PySem.evalArgs_none ?_)⟩
 ·cases ea
  exact ⟨o, e1, e2.2.1⟩
 refine call_meetsIn F.slot_dict_items ty F.entry_dict_items (F.args_dict_items_1 _) (items_spec d hsy) ⟨ty, ?_⟩
 obtain ⟨o', eo, I2⟩ := inv_freezeT I1 hd
 have : o = o' := Option.some.inj (e1.symm.trans eo)
 subst this
 have I3 := I2.kept (t' := s1.toks) (h' := s1.heap.push { cls := .type "dict_items", data := .fields #[.ref d] }) fun b u e => Heap.get?_push_of_some _ e
 refine items_iter (s := { s1 with heap := s1.heap.push { cls := .type "dict_items", data := .fields #[.ref d] } }) (d := d) (es := es) (ep := ep) ⟨_, Heap.get?_push_size _ rfl, rfl, rfl⟩ ⟨o, Heap.get?_push_of_some _ e1, e2, e3⟩ ?_
 refine ⟨_, [(s1.heap.push { cls := .type "dict_items", data := .fields #[.ref d] }).objs.size], _, _, _, rfl, I3.kept (t' := s1.toks) fun b u e => Heap.get?_push_of_some _ e, turn_items d _ o es ep kvs e3, ⟨_, _, Heap.get?_push_size _ rfl⟩, fun b hb => ?_, q o⟩
 have e : b = (s1.heap.push { cls := .type "dict_items", data := .fields #[.ref d] }).objs.size := by simpa using hb
 subst e
 exact I3.fpOk (Nat.le_refl _) (I3.hok.fresh (Nat.le_refl _))
end
section
variable {X : Cx} {tg : Expr} {ifs : List Expr} {inner : Sem Unit} {σ : St} {H : Hp} {d : Addr} {o : Obj} {kvs : List (List Key × V)} {after : St → Hp → Prop}
theorem clause_itemsP (Pv : Nat → St → Hp → Prop) (h0 : Pv 0 σ H) (hl : ∀ i σ' H', i ≤ kvs.length → Pv i σ' H' → H' d = some (.frz o (.dT kvs)))
  (hs : ∀ i k x b T σ' H', kvs[i]? = some (k, x) → Pv i σ' H' → H' b = some (.tup (k.map kV)) → H' T = none → Eg X tg (.ref T) σ' (upd H' T (.tup [.ref b, x])) fun σ2 H3 => Ei X ifs σ2 H3 fun c H4 => if c = true then Ein X inner σ2 H4 (Pv (i + 1)) else Pv (i + 1) σ2 H4)
  (hd : ∀ σ' H', Pv kvs.length σ' H' → after σ' H') : ClauseL X tg ifs inner (Itm d o kvs) after σ H := by
 refine ⟨fun i m σ' H' => m = kvs.length - i ∧ i ≤ kvs.length ∧ Pv i σ' H', ⟨_, rfl, Nat.zero_le _, h0⟩, ?_⟩
 rintro i m σ' H' ⟨rfl, hi, p⟩
 have q := hl i σ' H' hi p
 by_cases hlt : i < kvs.length
 ·refine .inr ⟨⟨q, hlt⟩, Pv (i + 1), fun σ' H' p' => ⟨kvs.length - (i + 1), by omega, rfl, hlt, p'⟩, fun v H2 y => ?_⟩
  obtain ⟨T, b, k, x, hx, hb, hT, rfl, rfl⟩ := y
  exact hs i k x b T σ' _ hx p hb hT
 ·have e : i = kvs.length := by omega
  subst e
  exact .inl ⟨⟨q, Nat.le_refl _⟩, hd σ' H' p⟩
end
end L2
namespace P3
open PySem L2 Nt Sort2
noncomputable def spCopy : Sp := fun vs H Q _ => ∃ (R : Addr) (as : List (Addr × Addr)) (n : Net), vs = [.ref R] ∧ RowsAt H R as n ∧ n.length ≤ 1000 ∧ ∀ L as' H', Same H H' → H L = none → (∀ a ∈ as', H a.1 = none ∧ H a.2 = none) → RowsAt H' L as' n → Q (.ref L) H'
section
variable {P : Program} {w : World} {K : PySem.W.Frag} {mg : Str → Option Value} {base : Heap}
theorem free_back {H H' : Hp} {l : Addr} (s : Same H H') (h : H' l = none) : H l = none := by
 cases e : H l with
 | none => rfl
 | some v => rw [s _ _ e] at h; cases h
noncomputable abbrev NC : List Str := ["_law_rows"]
noncomputable abbrev NC' : List Str := ["_law_rows", "_law_row"]
theorem scCopy : FnScope NC ["_law_rows"] (defScope sCopy) := ⟨rfl, rfl, rfl, by decide +kernel, rfl, by decide +kernel, by decide +kernel⟩
theorem nd_c : NC'.Nodup := by decide +kernel
theorem ok_copy {f : Addr} {fd : FuncData} (F : Fun K "_law_copy" "_law_copy" sCopy f fd) (T : Txt mg) : FnOk P w K mg base CX0 1 f fd ["_law_rows"] spCopy := by
 refine F.gb scCopy (fun vs H Q E h => ?_) (fun b0 H vs Q E hr h => ?_)
 ·obtain ⟨R, as, n, rfl, _⟩ := h
  rfl
 obtain ⟨R, as, n, rfl, hR, hn, q⟩ := h
 have nd := scCopy.nd
 have hal := hR.len
 show Run _ _ _ [some (.ref R)] H
 refine run_ret (ev_comp (defScope sCopy) NC NC' 1 (pi_list pe_ev) (ev_v 0 ⟨R, rfl, ⟨_, SqL.of hR.lst⟩, fun D hD => ?_⟩))
 refine comp_listP (xs := as.map fun a => V.ref a.1) (fun i σ' H' => (∃ v, σ' = [some (.ref R)] ++ [v]) ∧ ∃ bs : List (Addr × Addr), bs.length = i ∧ H' D = some (.lst (bs.map fun a => .ref a.1)) ∧
  (∀ (j : Nat) a r, bs[j]? = some a → n[j]? = some r → H' a.1 = some (.tup [.str r.1, .ref a.2]) ∧ H' a.2 = some (Ls r.2)) ∧ (bs.map (·.2)).Nodup ∧ (∀ a ∈ bs, a.2 ≠ D ∧ H a.1 = none ∧ H a.2 = none ∧ ∃ zs, H' a.2 = some (Ls zs)) ∧ Same H H')
  ⟨⟨none, rfl⟩, [], rfl, upd_same, fun j a r h => by simp at h, List.nodup_nil, fun a h => by simp at h, same_new hD _⟩ ?_ ?_ ?_
 ·rintro i σ' H' _ ⟨_, bs, _, _, _, _, _, sm⟩
  exact SqL.of (sm _ _ hR.lst)
 ·rintro i x σ' H' hx ⟨⟨v, rfl⟩, bs, hb1, hb2, hb3, hb4, hb5, sm⟩
  have hi : i < n.length := by
   have := (List.getElem?_eq_some_iff.mp hx).1
   rw [List.length_map] at this
   omega
  obtain ⟨a, ea, eat, et, el, er⟩ := (hR.same sm).at hi
  rw [List.getElem?_map, ea] at hx
  cases hx
  intro cl C' s₀ H₀ ex
  refine eg_name 1 nd_c ?_
  intro cl C' s₀ H₀ ex
  refine ei_nil ?_
  rw [if_pos rfl]
  intro cl C' s₀ H₀ ex
  refine ev_tup (ea_cons (ev_ix ix_tup (ev_v 1 (ev_int ⟨a.1, _, _, .str n[i].1, rfl, rfl, SqT.of et, rfl, ?_⟩))))
  refine ea_cons (ev_typ call_list_of T.tlist PyProof.Rows.boot_list (ea_cons (ev_ix ix_tup (ev_v 1 (ev_int ⟨a.1, _, _, .ref a.2, rfl, rfl, SqT.of et, rfl, ?_⟩)))))
  refine ea_nil ⟨a.2, _, rfl, .inl (SqL.of el), fun l hl => ea_nil ⟨(by show 2 ≤ sizeLine; decide), fun t ht => ?_⟩⟩
  have hl0 := free_back sm hl
  have ntl : t ≠ l := fun e => by rw [e, upd_same] at ht; cases ht
  have ht' : H' t = none := by rw [upd_ne ntl] at ht; exact ht
  have ht0 := free_back sm ht'
  have nlD : l ≠ D := fun e => by rw [e] at hl; rw [hl] at hb2; cases hb2
  have ntD : t ≠ D := fun e => by rw [e] at ht'; rw [ht'] at hb2; cases hb2
  refine ⟨bs.map fun a => .ref a.1, ?_, ?_, ⟨_, rfl⟩, bs ++ [(t, l)], by rw [List.length_append, hb1]; rfl, ?_, ?_, ?_, ?_, ?_⟩
  ·rw [upd_ne (Ne.symm ntD), upd_ne (Ne.symm nlD)]
   exact hb2
  ·rw [List.length_map]
   exact small' (by omega)
  ·rw [upd_same, List.map_append]
   rfl
  ·intro j b r hb hr'
   by_cases hj : j < bs.length
   ·rw [List.getElem?_append_left hj] at hb
    obtain ⟨q1, q2⟩ := hb3 j b r hb hr'
    have hbD := (hb5 b (List.mem_of_getElem? hb)).1
    have n1 : b.1 ≠ D := ne_of q1 hb2 fun z => nomatch z
    refine ⟨?_, ?_⟩
    ·rw [upd_ne n1, upd_ne (ne_of_none q1 ht'), upd_ne (ne_of_none q1 hl)]
     exact q1
    ·rw [upd_ne hbD, upd_ne (ne_of_none q2 ht'), upd_ne (ne_of_none q2 hl)]
     exact q2
   ·rw [List.getElem?_append_right (by omega)] at hb
    have hj2 : j - bs.length = 0 := by
     have := (List.getElem?_eq_some_iff.mp hb).1
     simp at this
     omega
    have hji : j = i := by omega
    rw [hj2] at hb
    cases hb
    rw [hji, List.getElem?_eq_getElem hi] at hr'
    cases hr'
    refine ⟨?_, ?_⟩
    ·rw [upd_ne ntD, upd_same]
    ·rw [upd_ne nlD, upd_ne (Ne.symm ntl), upd_same, er]
  ·rw [List.map_append]
   refine nd_snoc hb4 fun hm => ?_
   obtain ⟨b, hb, e⟩ := List.mem_map.mp hm
   obtain ⟨_, _, _, zs, q⟩ := hb5 b hb
   have e' : b.2 = l := e
   rw [e', hl] at q
   cases q
  ·intro b hb
   rcases List.mem_append.mp hb with hb | hb
   ·obtain ⟨q1, q2, q3, zs, q4⟩ := hb5 b hb
    refine ⟨q1, q2, q3, zs, ?_⟩
    rw [upd_ne q1, upd_ne (ne_of_none q4 ht'), upd_ne (ne_of_none q4 hl)]
    exact q4
   ·rw [List.mem_singleton.mp hb]
    refine ⟨nlD, ht0, hl0, row n i, ?_⟩
    rw [upd_ne nlD, upd_ne (Ne.symm ntl), upd_same]
  ·intro c o hc
   rw [upd_ne (ne_of_none hc hD), upd_ne (ne_of_none hc ht0), upd_ne (ne_of_none hc hl0)]
   exact sm _ _ hc
 ·rintro σ' H' ⟨_, bs, hb1, hb2, hb3, hb4, hb5, sm⟩
  rw [List.length_map] at hb1
  exact q D bs H' sm hD (fun a ha => ⟨(hb5 a ha).2.1, (hb5 a ha).2.2.1⟩) ⟨by omega, hb2, hb3, hb4⟩
end
noncomputable abbrev Tn (p : Str) (j : Int) : HO := .tup [.str p, .int j]
noncomputable def spEnds : Sp := fun vs H Q _ => ∃ (t l : Addr) (p : Str) (zs : List Str), vs = [.ref t] ∧ H t = some (.tup [.str p, .ref l]) ∧ H l = some (Ls zs) ∧ zs.length ≤ 1000 ∧
 ∀ (L : Addr) (ts : List Addr) (H' : Hp), Same H H' → H L = none → H' L = some (.lst (ts.map V.ref)) → ts.length = zs.length → (∀ (j : Nat) t, ts[j]? = some t → H' t = some (Tn p j)) → Q (.ref L) H'
section
variable {X : Cx} {elt tg : Expr} {ifs : List Expr} {scope : Scope} {σ : St} {H : Hp} {N' : List Str} {A : Addr} {after : Hp → Prop}
theorem comp_rangeP {lo : Int} {n : Nat} (Pv : Nat → St → Hp → Prop) (h0 : Pv 0 σ H)
  (hs : ∀ i σ' H', i < n → Pv i σ' H' → CEg X N' scope tg (.int (lo + i)) σ' H' fun σ2 H3 => CEi X N' scope ifs σ2 H3 fun b H4 =>
   if b = true then CEv X N' scope elt σ2 H4 fun v H5 => ∃ ys, H5 A = some (.lst ys) ∧ ys.length < sizeLine ∧ Pv (i + 1) σ2 (upd H5 A (.lst (ys ++ [v]))) else Pv (i + 1) σ2 H4)
  (hd : ∀ σ' H', Pv n σ' H' → after H') : CompL X N' scope tg ifs elt (Itr lo n) A after σ H := by
 refine ⟨fun i m σ' H' => m = n - i ∧ i ≤ n ∧ Pv i σ' H', ⟨_, rfl, Nat.zero_le _, h0⟩, ?_⟩
 rintro i m σ' H' ⟨rfl, hi, p⟩
 by_cases hlt : i < n
 ·refine .inr ⟨hlt, Pv (i + 1), fun σ' H' p' => ⟨n - (i + 1), by omega, rfl, hlt, p'⟩, fun x H2 y => ?_⟩
  obtain ⟨e, y⟩ := y
  subst e y
  exact hs i σ' _ hlt p
 ·have e : i = n := by omega
  subst e
  exact .inl ⟨Nat.le_refl _, hd σ' H' p⟩
end
section
variable {P : Program} {w : World} {K : PySem.W.Frag} {mg : Str → Option Value} {base : Heap}
noncomputable abbrev NE1 : List Str := ["row", "point", "ties"]
noncomputable abbrev NE2 : List Str := ["row", "point", "ties", "place"]
theorem scEnds : FnScope NE1 ["row"] (defScope sEnds) := ⟨rfl, rfl, rfl, by decide +kernel, rfl, by decide +kernel, by decide +kernel⟩
theorem nd_e2 : NE2.Nodup := by decide +kernel
theorem ok_ends {f : Addr} {fd : FuncData} (F : Fun K "ends_round" "ends_round" sEnds f fd) (T : Txt mg) : FnOk P w K mg base CX0 1 f fd ["row"] spEnds := by
 refine F.gb scEnds (fun vs H Q E h => ?_) (fun b0 H vs Q E hr h => ?_)
 ·obtain ⟨t, l, p, zs, rfl, _⟩ := h
  rfl
 obtain ⟨t, l, p, zs, rfl, ht, hl, hz, q⟩ := h
 have nd := scEnds.nd
 show Run _ _ _ [some (.ref t), none, none] H
 refine run_asg (ev_v 0 (eg_pair rfl (SqT.of ht) (eg_name 1 nd (eg_name 2 nd ?_))))
 show Run _ _ _ [some (.ref t), some (.str p), some (.ref l)] H
 refine run_ret (ev_comp (defScope sEnds) NE1 NE2 1 (pi_range1 rfl T.range (ta := tEa _ _) pa_ea (star_one _ [] _ rfl)) ?_)
 show Ea _ _ _ _ _
 refine ea_cons (ev_blt call_len_seq T.len boot_len (ea_cons (ev_v 2 (ea_nil ⟨l, _, rfl, .inl (SqL.of hl), ea_nil ⟨_, rfl, by omega, by rw [List.length_map]; omega, fun D hD => ?_⟩⟩))))
 rw [List.length_map, Int.toNat_natCast]
 refine comp_rangeP (fun i σ' H' => (∃ v, σ' = [some (.ref t), some (.str p), some (.ref l)] ++ [v]) ∧ ∃ ts : List Addr, ts.length = i ∧ H' D = some (.lst (ts.map V.ref)) ∧ (∀ (j : Nat) t, ts[j]? = some t → H' t = some (Tn p j)) ∧ Same H H')
  ⟨⟨none, rfl⟩, [], rfl, upd_same, fun j t h => by simp at h, same_new hD _⟩ ?_ ?_
 ·rintro i σ' H' hi ⟨⟨v, rfl⟩, ts, hl1, eD, hts, sm⟩
  rw [Int.zero_add]
  intro cl C' s₀ H₀ ex
  refine eg_name 3 nd_e2 ?_
  intro cl C' s₀ H₀ ex
  refine ei_nil ?_
  rw [if_pos rfl]
  intro cl C' s₀ H₀ ex
  refine ev_tup (ea_cons (ev_v 1 (ea_cons (ev_v 3 (ea_nil ⟨(by show 2 ≤ sizeLine; decide), fun u hu => ?_⟩)))))
  have nu : u ≠ D := fun e => by rw [e, eD] at hu; cases hu
  have hu0 := free_back sm hu
  refine ⟨ts.map V.ref, by rw [upd_ne (Ne.symm nu)]; exact eD, by rw [List.length_map]; exact small' (by omega), ⟨_, rfl⟩, ts ++ [u], by rw [List.length_append, hl1]; rfl, by rw [upd_same, List.map_append]; rfl, ?_, ?_⟩
  ·intro j t' ht'
   by_cases hj : j < ts.length
   ·rw [List.getElem?_append_left hj] at ht'
    have e := hts j t' ht'
    have n1 : t' ≠ D := ne_of e eD fun z => nomatch z
    rw [upd_ne n1, upd_ne (ne_of_none e hu)]
    exact e
   ·rw [List.getElem?_append_right (by omega)] at ht'
    have hj2 : j - ts.length = 0 := by
     have := (List.getElem?_eq_some_iff.mp ht').1
     simp at this
     omega
    rw [hj2] at ht'
    cases ht'
    have : j = i := by omega
    rw [this, upd_ne nu, upd_same]
  ·intro c o hc
   rw [upd_ne (ne_of_none hc hD), upd_ne (ne_of_none hc hu0)]
   exact sm _ _ hc
 ·rintro σ' H' ⟨_, ts, hl1, eD, hts, sm⟩
  exact q D ts H' sm hD eD hl1 hts
end
end P3
namespace P3
open PySem L2 Nt Sort2
noncomputable def spTL (g : Int → Int) : Sp := fun vs H Q _ => ∃ (e : Addr) (p : Str) (j m : Int), vs = [.ref e, .int m] ∧ H e = some (Tn p j) ∧ 0 < m ∧ ∀ t H', Same H H' → H' t = some (Tn p (g j % m)) → Q (.ref t) H'
section
variable {P : Program} {w : World} {K : PySem.W.Frag} {mg : Str → Option Value} {base : Heap}
noncomputable abbrev NT1 : List Str := ["end", "many", "point", "place"]
theorem scLeft : FnScope NT1 ["end", "many"] (defScope sLeft) := ⟨rfl, rfl, rfl, by decide +kernel, rfl, by decide +kernel, by decide +kernel⟩
theorem scRightT : FnScope NT1 ["end", "many"] (defScope sRightT) := ⟨rfl, rfl, rfl, by decide +kernel, rfl, by decide +kernel, by decide +kernel⟩
theorem ok_left {f : Addr} {fd : FuncData} (F : Fun K "turned_left" "turned_left" sLeft f fd) (T : Txt mg) : FnOk P w K mg base CX0 1 f fd ["end", "many"] (spTL fun j => j + 1) := by
 refine F.gb scLeft (fun vs H Q E h => ?_) (fun b0 H vs Q E hr h => ?_)
 ·obtain ⟨e, p, j, m, rfl, _⟩ := h
  rfl
 obtain ⟨e, p, j, m, rfl, he, hm, q⟩ := h
 have nd := scLeft.nd
 show Run _ _ _ [some (.ref e), some (.int m), none, none] H
 refine run_asg (ev_v 0 (eg_pair rfl (SqT.of he) (eg_name 2 nd (eg_name 3 nd ?_))))
 refine run_ret (ev_tup (ea_cons (ev_v 2 (ea_cons (ev_op op_mod (ev_op op_add (ev_v 3 (ev_int ⟨_, _, rfl, rfl, ev_v 1 ⟨_, _, rfl, rfl, (by show 0 < m; exact hm), ea_nil ⟨(by show 2 ≤ sizeLine; decide), fun t ht => ?_⟩⟩⟩))))))))
 exact q t _ (same_new ht _) upd_same
theorem ok_rightT {f : Addr} {fd : FuncData} (F : Fun K "turned_right" "turned_right" sRightT f fd) (T : Txt mg) : FnOk P w K mg base CX0 1 f fd ["end", "many"] (spTL fun j => j - 1) := by
 refine F.gb scRightT (fun vs H Q E h => ?_) (fun b0 H vs Q E hr h => ?_)
 ·obtain ⟨e, p, j, m, rfl, _⟩ := h
  rfl
 obtain ⟨e, p, j, m, rfl, he, hm, q⟩ := h
 have nd := scRightT.nd
 show Run _ _ _ [some (.ref e), some (.int m), none, none] H
 refine run_asg (ev_v 0 (eg_pair rfl (SqT.of he) (eg_name 2 nd (eg_name 3 nd ?_))))
 refine run_ret (ev_tup (ea_cons (ev_v 2 (ea_cons (ev_op op_mod (ev_op op_sub (ev_v 3 (ev_int ⟨_, _, rfl, rfl, ev_v 1 ⟨_, _, rfl, rfl, (by show 0 < m; exact hm), ea_nil ⟨(by show 2 ≤ sizeLine; decide), fun t ht => ?_⟩⟩⟩))))))))
 exact q t _ (same_new ht _) upd_same
theorem fold_new {kvs : List (Key × V)} : ∀ {acc : List (Key × V)}, ((acc ++ kvs).map (·.1)).Nodup → kvs.foldl (fun a p => putK a p.1 p.2) acc = acc ++ kvs := by
 induction kvs with
 | nil => intro acc _; simp
 | cons p r ih =>
  intro acc h
  have hn : valV acc p.1 = none := by
   cases e : valV acc p.1 with
   | none => rfl
   | some v =>
    have hm := valV_in e
    rw [List.map_append, List.map_cons] at h
    exact absurd rfl ((List.nodup_append.mp h).2.2 _ hm _ List.mem_cons_self)
  rw [List.foldl_cons, putK_new _ hn, ih (by rw [List.append_assoc]; exact h), List.append_assoc]
  rfl
theorem valV_at : ∀ {kvs : List (Key × V)} {i : Nat} {p : Key × V}, (kvs.map (·.1)).Nodup → kvs[i]? = some p → valV kvs p.1 = some p.2
 | [], _, _, _, h => by simp at h
 | q :: r, 0, p, _, h => by
  cases h
  exact valV_pos rfl
 | q :: r, i + 1, p, hn, h => by
  rw [List.map_cons, List.nodup_cons] at hn
  have hm : r[i]? = some p := by simpa using h
  rw [valV_neg fun e => hn.1 (by rw [e]; exact List.mem_map.mpr ⟨p, List.mem_of_getElem? hm, rfl⟩)]
  exact valV_at hn.2 hm
noncomputable def rowKvs (n : Net) (as : List (Addr × Addr)) : List (Key × V) := List.zipWith (fun r a => (Sum.inr r.1, V.ref a.2)) n as
theorem rowKvs_keys : ∀ (n : Net) (as : List (Addr × Addr)), as.length = n.length → (rowKvs n as).map (·.1) = (n.map (·.1)).map Sum.inr
 | [], [], _ => rfl
 | [], _ :: _, h => by simp at h
 | _ :: _, [], h => by simp at h
 | r :: n, a :: as, h => by
  have := rowKvs_keys n as (by simpa using h)
  show Sum.inr r.1 :: (rowKvs n as).map (·.1) = _
  rw [this]
  rfl
theorem rowKvs_at {n : Net} {as : List (Addr × Addr)} {i : Nat} {r : Str × List Str} {a : Addr × Addr} (h1 : n[i]? = some r) (h2 : as[i]? = some a) : (rowKvs n as)[i]? = some (Sum.inr r.1, .ref a.2) := by
 unfold rowKvs
 rw [List.getElem?_zipWith, h1, h2]
theorem nodup_inr {l : List Str} (h : l.Nodup) : (l.map (Sum.inr : Str → Key)).Nodup := by
 rw [List.nodup_iff_pairwise_ne, List.pairwise_map]
 exact (List.nodup_iff_pairwise_ne.mp h).imp fun h q => h (Sum.inr.inj q)
end
noncomputable def nameAt (n : Net) (r : Nat) : Str := ((n[r]?).map (·.1)).getD ⟨#[]⟩
noncomputable def key (n : Net) (e : Nt.End) : List Key := [Sum.inr (nameAt n e.1), Sum.inl (e.2 : Int)]
noncomputable abbrev TN (n : Net) (e : Nt.End) : HO := Tn (nameAt n e.1) (e.2 : Int)
theorem nameAt_eq {n : Net} {r : Nat} (h : r < n.length) : nameAt n r = n[r].1 := by unfold nameAt; rw [List.getElem?_eq_getElem h]; rfl
theorem key_inj {n : Net} (hN : (n.map (·.1)).Nodup) {a b : Nt.End} (ha : a.1 < n.length) (hb : b.1 < n.length) (h : key n a = key n b) : a = b := by
 unfold key at h
 injection h with h1 h2
 injection h2 with h2 _
 have e1 := Sum.inr.inj h1
 have e2 := Sum.inl.inj h2
 rw [nameAt_eq ha, nameAt_eq hb] at e1
 have e3 : a.1 = b.1 := by
  have la : a.1 < (n.map (·.1)).length := by rw [List.length_map]; exact ha
  have lb : b.1 < (n.map (·.1)).length := by rw [List.length_map]; exact hb
  refine (List.getElem_inj (i := a.1) (j := b.1) (h₀ := la) (h₁ := lb) hN).mp ?_
  rw [List.getElem_map, List.getElem_map]
  exact e1
 exact Prod.ext e3 (by omega)
theorem seats_split {n : Net} {r p : Nat} {z : Str} (hr : r < n.length) (hz : (row n r)[p]? = some z) : ∃ rest, seats n = (seats (n.take r) ++ rowSeats r ((row n r).take p) 0) ++ (z, (r, p)) :: rest := by
 have e1 : seats n = seats (n.take (r + 1)) ++ seatsFrom (0 + (n.take (r + 1)).length) (n.drop (r + 1)) := by
  have := seatsFrom_append (n.take (r + 1)) (n.drop (r + 1)) 0
  rw [List.take_append_drop] at this
  exact this
 have e2 : rowSeats r (row n r) 0 = rowSeats r ((row n r).take (p + 1)) 0 ++ rowSeats r ((row n r).drop (p + 1)) (0 + ((row n r).take (p + 1)).length) := by
  unfold rowSeats
  rw [← List.map_append, ← List.zipIdx_append, List.take_append_drop]
 rw [e1, seats_take hr, e2, rowSeats_take hz]
 refine ⟨rowSeats r ((row n r).drop (p + 1)) (0 + ((row n r).take (p + 1)).length) ++ seatsFrom (0 + (n.take (r + 1)).length) (n.drop (r + 1)), ?_⟩
 simp only [List.append_assoc, List.cons_append, List.nil_append]
theorem keys_putK {κ : Type} [DecidableEq κ] (kvs : List (κ × V)) (k : κ) (v : V) : (putK kvs k v).map (·.1) = if k ∈ kvs.map (·.1) then kvs.map (·.1) else kvs.map (·.1) ++ [k] := by
 have e : (kvs.any fun kv => decide (kv.1 = k)) = decide (k ∈ kvs.map (·.1)) := by
  rw [Bool.eq_iff_iff, List.any_eq_true, decide_eq_true_iff, List.mem_map]
  exact ⟨fun ⟨p, h1, h2⟩ => ⟨p, h1, of_decide_eq_true h2⟩, fun ⟨p, h1, h2⟩ => ⟨p, h1, decide_eq_true h2⟩⟩
 unfold putK
 rw [e]
 by_cases h : k ∈ kvs.map (·.1)
 ·rw [if_pos (decide_eq_true h), if_pos h, List.map_map]
  refine List.map_congr_left fun p _ => ?_
  show (if p.1 = k then (p.1, v) else p).1 = p.1
  split <;> rfl
 ·rw [if_neg (by simpa using h), if_neg h, List.map_append]
  rfl
theorem mem_putK {κ : Type} [DecidableEq κ] {kvs : List (κ × V)} {k j : κ} {v : V} : j ∈ (putK kvs k v).map (·.1) ↔ j ∈ kvs.map (·.1) ∨ j = k := by
 rw [keys_putK]
 split
 ·exact ⟨.inl, fun h => h.elim id fun e => by rw [e]; assumption⟩
 ·rw [List.mem_append, List.mem_singleton]
theorem nodup_putK {κ : Type} [DecidableEq κ] {kvs : List (κ × V)} {k : κ} {v : V} (h : (kvs.map (·.1)).Nodup) : ((putK kvs k v).map (·.1)).Nodup := by
 rw [keys_putK]
 split
 ·exact h
 ·rename_i hn
  exact nd_snoc h hn
structure OEI (n : Net) (done : List (Str × Nt.End)) (H : Hp) (kM : List (Key × V)) (kO : List (List Key × V)) : Prop where
 m0 : ∀ z, posIn done z = [] → valV kM (Sum.inr z) = none
 m1 : ∀ z a rest, posIn done z = a :: rest → ∃ t, valV kM (Sum.inr z) = some (.ref t) ∧ H t = some (TN n a)
 o : ∀ z a b rest, posIn done z = a :: b :: rest → (∃ u, valV kO (key n a) = some (.ref u) ∧ H u = some (TN n b)) ∧ ∃ u, valV kO (key n b) = some (.ref u) ∧ H u = some (TN n a)
 sub : ∀ p ∈ done, tieAt n p.2 = some p.1
 lenM : kM.length ≤ done.length
 lenO : kO.length ≤ 2 * done.length
 ks : ∀ k ∈ kO.map (·.1), ∃ p ∈ done, k = key n p.2
 nd : (kO.map (·.1)).Nodup
theorem OEI.keep {n : Net} {done : List (Str × Nt.End)} {H H' : Hp} {kM : List (Key × V)} {kO : List (List Key × V)} (I : OEI n done H kM kO) (k : ∀ t p j, H t = some (Tn p j) → H' t = some (Tn p j)) : OEI n done H' kM kO where
 m0 := I.m0
 m1 := fun z a rest h => let ⟨t, e1, e2⟩ := I.m1 z a rest h; ⟨t, e1, k _ _ _ e2⟩
 o := fun z a b rest h => let ⟨⟨u, e1, e2⟩, ⟨v, e3, e4⟩⟩ := I.o z a b rest h; ⟨⟨u, e1, k _ _ _ e2⟩, ⟨v, e3, k _ _ _ e4⟩⟩
 sub := I.sub
 lenM := I.lenM
 lenO := I.lenO
 ks := I.ks
 nd := I.nd
theorem posIn_mem {done : List (Str × Nt.End)} {z : Str} {a : Nt.End} (h : a ∈ posIn done z) : (z, a) ∈ done := by
 unfold posIn at h
 obtain ⟨⟨y, b⟩, hm, rfl⟩ := List.mem_map.mp h
 obtain ⟨h1, h2⟩ := List.mem_filter.mp hm
 have : y = z := of_decide_eq_true h2
 subst this
 exact h1
theorem OEI.new {n : Net} {done : List (Str × Nt.End)} {H : Hp} {kM : List (Key × V)} {kO : List (List Key × V)} (I : OEI n done H kM kO) {z : Str} {e : Nt.End} {t : Addr} (ht : H t = some (TN n e)) (hz : tieAt n e = some z) (h0 : posIn done z = []) :
  OEI n (done ++ [(z, e)]) H (putK kM (Sum.inr z) (.ref t)) kO where
 m0 := fun y hy => by
  rw [posIn_snoc] at hy
  obtain ⟨h1, h2⟩ := List.append_eq_nil_iff.mp hy
  have hne : ¬ z = y := fun q => by rw [if_pos q] at h2; cases h2
  rw [valV_put, if_neg (fun q => hne (Sum.inr.inj q).symm)]
  exact I.m0 y h1
 m1 := fun y a rest hy => by
  rw [posIn_snoc] at hy
  by_cases q : z = y
  ·subst q
   rw [h0, if_pos rfl] at hy
   cases hy
   exact ⟨t, by rw [valV_put, if_pos rfl], ht⟩
  ·rw [if_neg q, List.append_nil] at hy
   obtain ⟨u, e1, e2⟩ := I.m1 y a rest hy
   exact ⟨u, by rw [valV_put, if_neg (fun p => q (Sum.inr.inj p).symm)]; exact e1, e2⟩
 o := fun y a b rest hy => by
  rw [posIn_snoc] at hy
  by_cases q : z = y
  ·subst q
   rw [h0, if_pos rfl] at hy
   cases hy
  ·rw [if_neg q, List.append_nil] at hy
   exact I.o y a b rest hy
 sub := fun p hp => by
  rcases List.mem_append.mp hp with h | h
  ·exact I.sub p h
  ·rw [List.mem_singleton.mp h]
   exact hz
 lenM := by
  have := length_putK kM (Sum.inr z) (.ref t)
  have := I.lenM
  rw [List.length_append, List.length_singleton]
  omega
 lenO := by
  have := I.lenO
  rw [List.length_append, List.length_singleton]
  omega
 ks := fun k hk => let ⟨p, hp, e⟩ := I.ks k hk; ⟨p, List.mem_append_left _ hp, e⟩
 nd := I.nd
theorem OEI.old {n : Net} (hN : (n.map (·.1)).Nodup) {done : List (Str × Nt.End)} {H : Hp} {kM : List (Key × V)} {kO : List (List Key × V)} (I : OEI n done H kM kO) {z : Str} {e a : Nt.End} {te tm : Addr} (ht : H te = some (TN n e)) (hm : H tm = some (TN n a)) (hz : tieAt n e = some z) (h1 : posIn done z = [a]) (hae : a ≠ e) :
  OEI n (done ++ [(z, e)]) H kM (putK (putK kO (key n e) (.ref tm)) (key n a) (.ref te)) where
 m0 := fun y hy => by
  rw [posIn_snoc] at hy
  exact I.m0 y (List.append_eq_nil_iff.mp hy).1
 m1 := fun y c rest hy => by
  rw [posIn_snoc] at hy
  by_cases q : z = y
  ·subst q
   rw [h1, if_pos rfl] at hy
   cases hy
   exact I.m1 z a [] h1
  ·rw [if_neg q, List.append_nil] at hy
   exact I.m1 y c rest hy
 o := fun y c b rest hy => by
  rw [posIn_snoc] at hy
  have ta : tieAt n a = some z := I.sub (z, a) (posIn_mem (by rw [h1]; exact List.mem_singleton.mpr rfl))
  by_cases q : z = y
  ·subst q
   rw [h1, if_pos rfl] at hy
   cases hy
   refine ⟨⟨te, by rw [valV_put, if_pos rfl], ht⟩, ⟨tm, ?_, hm⟩⟩
   rw [valV_put, if_neg (fun p => hae (key_inj hN (row_lt hz) (row_lt ta) p).symm), valV_put, if_pos rfl]
  ·rw [if_neg q, List.append_nil] at hy
   have tc : tieAt n c = some y := I.sub (y, c) (posIn_mem (by rw [hy]; exact List.mem_cons_self))
   have tb : tieAt n b = some y := I.sub (y, b) (posIn_mem (by rw [hy]; exact List.mem_cons_of_mem _ List.mem_cons_self))
   have ne : ∀ x : Nt.End, tieAt n x = some y → ¬ key n x = key n a ∧ ¬ key n x = key n e := fun x hx => by
    refine ⟨fun p => ?_, fun p => ?_⟩
    ·have := key_inj hN (row_lt hx) (row_lt ta) p
     rw [this, ta] at hx
     exact q (Option.some.inj hx)
    ·have := key_inj hN (row_lt hx) (row_lt hz) p
     rw [this, hz] at hx
     exact q (Option.some.inj hx)
   obtain ⟨⟨u, e1, e2⟩, ⟨v, e3, e4⟩⟩ := I.o y c b rest hy
   refine ⟨⟨u, ?_, e2⟩, ⟨v, ?_, e4⟩⟩
   ·rw [valV_put, if_neg (ne c tc).1, valV_put, if_neg (ne c tc).2]
    exact e1
   ·rw [valV_put, if_neg (ne b tb).1, valV_put, if_neg (ne b tb).2]
    exact e3
 sub := fun p hp => by
  rcases List.mem_append.mp hp with h | h
  ·exact I.sub p h
  ·rw [List.mem_singleton.mp h]
   exact hz
 lenM := by
  have := I.lenM
  rw [List.length_append, List.length_singleton]
  omega
 lenO := by
  have h1 := length_putK (putK kO (key n e) (.ref tm)) (key n a) (.ref te)
  have h2 := length_putK kO (key n e) (.ref tm)
  have := I.lenO
  rw [List.length_append, List.length_singleton]
  omega
 ks := fun k hk => by
  rcases mem_putK.mp hk with hk | rfl
  ·rcases mem_putK.mp hk with hk | rfl
   ·obtain ⟨p, hp, e⟩ := I.ks k hk
    exact ⟨p, List.mem_append_left _ hp, e⟩
   ·exact ⟨(z, e), List.mem_append_right _ (List.mem_singleton.mpr rfl), rfl⟩
  ·exact ⟨(z, a), List.mem_append_left _ (posIn_mem (by rw [h1]; exact List.mem_singleton.mpr rfl)), rfl⟩
 nd := nodup_putK (nodup_putK I.nd)
theorem OEI.whole {n : Net} (T : Twice n) {H : Hp} {kM : List (Key × V)} {kO : List (List Key × V)} (I : OEI n (seats n) H kM kO) {e : Nt.End} (he : e ∈ ends n) : ∃ u, valV kO (key n e) = some (.ref u) ∧ H u = some (TN n (other n e)) := by
 obtain ⟨z, hz⟩ := mem_ends.mp he
 obtain ⟨a, b, hp, hab, hor⟩ := pos_two T hz
 have hp' : posIn (seats n) z = a :: b :: [] := hp
 have ta : tieAt n a = some z := mem_pos.mp (by rw [hp]; simp)
 have tb : tieAt n b = some z := mem_pos.mp (by rw [hp]; simp)
 obtain ⟨o1, o2⟩ := I.o z a b [] hp'
 rcases hor with rfl | rfl
 ·have : b = other n e := ((tie_two T hz).mp tb).resolve_left (Ne.symm hab)
  rw [← this]
  exact o1
 ·have : a = other n e := ((tie_two T hz).mp ta).resolve_left hab
  rw [← this]
  exact o2
noncomputable def spOE : Sp := fun vs H Q _ => ∃ (R : Addr) (as : List (Addr × Addr)) (n : Net), vs = [.ref R] ∧ RowsAt H R as n ∧ (n.map (·.1)).Nodup ∧ Twice n ∧ n.length ≤ 1000 ∧ (ties n).length ≤ 1000 ∧
 ∀ (d : Addr) (kvs : List (List Key × V)) (H' : Hp), Same H H' → H d = none → H' d = some (.dT kvs) → (∀ e ∈ ends n, ∃ u, valV kvs (key n e) = some (.ref u) ∧ H' u = some (TN n (other n e))) → (kvs.map (·.1)).Nodup → (∀ k ∈ kvs.map (·.1), ∃ e ∈ ends n, k = key n e) → kvs.length ≤ 2000 → Q (.ref d) H'
section
variable {X : Cx} {D : Ends} {σ : St} {H : Hp} {body : List Stmt}
theorem loop_zip {tg : Expr} {a b : Addr} {xs ys : List V} {after : St → Hp → Prop} (hlen : xs.length = ys.length) (Pv : Nat → St → Hp → Prop) (h0 : Pv 0 σ H) (hl : ∀ i σ H, i ≤ xs.length → Pv i σ H → SqL X.K H a xs ∧ SqL X.K H b ys)
  (hs : ∀ i x y T σ H, xs[i]? = some x → ys[i]? = some y → Pv i σ H → H T = none → Eg X tg (.ref T) σ (upd H T (.tup [x, y])) fun σ2 H2 => Run X body { D with nx := Pv (i + 1), ct := Pv (i + 1), bk := after } σ2 H2) (hd : ∀ σ H, Pv xs.length σ H → after σ H) : Loop X tg body (Itz X.K a b) D after σ H := by
 refine ⟨fun i m σ H => m = xs.length - i ∧ i ≤ xs.length ∧ Pv i σ H, ⟨xs.length, by simp, Nat.zero_le _, h0⟩, ?_⟩
 rintro i m σ H ⟨rfl, hi, p⟩
 obtain ⟨q1, q2⟩ := hl i σ H hi p
 by_cases hlt : i < xs.length
 ·refine .inr ⟨⟨xs, ys, xs[i], ys[i], q1, q2, List.getElem?_eq_getElem hlt, List.getElem?_eq_getElem (by omega)⟩, Pv (i + 1), fun σ' H' p' => ⟨xs.length - (i + 1), by omega, rfl, hlt, p'⟩, fun v H' y => ?_⟩
  obtain ⟨T, x, y, hT, rfl, rfl, y1, y2⟩ := y
  exact hs i x y T σ _ (y1 xs q1) (y2 ys q2) p hT
 ·have e : i = xs.length := by omega
  subst e
  exact .inl ⟨⟨xs, ys, q1, q2, .inl (Nat.le_refl _)⟩, hd σ H p⟩
end
end P3
namespace P3
open PySem L2 Nt Sort2
section
variable {P : Program} {w : World} {K : PySem.W.Frag} {mg : Str → Option Value} {base : Heap}
noncomputable abbrev NOE : List Str := ["rows", "met", "others", "row", "end", "tie"]
theorem scOE : FnScope NOE ["rows"] (defScope sOthers) := ⟨rfl, rfl, rfl, by decide +kernel, rfl, by decide +kernel, by decide +kernel⟩
theorem tup_ne_dK {H : Hp} {t d : Addr} {xs : List V} {kvs : List (Key × V)} (h : H t = some (.tup xs)) (g : H d = some (.dK kvs)) : t ≠ d := ne_of h g fun z => nomatch z
theorem tup_ne_dT {H : Hp} {t d : Addr} {xs : List V} {kvs : List (List Key × V)} (h : H t = some (.tup xs)) (g : H d = some (.dT kvs)) : t ≠ d := ne_of h g fun z => nomatch z
theorem ok_OE {f : Addr} {fd : FuncData} (F : Fun K "other_ends" "other_ends" sOthers f fd) (T : Txt mg)
  (GE : Has P w K mg base 1 "ends_round" ["row"] spEnds) :
  FnOk P w K mg base CX0 2 f fd ["rows"] spOE := by
 refine F.gb scOE (fun vs H Q E h => ?_) (fun b0 H vs Q E hr h => ?_)
 ·obtain ⟨R, as, n, rfl, _⟩ := h
  rfl
 obtain ⟨R, as, n, rfl, hR, hN, hT, hn, ht, q⟩ := h
 have nd := scOE.nd
 have hal := hR.len
 have hu := hr.u1
 show Run _ _ _ [some (.ref R), none, none, none, none, none] H
 refine run_set 1 nd (ev_dnewK fun dm hdm => ?_)
 refine run_set 2 nd (ev_dnewT fun dO hdO => ?_)
 show Run _ _ _ [some (.ref R), some (.ref dm), some (.ref dO), none, none, none] (upd (upd H dm (.dK [])) dO (.dT []))
 have ndd : dO ≠ dm := fun e => by rw [e, upd_same] at hdO; cases hdO
 have hdO0 : H dO = none := by rw [upd_ne ndd] at hdO; exact hdO
 have em : (upd (upd H dm (.dK [])) dO (.dT [])) dm = some (.dK []) := by rw [upd_ne (Ne.symm ndd), upd_same]
 have eo : (upd (upd H dm (.dK [])) dO (.dT [])) dO = some (.dT []) := upd_same
 have s0 : Same H (upd (upd H dm (.dK [])) dO (.dT [])) := fun b o h => by rw [upd_ne (ne_of_none h hdO0), upd_ne (ne_of_none h hdm)]; exact h
 generalize upd (upd H dm (.dK [])) dO (.dT []) = H1 at em eo s0 ⊢
 refine run_forL (ev_v 0 ⟨R, rfl, ⟨_, SqL.of (s0 _ _ hR.lst)⟩, loop_list (xs := as.map fun a => V.ref a.1) (fun r σ H' => ∃ kM kO u1 u2 u3, Same H H' ∧ H' dm = some (.dK kM) ∧ H' dO = some (.dT kO) ∧ OEI n (seats (n.take r)) H' kM kO ∧ σ = [some (.ref R), some (.ref dm), some (.ref dO), u1, u2, u3])
  ⟨[], [], _, _, _, s0, em, eo, ⟨fun _ _ => rfl, fun z a rest h => (by cases h), fun z a b rest h => (by cases h), fun p h => (by cases h), Nat.zero_le _, Nat.zero_le _, fun k h => (by cases h), List.nodup_nil⟩, rfl⟩ ?_ ?_ ?_⟩)
 ·rintro r σ H' _ ⟨kM, kO, u1, u2, u3, sm, _⟩
  exact SqL.of (sm _ _ hR.lst)
 ·rintro r x σ H' hx ⟨kM, kO, u1, u2, u3, sm, em', eo', I, rfl⟩
  have hi : r < n.length := by
   have := (List.getElem?_eq_some_iff.mp hx).1
   rw [List.length_map] at this
   omega
  obtain ⟨a, ea, eat, et, el, er⟩ := (hR.same sm).at hi
  rw [List.getElem?_map, ea] at hx
  cases hx
  have hrl : (row n r).length ≤ 1000 := Nat.le_trans (row_le n r) ht
  have enm : nameAt n r = n[r].1 := nameAt_eq hi
  refine eg_name 3 nd ?_
  refine run_for (pi_zip rfl T.zip (ta := tEa _ _) pa_ea) ?_
  show Ea _ _ _ _ _
  refine ea_cons (ev_has GE hr (ea_cons (ev_v 3 (ea_nil ⟨a.1, a.2, n[r].1, row n r, rfl, et, el, hrl, fun L ts H5 s5 n5 e5 l5 t5 => ?_⟩))))
  refine ea_cons (ev_ix ix_tup (ev_v 3 (ev_int ⟨a.1, _, _, .ref a.2, rfl, rfl, SqT.of (s5 _ _ et), rfl, ea_nil ⟨L, a.2, rfl, ⟨_, SqL.of e5⟩, ⟨_, SqL.of (s5 _ _ el)⟩, ?_⟩⟩)))
  have em5 := s5 _ _ em'
  have eo5 := s5 _ _ eo'
  have el5 := s5 _ _ el
  refine loop_zip (xs := ts.map V.ref) (ys := (row n r).map V.str) (by rw [List.length_map, List.length_map, l5]) (fun p σ' H'' => ∃ kM kO u2 u3, (∀ b o, b ≠ dm → b ≠ dO → H5 b = some o → H'' b = some o) ∧ H'' dm = some (.dK kM) ∧ H'' dO = some (.dT kO) ∧ OEI n (seats (n.take r) ++ rowSeats r ((row n r).take p) 0) H'' kM kO ∧ σ' = [some (.ref R), some (.ref dm), some (.ref dO), some (.ref a.1), u2, u3])
   ⟨kM, kO, _, _, fun b o _ _ h => h, em5, eo5, ?_, rfl⟩ ?_ ?_ ?_
  ·have : rowSeats r ((row n r).take 0) 0 = [] := by simp [rowSeats]
   rw [this, List.append_nil]
   exact I.keep fun t p j h => s5 _ _ h
  ·rintro p σ' H'' _ ⟨kM, kO, u2, u3, kb, _, _, _, rfl⟩
   exact ⟨SqL.of (kb _ _ (ne_of e5 em5 fun z => nomatch z) (ne_of e5 eo5 fun z => nomatch z) e5), SqL.of (kb _ _ (ne_of el5 em5 fun z => nomatch z) (ne_of el5 eo5 fun z => nomatch z) el5)⟩
  ·rintro p x y Tt σ' H'' hx hy ⟨kM, kO, u2, u3, kb, em6, eo6, I6, rfl⟩ hTt
   rw [List.getElem?_map, Option.map_eq_some_iff] at hx hy
   obtain ⟨te, hte, rfl⟩ := hx
   obtain ⟨z, hz, rfl⟩ := hy
   have e5t := t5 p te hte
   have ete : H'' te = some (Tn n[r].1 p) := kb _ _ (tup_ne_dK e5t em5) (tup_ne_dT e5t eo5) e5t
   have htz : tieAt n (r, p) = some z := hz
   obtain ⟨rest, hsp⟩ := seats_split hi hz
   have hlen : (seats (n.take r) ++ rowSeats r ((row n r).take p) 0).length < 1000 := by
    have h1 : (seats n).length = (ties n).length := by
     have := congrArg List.length (seats_names n 0)
     rw [List.length_map] at this
     exact this
    have h2 := congrArg List.length hsp
    rw [List.length_append, List.length_cons] at h2
    omega
   have hnext : seats (n.take r) ++ rowSeats r ((row n r).take (p + 1)) 0 = (seats (n.take r) ++ rowSeats r ((row n r).take p) 0) ++ [(z, (r, p))] := by
    rw [rowSeats_take hz, List.append_assoc]
   have hfresh : ∀ b, b ∈ posIn (seats (n.take r) ++ rowSeats r ((row n r).take p) 0) z → b ≠ (r, p) := fun b hb e => by
    have hm := posIn_mem hb
    have hnd := ends_nodup n
    unfold ends at hnd
    rw [hsp, List.map_append, List.map_cons] at hnd
    exact (List.nodup_append.mp hnd).2.2 _ (List.mem_map.mpr ⟨_, hm, rfl⟩) _ List.mem_cons_self e
   have hcnt : (posIn (seats (n.take r) ++ rowSeats r ((row n r).take p) 0) z).length ≤ 1 := by
    have h1 : (pos n z).length = 2 := by rw [pos_len]; exact hT z (tie_mem htz)
    have h2 : pos n z = posIn (seats (n.take r) ++ rowSeats r ((row n r).take p) 0) z ++ posIn ((z, (r, p)) :: rest) z := by
     show posIn (seats n) z = _
     rw [hsp]
     unfold posIn
     rw [List.filter_append, List.map_append]
    have h3 : 1 ≤ (posIn ((z, (r, p)) :: rest) z).length := by
     unfold posIn
     rw [List.filter_cons, if_pos (by simp)]
     simp
    rw [h2, List.length_append] at h1
    omega
   generalize seats (n.take r) ++ rowSeats r ((row n r).take p) 0 = done at I6 hlen hnext hfresh hcnt
   rw [hnext]
   have hTm : Tt ≠ dm := fun e => by rw [e, em6] at hTt; cases hTt
   have hTo : Tt ≠ dO := fun e => by rw [e, eo6] at hTt; cases hTt
   have s7 := same_new hTt (.tup [.ref te, .str z])
   have kb7 : ∀ b o, b ≠ dm → b ≠ dO → H5 b = some o → (upd H'' Tt (.tup [.ref te, .str z])) b = some o := fun b o h1 h2 h => s7 _ _ (kb b o h1 h2 h)
   have em7 := s7 _ _ em6
   have eo7 := s7 _ _ eo6
   have I7 := I6.keep (H' := upd H'' Tt (.tup [.ref te, .str z])) fun t p j h => s7 _ _ h
   have ete7 := s7 _ _ ete
   refine eg_pair rfl (SqT.of upd_same) (eg_name 4 nd (eg_name 5 nd ?_))
   show Run _ _ _ [some (.ref R), some (.ref dm), some (.ref dO), some (.ref a.1), some (.ref te), some (.str z)] _
   generalize upd H'' Tt (.tup [.ref te, .str z]) = H7 at kb7 em7 eo7 I7 ete7
   have ete8 : H7 te = some (TN n (r, p)) := by
    show H7 te = some (Tn (nameAt n r) p)
    rw [enm]
    exact ete7
   have hM : kM.length < sizeLine := small' (by have := I7.lenM; omega)
   have hO : kO.length < sizeLine := small' (by have := I7.lenO; omega)
   refine run_if (et_din hu (ev_v 5 (ev_v 1 ⟨dm, _, rfl, DGet.k (k := Sum.inr z) em7, ?_⟩)))
   match hpz : posIn done z with
   | [] =>
    rw [I7.m0 z hpz]
    show if false = true then _ else _
    rw [if_neg Bool.false_ne_true]
    refine run_dput hu (ev_v 4 (ev_v 1 (ev_v 5 ⟨dm, _, rfl, DPut.k (k := Sum.inr z) em7 hM, run_nil (run_nil ⟨_, kO, _, _, fun b o h1 h2 h => ?_, upd_same, ?_, ?_, rfl⟩)⟩)))
    ·rw [upd_ne h1]
     exact kb7 b o h1 h2 h
    ·rw [upd_ne ndd]
     exact eo7
    ·exact (I7.new ete8 htz hpz).keep fun t p j h => by rw [upd_ne (tup_ne_dK h em7)]; exact h
   | b :: more =>
    have hmore : more = [] := by
     rw [hpz, List.length_cons] at hcnt
     exact List.length_eq_zero_iff.mp (by omega)
    subst hmore
    obtain ⟨tm, vm, etm⟩ := I7.m1 z b [] hpz
    rw [vm]
    show if true = true then _ else _
    rw [if_pos rfl]
    have hbe : b ≠ (r, p) := hfresh b (by rw [hpz]; exact List.mem_singleton.mpr rfl)
    refine run_dput hu (ev_dget hu (ev_v 1 (ev_v 5 ⟨dm, .ref tm, rfl, by rw [← vm]; exact DGet.k (k := Sum.inr z) em7, ev_v 2 (ev_v 4 ⟨dO, _, rfl, DPut.t (k := key n (r, p)) eo7 ete8 hO, ?_⟩)⟩)))
    have hO2 := length_putK kO (key n (r, p)) (.ref tm)
    have hO3 := I7.lenO
    have em8 : (upd H7 dO (.dT (putK kO (key n (r, p)) (.ref tm)))) dm = some (.dK kM) := by rw [upd_ne (Ne.symm ndd)]; exact em7
    have etm8 : (upd H7 dO (.dT (putK kO (key n (r, p)) (.ref tm)))) tm = some (TN n b) := by rw [upd_ne (tup_ne_dT etm eo7)]; exact etm
    refine run_dput hu (ev_v 4 (ev_v 2 (ev_dget hu (ev_v 1 (ev_v 5 ⟨dm, .ref tm, rfl, by rw [← vm]; exact DGet.k (k := Sum.inr z) em8, dO, _, rfl, DPut.t (k := key n b) upd_same etm8 (small' (by omega)), run_nil (run_nil ⟨kM, _, _, _, fun b o h1 h2 h => ?_, ?_, upd_same, ?_, rfl⟩)⟩)))))
    ·rw [upd_ne h2, upd_ne h2]
     exact kb7 b o h1 h2 h
    ·rw [upd_ne (Ne.symm ndd)]
     exact em8
    ·exact (I7.old hN ete8 etm htz hpz hbe).keep fun t p j h => by rw [upd_ne (tup_ne_dT h eo7), upd_ne (tup_ne_dT h eo7)]; exact h
  ·rintro σ' H'' ⟨kM, kO, u2, u3, kb, em6, eo6, I6, rfl⟩
   refine run_nil ⟨kM, kO, _, _, _, fun b o h => ?_, em6, eo6, ?_, rfl⟩
   ·exact kb b o (ne_of_none h hdm) (ne_of_none h hdO0) (s5 _ _ (sm _ _ h))
   ·rw [List.length_map, l5, List.take_length] at I6
    rw [seats_take hi]
    exact I6
 ·rintro σ H' ⟨kM, kO, u1, u2, u3, sm, em', eo', I, rfl⟩
  rw [List.length_map, hal, List.take_length] at I
  have lO := I.lenO
  have ls : (seats n).length = (ties n).length := by rw [← seats_names n 0, List.length_map]; rfl
  exact run_ret (ev_v 2 (q dO kO H' sm hdO0 eo' (fun e he => I.whole hT he) I.nd (fun k hk => let ⟨p, hp, e⟩ := I.ks k hk; ⟨p.2, List.mem_map.mpr ⟨p, hp, rfl⟩, e⟩) (by omega)))
end
end P3
namespace P3
open PySem L2 Nt Sort2
noncomputable def AtN (n : Net) (H : Hp) (us : List Addr) (done : List (Str × Nt.End)) : Prop := us.length = done.length ∧ ∀ (j : Nat) u p, us[j]? = some u → done[j]? = some p → H u = some (TN n p.2)
theorem AtN.keep {n : Net} {H H' : Hp} {us : List Addr} {done : List (Str × Nt.End)} (h : AtN n H us done) (k : ∀ t p j, H t = some (Tn p j) → H' t = some (Tn p j)) : AtN n H' us done := ⟨h.1, fun j u p h1 h2 => k _ _ _ (h.2 j u p h1 h2)⟩
theorem AtN.snoc {n : Net} {H H' : Hp} {us : List Addr} {done : List (Str × Nt.End)} {u : Addr} {p : Str × Nt.End} (h : AtN n H us done) (k : ∀ t p j, H t = some (Tn p j) → H' t = some (Tn p j)) (hu : H' u = some (TN n p.2)) : AtN n H' (us ++ [u]) (done ++ [p]) := by
 obtain ⟨hl, ha⟩ := h
 refine ⟨by rw [List.length_append, List.length_append, hl]; rfl, fun j v x hv hx => ?_⟩
 by_cases hj : j < us.length
 ·rw [List.getElem?_append_left hj] at hv
  rw [List.getElem?_append_left (by omega)] at hx
  exact k _ _ _ (ha j v x hv hx)
 ·rw [List.getElem?_append_right (by omega)] at hv hx
  have hj2 : j - us.length = 0 := by
   have := (List.getElem?_eq_some_iff.mp hv).1
   simp at this
   omega
  have hj3 : j - done.length = 0 := by omega
  rw [hj2] at hv
  rw [hj3] at hx
  cases hv
  cases hx
  exact hu
section
variable {X : Cx} {tg : Expr} {ifs : List Expr} {inner : Sem Unit} {σ : St} {H : Hp} {a b : Addr} {xs ys : List V} {after : St → Hp → Prop}
theorem clause_listP (Pv : Nat → St → Hp → Prop) (h0 : Pv 0 σ H) (hl : ∀ i σ' H', i ≤ xs.length → Pv i σ' H' → SqL X.K H' a xs)
  (hs : ∀ i x σ' H', xs[i]? = some x → Pv i σ' H' → Eg X tg x σ' H' fun σ2 H3 => Ei X ifs σ2 H3 fun b H4 => if b = true then Ein X inner σ2 H4 (Pv (i + 1)) else Pv (i + 1) σ2 H4)
  (hd : ∀ σ' H', Pv xs.length σ' H' → after σ' H') : ClauseL X tg ifs inner (Itl X.K a) after σ H := by
 refine ⟨fun i m σ' H' => m = xs.length - i ∧ i ≤ xs.length ∧ Pv i σ' H', ⟨_, rfl, Nat.zero_le _, h0⟩, ?_⟩
 rintro i m σ' H' ⟨rfl, hi, p⟩
 have q := hl i σ' H' hi p
 by_cases hlt : i < xs.length
 ·refine .inr ⟨⟨xs, xs[i], q, by simp [hlt]⟩, Pv (i + 1), fun σ' H' p' => ⟨xs.length - (i + 1), by omega, rfl, hlt, p'⟩, fun x H2 y => ?_⟩
  obtain ⟨e, y⟩ := y
  subst e
  exact hs i x σ' _ (y xs q) p
 ·have e : i = xs.length := by omega
  subst e
  exact .inl ⟨⟨xs, q, Nat.le_refl _⟩, hd σ' H' p⟩
theorem clause_zipP (hlen : xs.length = ys.length) (Pv : Nat → St → Hp → Prop) (h0 : Pv 0 σ H) (hl : ∀ i σ' H', i ≤ xs.length → Pv i σ' H' → SqL X.K H' a xs ∧ SqL X.K H' b ys)
  (hs : ∀ i x y T σ' H', xs[i]? = some x → ys[i]? = some y → Pv i σ' H' → H' T = none → Eg X tg (.ref T) σ' (upd H' T (.tup [x, y])) fun σ2 H3 => Ei X ifs σ2 H3 fun b H4 => if b = true then Ein X inner σ2 H4 (Pv (i + 1)) else Pv (i + 1) σ2 H4)
  (hd : ∀ σ' H', Pv xs.length σ' H' → after σ' H') : ClauseL X tg ifs inner (Itz X.K a b) after σ H := by
 refine ⟨fun i m σ' H' => m = xs.length - i ∧ i ≤ xs.length ∧ Pv i σ' H', ⟨_, rfl, Nat.zero_le _, h0⟩, ?_⟩
 rintro i m σ' H' ⟨rfl, hi, p⟩
 obtain ⟨q1, q2⟩ := hl i σ' H' hi p
 by_cases hlt : i < xs.length
 ·refine .inr ⟨⟨xs, ys, xs[i], ys[i], q1, q2, List.getElem?_eq_getElem hlt, List.getElem?_eq_getElem (by omega)⟩, Pv (i + 1), fun σ' H' p' => ⟨xs.length - (i + 1), by omega, rfl, hlt, p'⟩, fun v H2 y => ?_⟩
  obtain ⟨T, x, y, hT, rfl, rfl, y1, y2⟩ := y
  exact hs i x y T σ' _ (y1 xs q1) (y2 ys q2) p hT
 ·have e : i = xs.length := by omega
  subst e
  exact .inl ⟨⟨xs, ys, q1, q2, .inl (Nat.le_refl _)⟩, hd σ' H' p⟩
end
noncomputable def spOrd : Sp := fun vs H Q _ => ∃ (R : Addr) (as : List (Addr × Addr)) (n : Net), vs = [.ref R] ∧ RowsAt H R as n ∧ n.length ≤ 1000 ∧ (ties n).length ≤ 1000 ∧
 ∀ (L : Addr) (ts : List Addr) (H' : Hp), Same H H' → H L = none → H' L = some (.lst (ts.map V.ref)) → AtN n H' ts (seats n) → Q (.ref L) H'
section
variable {P : Program} {w : World} {K : PySem.W.Frag} {mg : Str → Option Value} {base : Heap}
noncomputable abbrev NO1 : List Str := ["rows"]
noncomputable abbrev NO2 : List Str := ["rows", "row", "end"]
theorem scOrder : FnScope NO1 ["rows"] (defScope sOrder) := ⟨rfl, rfl, rfl, by decide +kernel, rfl, by decide +kernel, by decide +kernel⟩
theorem nd_o2 : NO2.Nodup := by decide +kernel
theorem ok_order {f : Addr} {fd : FuncData} (F : Fun K "ends_in_order" "ends_in_order" sOrder f fd) (T : Txt mg)
  (GE : Has P w K mg base 1 "ends_round" ["row"] spEnds) :
  FnOk P w K mg base CX0 2 f fd ["rows"] spOrd := by
 refine F.gb scOrder (fun vs H Q E h => ?_) (fun b0 H vs Q E hr h => ?_)
 ·obtain ⟨R, as, n, rfl, _⟩ := h
  rfl
 obtain ⟨R, as, n, rfl, hR, hn, ht, q⟩ := h
 have nd := scOrder.nd
 have hal := hR.len
 show Run _ _ _ [some (.ref R)] H
 refine run_ret (ev_comp2 (defScope sOrder) NO1 NO2 2 (pi_list pe_ev) (ev_v 0 ⟨R, rfl, ⟨_, SqL.of hR.lst⟩, fun D hD cl C s₀ H₀ ex => ?_⟩))
 refine clause_listP (xs := as.map fun a => V.ref a.1) (fun r σ' H' => (∃ v1 v2, σ' = [some (.ref R)] ++ [v1, v2]) ∧ ∃ ts : List Addr, Same H H' ∧ H' D = some (.lst (ts.map V.ref)) ∧ AtN n H' ts (seats (n.take r))) ⟨⟨none, none, rfl⟩, [], same_new hD _, upd_same, ⟨rfl, fun j u p h => (by cases h)⟩⟩ ?_ ?_ ?_
 ·rintro r σ' H' _ ⟨_, ts, sm, _⟩
  exact SqL.of (sm _ _ hR.lst)
 ·rintro r x σ' H' hx ⟨⟨v1, v2, rfl⟩, ts, sm, eD, AN⟩
  have hi : r < n.length := by
   have := (List.getElem?_eq_some_iff.mp hx).1
   rw [List.length_map] at this
   omega
  obtain ⟨a, ea, eat, et, el, er⟩ := (hR.same sm).at hi
  rw [List.getElem?_map, ea] at hx
  cases hx
  have hrl : (row n r).length ≤ 1000 := Nat.le_trans (row_le n r) ht
  refine eg_name 1 nd_o2 ?_
  refine ei_nil ?_
  rw [if_pos rfl]
  refine ein_next rfl rfl (pi_list pe_ev) (ev_has GE hr (ea_cons (ev_v 1 (ea_nil ⟨a.1, a.2, n[r].1, row n r, rfl, et, el, hrl, fun L us H5 s5 n5 e5 l5 t5 => ⟨L, rfl, ⟨_, SqL.of e5⟩, ?_⟩⟩))))
  have nLD : L ≠ D := fun e => by rw [e, eD] at n5; cases n5
  refine clause_listP (xs := us.map V.ref) (fun p σ' H'' => (∃ v2, σ' = [some (.ref R)] ++ [some (.ref a.1), v2]) ∧ ∃ ts : List Addr, (∀ b o, b ≠ D → H5 b = some o → H'' b = some o) ∧ H'' D = some (.lst (ts.map V.ref)) ∧ AtN n H'' ts (seats (n.take r) ++ rowSeats r ((row n r).take p) 0))
   ⟨⟨_, rfl⟩, ts, fun b o _ h => h, s5 _ _ eD, by simpa [rowSeats] using AN.keep (H' := H5) fun t p j h => s5 _ _ h⟩ ?_ ?_ ?_
  ·rintro p σ' H'' _ ⟨_, ts, kb, _⟩
   exact SqL.of (kb _ _ nLD e5)
  ·rintro p x σ' H'' hx ⟨⟨v2, rfl⟩, ts, kb, eD6, AN6⟩
   rw [List.getElem?_map, Option.map_eq_some_iff] at hx
   obtain ⟨te, hte, rfl⟩ := hx
   have hp : p < (row n r).length := by have := (List.getElem?_eq_some_iff.mp hte).1; omega
   have hz : (row n r)[p]? = some (row n r)[p] := List.getElem?_eq_getElem hp
   generalize (row n r)[p] = z at hz
   have e5t := t5 p te hte
   have nte : te ≠ D := ne_of e5t (s5 _ _ eD) fun z => nomatch z
   have ete := kb _ _ nte e5t
   obtain ⟨rest, hsp⟩ := seats_split hi hz
   have hlen : ts.length < 1000 := by
    have h1 : (seats n).length = (ties n).length := by
     have := congrArg List.length (seats_names n 0)
     rw [List.length_map] at this
     exact this
    have h2 := congrArg List.length hsp
    rw [List.length_append, List.length_cons] at h2
    have := AN6.1
    omega
   refine eg_name 2 nd_o2 ?_
   refine ei_nil ?_
   rw [if_pos rfl]
   refine ein_emit (ev_v 2 ⟨ts.map V.ref, eD6, by rw [List.length_map]; exact small' (by omega), ⟨_, rfl⟩, ts ++ [te], fun b o hb h => by rw [upd_ne hb]; exact kb b o hb h, by rw [upd_same, List.map_append]; rfl, ?_⟩)
   rw [rowSeats_take hz, ← List.append_assoc]
   refine AN6.snoc (fun t p j h => by rw [upd_ne (ne_of h eD6 fun z => nomatch z)]; exact h) ?_
   rw [upd_ne nte]
   show H'' te = some (Tn (nameAt n r) p)
   rw [nameAt_eq hi]
   exact ete
  ·rintro σ' H'' ⟨⟨v2, rfl⟩, ts, kb, eD6, AN6⟩
   refine ⟨⟨_, _, rfl⟩, ts, fun b o h => kb b o (ne_of_none h hD) (s5 _ _ (sm _ _ h)), eD6, ?_⟩
   rw [List.length_map, l5, List.take_length, ← seats_take hi] at AN6
   exact AN6
 ·rintro σ' H' ⟨_, ts, sm, eD, AN⟩
  rw [List.length_map, hal, List.take_length] at AN
  exact q D ts H' sm hD eD AN
end
section
variable {X : Cx} {H : Hp}
theorem eqD_str {k : Nat} (z : Str) : EqD X H k (.str z) (.str z) true := by
 have := eqD_flat (X := X) (H := H) (k := k) (x := .str z) (y := .str z) rfl rfl
 have e : eqV (.str z) (.str z) = true := by show (z == z) = true; simp
 rw [e] at this
 exact this
theorem eqs_tn {p p' : Str} {j j' : Int} : ∀ (i : Nat) (u v : V), [V.str p, .int j][i]? = some u → [V.str p', .int j'][i]? = some v → EqD X H 0 u v (if i = 0 then eqV (.str p) (.str p') else eqV (.int j) (.int j'))
 | 0, u, v, h1, h2 => by
  cases h1
  cases h2
  exact eqD_flat rfl rfl
 | 1, u, v, h1, h2 => by
  cases h1
  cases h2
  exact eqD_flat rfl rfl
 | i + 2, u, v, h1, h2 => by simp at h1
theorem dec_tn (p p' : Str) (j j' : Int) : (eqV (.str p) (.str p') && eqV (.int j) (.int j')) = decide (p = p' ∧ j = j') := by
 show ((p == p') && (j == j')) = _
 by_cases h : p = p' <;> by_cases h2 : j = j' <;> simp [h, h2]
theorem rcD_tn {s t : Addr} {p p' : Str} {j j' : Int} (hs : H s = some (Tn p j)) (ht : H t = some (Tn p' j')) : RcD X H 1 (.ref s) (.ref t) (decide (p = p' ∧ j = j')) := by
 have := rcD_tup (X := X) (k := 0) (fun i => if i = 0 then eqV (.str p) (.str p') else eqV (.int j) (.int j')) (SqT.of hs) (SqT.of ht) rfl eqs_tn
 rw [show ([V.str p, .int j].length) = 2 from rfl, all2] at this
 have e := dec_tn p p' j j'
 simp only [if_true] at this
 rw [if_neg (by decide), e] at this
 exact this
theorem rnD_tn {s t : Addr} {p p' : Str} {j j' : Int} (hs : H s = some (Tn p j)) (ht : H t = some (Tn p' j')) : RnD X H 1 (.ref s) (.ref t) (decide (p = p' ∧ j = j')) := by
 have := rnD_tup (X := X) (k := 0) (fun i => if i = 0 then eqV (.str p) (.str p') else eqV (.int j) (.int j')) (SqT.of hs) (SqT.of ht) rfl eqs_tn
 rw [show ([V.str p, .int j].length) = 2 from rfl, all2] at this
 have e := dec_tn p p' j j'
 simp only [if_true] at this
 rw [if_neg (by decide), e] at this
 exact this
theorem rcD_strs {a b : Addr} {zs : List Str} (ha : H a = some (Ls zs)) (hb : H b = some (Ls zs)) : RcD X H 1 (.ref a) (.ref b) true := by
 have q := rcD_list (X := X) (k := 0) (fun _ => true) (SqL.of (K := X.K) ha) (SqL.of (K := X.K) hb) rfl fun j x y hx hy => by
  rw [hx] at hy
  cases hy
  rw [List.getElem?_map, Option.map_eq_some_iff] at hx
  obtain ⟨z, _, rfl⟩ := hx
  exact eqD_str z
 rw [all_true] at q
 exact q
theorem eqD_ref {k : Nat} {a b : Addr} (h : RcD X H k (.ref a) (.ref b) true) : EqD X H k (.ref a) (.ref b) true := by
 by_cases e : a = b
 ·subst e
  exact eqD_same
 ·exact eqD_of e h
theorem rcD_rows {R R' : Addr} {as bs : List (Addr × Addr)} {n : Net} (h : RowsAt H R as n) (g : RowsAt H R' bs n) : RcD X H 3 (.ref R) (.ref R') true := by
 have q := rcD_list (X := X) (k := 2) (fun _ => true) (SqL.of (K := X.K) h.lst) (SqL.of (K := X.K) g.lst) (by rw [List.length_map, List.length_map, h.len, g.len]) fun j x y hx hy => by
  rw [List.getElem?_map, Option.map_eq_some_iff] at hx hy
  obtain ⟨a, ea, rfl⟩ := hx
  obtain ⟨b, eb, rfl⟩ := hy
  have hj : j < n.length := by
   have := (List.getElem?_eq_some_iff.mp ea).1
   have := h.len
   omega
  obtain ⟨q1, q2⟩ := h.tup j a n[j] ea (List.getElem?_eq_getElem hj)
  obtain ⟨q3, q4⟩ := g.tup j b n[j] eb (List.getElem?_eq_getElem hj)
  have t := rcD_tup (X := X) (k := 1) (fun _ => true) (SqT.of (K := X.K) q1) (SqT.of (K := X.K) q3) rfl fun i x y hx hy => by
   match i with
   | 0 => cases hx; cases hy; exact eqD_str _
   | 1 => cases hx; cases hy; exact eqD_ref (rcD_strs q2 q4)
   | i + 2 => simp at hx
  rw [all_true] at t
  exact eqD_ref t
 rw [all_true] at q
 exact q
end
noncomputable def spBE : Sp := fun vs H Q _ => ∃ (R : Addr) (as : List (Addr × Addr)) (n : Net), vs = [.ref R] ∧ RowsAt H R as n ∧ (n.map (·.1)).Nodup ∧ n.length ≤ 1000 ∧ (ties n).length ≤ 1000 ∧
 ∀ (d : Addr) (kvs : List (List Key × V)) (H' : Hp), Same H H' → H d = none → H' d = some (.dT kvs) → (∀ e z, tieAt n e = some z → valV kvs (key n e) = some (.str z)) → Q (.ref d) H'
section
variable {P : Program} {w : World} {K : PySem.W.Frag} {mg : Str → Option Value} {base : Heap}
noncomputable abbrev NB1 : List Str := ["rows"]
noncomputable abbrev NB2 : List Str := ["rows", "row", "end", "tie"]
theorem scBE : FnScope NB1 ["rows"] (defScope sByEnd) := ⟨rfl, rfl, rfl, by decide +kernel, rfl, by decide +kernel, by decide +kernel⟩
theorem nd_b2 : NB2.Nodup := by decide +kernel
theorem ok_BE {f : Addr} {fd : FuncData} (F : Fun K "ties_by_end" "ties_by_end" sByEnd f fd) (T : Txt mg)
  (GE : Has P w K mg base 1 "ends_round" ["row"] spEnds) :
  FnOk P w K mg base CX0 2 f fd ["rows"] spBE := by
 refine F.gb scBE (fun vs H Q E h => ?_) (fun b0 H vs Q E hr h => ?_)
 ·obtain ⟨R, as, n, rfl, _⟩ := h
  rfl
 obtain ⟨R, as, n, rfl, hR, hN, hn, ht, q⟩ := h
 have hal := hR.len
 have hu := hr.u1
 show Run _ _ _ [some (.ref R)] H
 refine run_ret (ev_compDT2 (defScope sByEnd) NB1 NB2 3 (pi_list pe_ev) (ev_v 0 ⟨R, rfl, ⟨_, SqL.of hR.lst⟩, fun D hD cl C s₀ H₀ ex => ?_⟩))
 refine clause_listP (xs := as.map fun a => V.ref a.1) (fun r σ' H' => (∃ v1 v2 v3, σ' = [some (.ref R)] ++ [v1, v2, v3]) ∧ ∃ kvs : List (List Key × V), Same H H' ∧ H' D = some (.dT kvs) ∧ kvs.length ≤ (seats (n.take r)).length ∧ ∀ p ∈ seats (n.take r), tieAt n p.2 = some p.1 ∧ valV kvs (key n p.2) = some (.str p.1)) ⟨⟨none, none, none, rfl⟩, [], same_new hD _, upd_same, Nat.zero_le _, fun p h => (by cases h)⟩ ?_ ?_ ?_
 ·rintro r σ' H' _ ⟨_, kvs, sm, _⟩
  exact SqL.of (sm _ _ hR.lst)
 ·rintro r x σ' H' hx ⟨⟨v1, v2, v3, rfl⟩, kvs, sm, eD, hlk, hkv⟩
  have hi : r < n.length := by
   have := (List.getElem?_eq_some_iff.mp hx).1
   rw [List.length_map] at this
   omega
  obtain ⟨a, ea, eat, et, el, er⟩ := (hR.same sm).at hi
  rw [List.getElem?_map, ea] at hx
  cases hx
  have hrl : (row n r).length ≤ 1000 := Nat.le_trans (row_le n r) ht
  refine eg_name 1 nd_b2 ?_
  refine ei_nil ?_
  rw [if_pos rfl]
  refine ein_nextD rfl rfl (pi_zip rfl T.zip (ta := tEa _ _) pa_ea) ?_
  show Ea _ _ _ _ _
  refine ea_cons (ev_has GE hr (ea_cons (ev_v 1 (ea_nil ⟨a.1, a.2, n[r].1, row n r, rfl, et, el, hrl, fun L us H5 s5 n5 e5 l5 t5 => ?_⟩))))
  refine ea_cons (ev_ix ix_tup (ev_v 1 (ev_int ⟨a.1, _, _, .ref a.2, rfl, rfl, SqT.of (s5 _ _ et), rfl, ea_nil ⟨L, a.2, rfl, ⟨_, SqL.of e5⟩, ⟨_, SqL.of (s5 _ _ el)⟩, ?_⟩⟩)))
  have eD5 := s5 _ _ eD
  have el5 := s5 _ _ el
  refine clause_zipP (xs := us.map V.ref) (ys := (row n r).map V.str) (by rw [List.length_map, List.length_map, l5]) (fun p σ' H'' => (∃ v2 v3, σ' = [some (.ref R)] ++ [some (.ref a.1), v2, v3]) ∧ ∃ kvs : List (List Key × V), (∀ b o, b ≠ D → H5 b = some o → H'' b = some o) ∧ H'' D = some (.dT kvs) ∧ kvs.length ≤ (seats (n.take r) ++ rowSeats r ((row n r).take p) 0).length ∧ ∀ x ∈ seats (n.take r) ++ rowSeats r ((row n r).take p) 0, tieAt n x.2 = some x.1 ∧ valV kvs (key n x.2) = some (.str x.1))
   ⟨⟨_, _, rfl⟩, kvs, fun b o _ h => h, eD5, by simpa [rowSeats] using hlk, by simpa [rowSeats] using hkv⟩ ?_ ?_ ?_
  ·rintro p σ' H'' _ ⟨_, kvs, kb, _⟩
   exact ⟨SqL.of (kb _ _ (ne_of e5 eD5 fun z => nomatch z) e5), SqL.of (kb _ _ (ne_of el5 eD5 fun z => nomatch z) el5)⟩
  ·rintro p x y Tt σ' H'' hx hy ⟨⟨v2, v3, rfl⟩, kvs, kb, eD6, hlk6, hkv6⟩ hTt
   rw [List.getElem?_map, Option.map_eq_some_iff] at hx hy
   obtain ⟨te, hte, rfl⟩ := hx
   obtain ⟨z, hz, rfl⟩ := hy
   have e5t := t5 p te hte
   have nte : te ≠ D := ne_of e5t eD5 fun z => nomatch z
   have ete := kb _ _ nte e5t
   have htz : tieAt n (r, p) = some z := hz
   obtain ⟨rest, hsp⟩ := seats_split hi hz
   have hlen : (seats (n.take r) ++ rowSeats r ((row n r).take p) 0).length < 1000 := by
    have h1 : (seats n).length = (ties n).length := by
     have := congrArg List.length (seats_names n 0)
     rw [List.length_map] at this
     exact this
    have h2 := congrArg List.length hsp
    rw [List.length_append, List.length_cons] at h2
    omega
   have nTD : Tt ≠ D := fun e => by rw [e, eD6] at hTt; cases hTt
   have s7 := same_new hTt (.tup [.ref te, .str z])
   refine eg_pair rfl (SqT.of upd_same) (eg_name 2 nd_b2 (eg_name 3 nd_b2 ?_))
   refine ei_nil ?_
   rw [if_pos rfl]
   have ete7 : (upd H'' Tt (.tup [.ref te, .str z])) te = some (.tup ((key n (r, p)).map kV)) := by
    rw [s7 _ _ ete]
    show some (Tn n[r].1 (p : Int)) = some (Tn (nameAt n r) (p : Int))
    rw [nameAt_eq hi]
   refine ein_emitD hu (ev_v 2 (ev_v 3 ⟨_, DPut.t (k := key n (r, p)) (s7 _ _ eD6) ete7 (small' (by omega)), ⟨_, _, rfl⟩, _, fun b o hb h => ?_, upd_same, ?_, ?_⟩))
   ·rw [upd_ne hb]
    exact s7 _ _ (kb b o hb h)
   ·rw [rowSeats_take hz, ← List.append_assoc, List.length_append]
    have := length_putK kvs (key n (r, p)) (.str z)
    show _ ≤ _ + 1
    omega
   ·rw [rowSeats_take hz, ← List.append_assoc]
    intro x hx
    rcases List.mem_append.mp hx with h | h
    ·obtain ⟨q1, q2⟩ := hkv6 x h
     refine ⟨q1, ?_⟩
     rw [valV_put]
     by_cases hk : key n x.2 = key n (r, p)
     ·rw [if_pos hk]
      have := key_inj hN (row_lt q1) (row_lt htz) hk
      rw [this, htz] at q1
      rw [Option.some.inj q1]
     ·rw [if_neg hk]
      exact q2
    ·rw [List.mem_singleton.mp h]
     exact ⟨htz, by rw [valV_put, if_pos rfl]⟩
  ·rintro σ' H'' ⟨⟨v2, v3, rfl⟩, kvs, kb, eD6, hlk6, hkv6⟩
   rw [List.length_map, l5, List.take_length, ← seats_take hi] at hlk6 hkv6
   exact ⟨⟨_, _, _, rfl⟩, kvs, fun b o h => kb b o (ne_of_none h hD) (s5 _ _ (sm _ _ h)), eD6, hlk6, hkv6⟩
 ·rintro σ' H' ⟨_, kvs, sm, eD, hlk, hkv⟩
  rw [List.length_map, hal, List.take_length] at hkv
  exact q D kvs H' sm hD eD fun e z he => (hkv (z, e) (mem_seats.mpr he)).2
theorem k_ll (K : PySem.W.Frag) : PySem.W.kitOne K (.type "list") (.type "list") = some true := by rfl
theorem k_tt (K : PySem.W.Frag) : PySem.W.kitOne K (.type "tuple") (.type "tuple") = some true := by rfl
theorem k_ii (K : PySem.W.Frag) : PySem.W.kitOne K (.type "int") (.type "int") = some true := by rfl
theorem k_ib (K : PySem.W.Frag) : PySem.W.kitOne K (.type "int") (.type "bool") = some false := by kernel_rfl
end
end P3
namespace L2
open PySem PySem.Spec PyProof.Rows SetT
noncomputable def evens {α : Type} : List α → List α
 | [] => []
 | [a] => [a]
 | a :: _ :: r => a :: evens r
theorem evens_at {α : Type} : ∀ (xs : List α) (k : Nat), (evens xs)[k]? = xs[2 * k]?
 | [], k => by simp [evens]
 | [a], 0 => rfl
 | [a], k + 1 => by
  show ([] : List α)[k]? = [a][2 * (k + 1)]?
  rw [List.getElem?_eq_none (Nat.zero_le _), List.getElem?_eq_none (by show 1 ≤ _; omega)]
 | a :: b :: r, 0 => rfl
 | a :: b :: r, k + 1 => by
  show (evens r)[k]? = (a :: b :: r)[2 * (k + 1)]?
  rw [evens_at r k, show 2 * (k + 1) = 2 * k + 1 + 1 by omega]
  rfl
theorem evens_len {α : Type} : ∀ (xs : List α), (evens xs).length = (xs.length + 1) / 2
 | [] => by
  show 0 = (0 + 1) / 2
  omega
 | [a] => by
  show 1 = (1 + 1) / 2
  omega
 | a :: b :: r => by
  show (evens r).length + 1 = (r.length + 1 + 1 + 1) / 2
  rw [evens_len r]
  omega
theorem evens_le {α : Type} (xs : List α) : (evens xs).length ≤ xs.length := by
 rw [evens_len]
 omega
theorem evens_vals : ∀ {xs : List V} {us : List Value}, Vals xs us → Vals (evens xs) (evens us)
 | [], us, r => by
  have := r.zero
  subst this
  exact .nil
 | [a], us, r => by
  obtain ⟨u, rfl, ru⟩ := r.one
  exact .cons ru .nil
 | a :: b :: r, us, h => by
  cases h with
  | cons h1 h2 =>
   cases h2 with
   | cons h3 h4 => exact .cons h1 (evens_vals h4)
theorem range_pick {α : Type} (g : Nat → Option α) : ∀ (c : Nat), (∀ k, k < c → ∃ v, g k = some v) → ((List.range c).filterMap g).length = c ∧ ∀ k, k < c → ((List.range c).filterMap g)[k]? = g k
 | 0, _ => ⟨rfl, fun k h => absurd h (Nat.not_lt_zero _)⟩
 | c + 1, h => by
  obtain ⟨h1, h2⟩ := range_pick g c fun k hk => h k (by omega)
  obtain ⟨v, hv⟩ := h c (by omega)
  have e : (List.range (c + 1)).filterMap g = (List.range c).filterMap g ++ [v] := by
   rw [List.range_succ, List.filterMap_append, List.filterMap_cons, hv]
   rfl
  rw [e]
  refine ⟨by rw [List.length_append, h1]; rfl, fun k hk => ?_⟩
  by_cases hk' : k < c
  ·rw [List.getElem?_append_left (by omega)]
   exact h2 k hk'
  ·have : k = c := by omega
   subst this
   rw [List.getElem?_append_right (by omega), h1, Nat.sub_self, hv]
   rfl
theorem pick_evens (its : List Value) : slicePick its.toArray none none (some 2) = (evens its).toArray := by
 unfold slicePick
 have hb : sliceBounds none none (some 2) its.toArray.size = (0, (its.length : Int), 2) := rfl
 rw [hb]
 congr 1
 show ((sliceRange 0 (its.length : Int) 2).filterMap (its.toArray[·]?)) = evens its
 have hr : sliceRange 0 (its.length : Int) 2 = (List.range ((its.length + 1) / 2)).map fun k => 2 * k := by
  unfold sliceRange
  have e1 : (if (2 : Int) > 0 then (if (0 : Int) < (its.length : Int) then ((its.length : Int) - 0 + 2 - 1) / 2 else 0) else (if (0 : Int) > (its.length : Int) then (0 - (its.length : Int) - 2 - 1) / (-2) else 0)).toNat = (its.length + 1) / 2 := by
   rw [if_pos (by decide)]
   split <;> omega
  show (List.range _).map _ = _
  rw [e1]
  exact List.map_congr_left fun k _ => by omega
 rw [hr, List.filterMap_map]
 obtain ⟨h1, h2⟩ := range_pick (fun k => its.toArray[2 * k]?) ((its.length + 1) / 2) fun k hk => ⟨its[2 * k]'(by omega), by rw [← Array.getElem?_toList]; exact List.getElem?_eq_getElem (l := its) (by omega)⟩
 apply List.ext_getElem?
 intro k
 show ((List.range ((its.length + 1) / 2)).filterMap fun k => its.toArray[2 * k]?)[k]? = _
 by_cases hk : k < (its.length + 1) / 2
 ·rw [h2 k hk, evens_at, ← Array.getElem?_toList]
 ·rw [List.getElem?_eq_none (by omega), List.getElem?_eq_none (by rw [evens_len]; omega)]
section
variable {X : Cx} {σ : St} {H : Hp} {Q : VK}
theorem ev_evens {e : Expr} {j : Nat} {p1 p2 pos : Pos} (h : Ev X e σ H fun x H1 => ∃ a xs, x = .ref a ∧ SqL X.K H1 a xs ∧ ∀ p, H1 p = none → Q (.ref p) (upd H1 p (.lst (evens xs)))) :
  Ev X (.Subscript e (.Slice none none (some (.Constant (.int 2) j p1)) p2) pos) σ H Q := by
 refine ⟨fun pins s I => Subscript_ (thn (h.run pins s I) fun v s1 ⟨x, H1, I1, r1, a, xs, ex, hx, q⟩ => ?_)⟩
 subst ex
 cases (show v = Value.ref a from r1)
 refine wpAny_Slice ?_
 rw [evalPart_none]
 refine wpAny_pure (wpAny_pure ?_)
 rw [evalPart_some]
 refine thn ((ev_int (X := X) (i := 2) (j := j) (p := p1) (σ := σ) (H := H1) (Q := fun y H2 => y = .int 2 ∧ H2 = H1) ⟨rfl, rfl⟩).run pins s1 I1) fun v2 s2 ⟨y, H2, I2, r2, ey, eh⟩ => ?_
 subst ey eh
 obtain ⟨t, rfl⟩ := r2
 obtain ⟨its, r, pl, hz⟩ := I2.list hx
 have hlen := r.length
 have I3 : Inv X pins σ H2 { s2 with heap := s2.heap.push { cls := .type "slice", data := .fields #[.none, .none, .int 2 t] } } := I2.kept (t' := s2.toks) fun b ob q => Heap.get?_push_of_some _ q
 have pl3 := pl.isList.push { cls := .type "slice", data := .fields #[.none, .none, .int 2 t] }
 show wpAny (model X.prog X.w) X.A (subscriptTail e _ (.ref a) (.ref s2.heap.objs.size)) (EP X pins σ Q) X.xe { s2 with heap := s2.heap.push { cls := .type "slice", data := .fields #[.none, .none, .int 2 t] } }
 refine tail_any (ops := [.ref a, .ref s2.heap.objs.size]) (T := "list") (Heap.IsList.typeIs (s := { s2 with heap := s2.heap.push { cls := .type "slice", data := .fields #[.none, .none, .int 2 t] } }) pl3) slot_list_getitem.lookup ?_ (by with_unfolding_all rfl)
 refine wpAny_getItem_list_slice (s := { s2 with heap := s2.heap.push { cls := .type "slice", data := .fields #[.none, .none, .int 2 t] } }) pl3 (Heap.IsSliceOf.new ..) .none .none (.int 2 t) (by decide) ?_ (by rw [List.size_toArray]; omega)
 rw [pick_evens]
 exact ⟨.ref _, _, I3.lnew (t' := s2.toks) (evens_vals r) (Nat.le_trans (evens_le _) hz), rfl, q _ I3.fresh⟩
end
section
variable {prog : Program} {w : World} {A : Around} {E : Value → Shared → Prop} {s : Shared}
theorem code_new0 {Q : Value → Shared → Prop} (k : Q (.ref s.heap.objs.size) { s with heap := s.heap.push (setNew w) }) : codeAny (model prog w) A (.call (.builtin "set.__new__") ⟨[.type "set"], []⟩) (wants Q E) s := by
 refine codeAny_of_tree ?_
 show wpAny _ A.in1 (checkBuiltinCall "set.__new__" ⟨[.type "set"], []⟩ >>= fun _ => again (.builtin "set.__new__" ⟨[.type "set"], []⟩)) _ _ s
 refine wpAny_bind (wpAny_of_eq PySem.F.newCall_set_0 (wpAny_pure ⟨plainId_quiet PySem.F.plain_set_new _, codeAny_builtin PySem.F.entry_set_new ?_⟩))
 rw [Around.under_plainId PySem.F.plain_set_new _]
 unfold Builtin.«set.__new__» Builtin.Frozenset.newClass
 dsimp only
 refine wpAny_bind (wpAny_bind (wpAny_of_eq (show isType (.type "set") = pure true from rfl) (wpAny_pure ?_)))
 simp only [Bool.not_true, Bool.false_eq_true, if_false]
 unfold newSet
 refine wpAny_bind (wpAny_bind (wp_text ?_))
 dsimp only
 simp only [newObj]
 exact wpAny_bind (wpAny_alloc (wpAny_pure (wpAny_pure k)))
theorem call_set0 {Q : Value → Shared → Prop} (k : Q (.ref s.heap.objs.size) { s with heap := s.heap.push (setNew w) }) : wpAny (model prog w) A (call (.type "set") []) Q E s := by
 obtain ⟨c, tl, hmro⟩ := PySem.F.called_set.mro
 have hmade := PySem.F.called_set.made
 have hsub := PySem.F.called_set.sub
 refine wpAny_call (codeAny_of_tree ?_)
 show wpAny _ _ (callAny (.type "set") _) _ _ _
 refine wpAny_pure ⟨Code.quiet_builtin _ (by decide +kernel), codeAny_builtin PySem.F.entry_type_call ?_⟩
 rw [Around.under_plain (weight_type_call_type "set" [] []) rfl]
 have h1 := PySem.F.called_set.notType
 have h2 := PySem.F.called_set.canCreate
 have h3 := PySem.F.typeCall_set_0
 repeat (any_goals (first | assumption | wp_step))
 refine codeAny_mono (code_new0 (E := E) (Q := fun v u => v = .ref s.heap.objs.size ∧ u = { s with heap := s.heap.push (setNew w) }) ⟨rfl, rfl⟩) fun r u hr => ?_
 cases r with
 | error e => exact hr
 | ok fl =>
  cases fl with
  | ret v =>
   obtain ⟨rfl, rfl⟩ := hr
   have hT : Shared.TypeIs { s with heap := s.heap.push (setNew w) } (.ref s.heap.objs.size) "set" := ⟨_, Heap.get?_push_size _ rfl, rfl⟩
   have hli := PySem.F.called_set.init.lookup
   have hbi := PySem.F.called_set.init.bind (.ref s.heap.objs.size)
   repeat (any_goals (first | assumption | wp_step))
   refine codeAny_mono (codeAny_call_builtin (R := wants (fun r u => r = .none ∧ Q (.ref s.heap.objs.size) u) E) PySem.F.called_set.init.plain PySem.F.entry_set_init (check_set_init hT ?_)) fun r2 u2 hr2 => ?_
   ·unfold Builtin.«set.__init__» noKeywords
    wp_walk
    exact ⟨rfl, k⟩
   ·cases r2 with
    | error e => exact hr2
    | ok f2 =>
     cases f2 with
     | ret r =>
      obtain ⟨rfl, hq⟩ := hr2
      repeat (any_goals (first | assumption | wp_step))
     | _ => exact hr2.elim
  | _ => exact hr.elim
theorem notin_set {a : Addr} {zs : List Str} {z : Str} {tk : Tok} {Q : Value → Shared → Prop} (S : SetAt prog w s.heap a zs) (h : Q (.bool (decide (z ∉ zs))) { s with toks := s.toks + 1 }) : wpAny (model prog w) A (compareOp .NotIn (.str z tk) (.ref a)) Q E s := by
 have hT := S.typeIs
 show wpAny _ _ (do return .bool (!(← contains (.ref a) (.str z tk)))) Q E s
 refine wpAny_bind ?_
 unfold contains
 try with_reducible refine wpAny_holding ?_
 refine wpAny_bind (wpAny_specialOf hT PySem.F.slot_set_contains.lookup ?_)
 show wpAny _ _ (if (some (Value.builtin "set.__contains__") == some Value.none) = true then _ else _) _ E s
 rw [if_neg (by rw [beq_builtin_none]; exact Bool.false_ne_true)]
 refine wpAny_bind (wpAny_callSpecialUnlessNone?_slot (name := Str.ofString "__contains__") hT PySem.F.slot_set_contains (wpAny_call_entry PySem.F.slot_set_contains hT entry_set_contains ?_ (PySem.F.args_set_contains_2 _ _)))
 unfold Builtin.«frozenset.__contains__» Builtin.Frozenset.oneOther
 simp only [List.isEmpty_nil, bind_assoc]
 unfold Builtin.Frozenset.addrOf Builtin.Frozenset.withSetAsKey setContains
 refine wpAny_bind (wpAny_pure ?_)
 try dsimp only
 refine wpAny_bind (wpAny_pure ?_)
 try dsimp only
 refine wpAny_bind (wpAny_tryCatch (wpAny_holding ?_))
 refine wpAny_bind ((strKind prog w).pyHash (k := z) (strKind_is _ _ _ _) ?_)
 obtain ⟨o, es, ep, t, ho, hx, hd, T⟩ := S
 refine wpAny_bind (wp_find (s := { s with toks := s.toks + 1 }) ho hd T (fun hz => ?_) (fun j hj e => ?_))
 ·refine wpAny_pure ?_
  show wpAny _ _ (ret (Value.bool false)) _ _ _
  rw [decide_eq_true hz] at h
  exact wpAny_pure ⟨_, rfl, wpAny_truthy_bool (wpAny_pure h)⟩
 ·refine wpAny_pure ?_
  show wpAny _ _ (ret (Value.bool true)) _ _ _
  have hz : z ∈ zs := T.keys.mem_iff.mp (by rw [← e]; exact List.mem_map.mpr ⟨_, List.getElem_mem hj, rfl⟩)
  rw [decide_eq_false (not_not_intro hz)] at h
  exact wpAny_pure ⟨_, rfl, wpAny_truthy_bool (wpAny_pure h)⟩
end
section
variable {X : Cx} {σ : St} {H : Hp} {Q : VK}
theorem ev_set0 {p pos : Pos} (hm : X.mg "set" = none) (h : ∀ D, H D = none → Q (.ref D) (upd H D (SetO X.prog X.w D []))) (hg : Gl X "set" := by rfl) : Ev X (.Call (.Name "set" p) [] [] pos) σ H Q := by
 refine ⟨fun pins s I => Call_ (ld_blt I hg hm PyProof.Rows.boot_set (PyProof.Rows.callWith_type0 (call_set0 ?_)))⟩
 exact ⟨.ref s.heap.objs.size, _, I.laid (t' := s.toks) (fun b o e => Heap.get?_push_of_some _ e) (Nat.le_refl _) (set_obj (setNew_at (Heap.get?_push_size _ rfl))), rfl, h _ I.fresh⟩
theorem op_notin_set : OpR X (compareOp .NotIn) (fun x y H Q => ∃ z a zs, x = .str z ∧ y = .ref a ∧ H a = some (SetO X.prog X.w a zs) ∧ Q (.bl (decide (z ∉ zs))) H) := by
 intro pins s σ H x y v u Q I rx ry h
 obtain ⟨z, a, zs, rfl, rfl, hA, q⟩ := h
 obtain ⟨t, rfl⟩ := rx
 cases (show u = Value.ref a from ry)
 exact notin_set (I.set hA) ⟨.bl _, H, I.tok _, rfl, q⟩
theorem ev_addS {o e : Expr} {ap cp : Pos} (h : Ev X o σ H fun x H1 => ∃ a, x = .ref a ∧ (∃ zs, H1 a = some (SetO X.prog X.w a zs)) ∧ Ev X e σ H1 fun y H2 => ∃ z zs, y = .str z ∧ H2 a = some (SetO X.prog X.w a zs) ∧ zs.length + 1 < 1000 ∧ Q .non (upd H2 a (SetO X.prog X.w a (added zs z))))
  (hbase : attributeBase o "add" X.env (eval o X.env) = eval o X.env := by rfl)
  (hfew : ((backTo cp (starEach [e] X.env)).all (fun x => !x.1) && (backToKw cp (keywordEach [] X.env)).all (fun x => x.1.isSome) && decide ([e].length + ([] : List Keyword).length + (if ([] : List Keyword).isEmpty then 0 else 1) < 30)) = true := by rfl)
  (hline : (ap.endLine == cp.line) = true := by rfl) (hs : starEach [e] X.env = (false, eval e X.env) :: starEach [] X.env := by rfl) (hst : isStar e = false := by rfl) : Ev X (.Call (.Attribute o "add" ap) [e] [] cp) σ H Q := by
 refine ⟨fun pins s I => wpAny_Call_method_late hbase hfew hline rfl (thn (h.run pins s I) fun v s1 ⟨x, H1, I1, r1, a, ex, ⟨zs, hA⟩, h2⟩ => ?_)⟩
 subst ex
 cases (show v = Value.ref a from r1)
 have S := I1.set hA
 refine ⟨"set", "set.add", PySem.F.plainAttrs_set, PySem.F.slot_set_add, PySem.F.type_set_add, S.typeIs, fun b eb => ?_, ?_⟩
 ·cases eb
  obtain ⟨o, _, _, _, ho, hx, _⟩ := S
  exact ⟨o, ho, hx.2.1⟩
 have hE : Ea X [e] σ H1 (fun ys H2 => ∃ z zs, ys = [.str z] ∧ H2 a = some (SetO X.prog X.w a zs) ∧ zs.length + 1 < 1000 ∧ Q .non (upd H2 a (SetO X.prog X.w a (added zs z)))) := ea_cons (h2.mono fun y H2 ⟨z, zs, ey, q⟩ => ea_nil ⟨z, zs, by rw [ey], q⟩) hst
 have hA2 := hE.run cp pins s1 I1
 rw [hs] at hA2 ⊢
 refine Calls.callWith_builtin rfl (Calls.evalArgs_plain ?_)
 refine thn hA2 fun us s2 ⟨vs, H2, I2, r2, z, ys, ev, hA3, hl, q⟩ => ?_
 subst ev
 obtain ⟨u, rfl, ru⟩ := vals1 r2
 obtain ⟨tk, rfl⟩ := ru
 refine call_add (I2.set hA3) hl fun h' sb S' => ⟨.non, _, d_write (t' := s2.toks + 1) I2 (by rw [hA3]; exact True.intro) sb ?_ (set_obj S'), rfl, q⟩
 obtain ⟨o, _, _, _, ho, _⟩ := S'
 exact ⟨o, ho⟩
end
end L2
namespace Nt
open PySem L2
noncomputable def rnd (c : Int) (n : Net) (e : End) : End := (e.1, (((e.2 : Int) + c) % ((row n e.1).length : Int)).toNat)
theorem rnd_int {c : Int} {n : Net} {e : End} (h : e ∈ ends n) : (((rnd c n e).2 : Nat) : Int) = ((e.2 : Int) + c) % ((row n e.1).length : Int) := by
 obtain ⟨z, hz⟩ := mem_ends.mp h
 have := end_lt hz
 exact Int.toNat_of_nonneg (Int.emod_nonneg _ (by omega))
theorem rnd_end {c : Int} {n : Net} {e : End} (h : e ∈ ends n) : rnd c n e ∈ ends n := by
 obtain ⟨z, hz⟩ := mem_ends.mp h
 have h1 := end_lt hz
 have h2 := rnd_int (c := c) h
 have h3 : ((e.2 : Int) + c) % ((row n e.1).length : Int) < ((row n e.1).length : Int) := Int.emod_lt_of_pos _ (by omega)
 exact mem_ends.mpr (end_of (e := rnd c n e) (by show (rnd c n e).2 < (row n e.1).length; omega))
theorem rnd_back {c : Int} {n : Net} {e : End} (h : e ∈ ends n) : rnd (-c) n (rnd c n e) = e := by
 have h2 := rnd_int (c := c) h
 have h3 := rnd_int (c := -c) (rnd_end (c := c) h)
 obtain ⟨z, hz⟩ := mem_ends.mp h
 have h1 := end_lt hz
 have hr : (rnd c n e).1 = e.1 := rfl
 rw [hr, h2] at h3
 have e1 : (((e.2 : Int) + c) % ((row n e.1).length : Int) + -c) % ((row n e.1).length : Int) = (e.2 : Int) := by
  have : (((e.2 : Int) + c) % ((row n e.1).length : Int) + -c) % ((row n e.1).length : Int) = ((e.2 : Int) + c + -c) % ((row n e.1).length : Int) := by
   rw [Int.add_emod, Int.emod_emod, ← Int.add_emod]
  rw [this, show (e.2 : Int) + c + -c = (e.2 : Int) by omega]
  exact Int.emod_eq_of_lt (by omega) (by omega)
 rw [e1] at h3
 have h4 : (rnd (-c) n (rnd c n e)).2 = e.2 := by omega
 exact Prod.ext rfl h4
theorem rnd_inj {c : Int} {n : Net} {a b : End} (ha : a ∈ ends n) (hb : b ∈ ends n) (h : rnd c n a = rnd c n b) : a = b := by
 rw [← rnd_back (c := c) ha, ← rnd_back (c := c) hb, h]
noncomputable def go (c : Int) (n : Net) (e : End) : End := rnd c n (other n e)
theorem go_end {c : Int} {n : Net} (T : Twice n) {e : End} (h : e ∈ ends n) : go c n e ∈ ends n := rnd_end (other_end T h)
theorem go_inj {c : Int} {n : Net} (T : Twice n) {a b : End} (ha : a ∈ ends n) (hb : b ∈ ends n) (h : go c n a = go c n b) : a = b := other_inj T ha hb (rnd_inj (other_end T ha) (other_end T hb) h)
noncomputable def two (n : Net) (e : End) : End := go (-1) n (go 1 n e)
theorem two_end {n : Net} (T : Twice n) {e : End} (h : e ∈ ends n) : two n e ∈ ends n := go_end T (go_end T h)
theorem two_inj {n : Net} (T : Twice n) {a b : End} (ha : a ∈ ends n) (hb : b ∈ ends n) (h : two n a = two n b) : a = b := go_inj T ha hb (go_inj T (go_end T ha) (go_end T hb) h)
noncomputable def wk (n : Net) (e : End) : Nat → List End
 | 0 => []
 | k + 1 => wk n e k ++ [it (two n) k e, go 1 n (it (two n) k e)]
theorem wk_len (n : Net) (e : End) : ∀ k, (wk n e k).length = 2 * k
 | 0 => rfl
 | k + 1 => by
  show (wk n e k ++ _).length = _
  rw [List.length_append, wk_len n e k]
  show 2 * k + 2 = _
  omega
theorem wk_even (n : Net) (e : End) : ∀ (k i : Nat), i < k → (wk n e k)[2 * i]? = some (it (two n) i e)
 | 0, i, h => absurd h (Nat.not_lt_zero _)
 | k + 1, i, h => by
  show (wk n e k ++ [it (two n) k e, go 1 n (it (two n) k e)])[2 * i]? = _
  have l := wk_len n e k
  by_cases hk : i < k
  ·rw [List.getElem?_append_left (by omega)]
   exact wk_even n e k i hk
  ·have : i = k := by omega
   subst this
   rw [List.getElem?_append_right (by omega), l, Nat.sub_self]
   rfl
theorem wk_odd (n : Net) (e : End) : ∀ (k i : Nat), i < k → (wk n e k)[2 * i + 1]? = some (go 1 n (it (two n) i e))
 | 0, i, h => absurd h (Nat.not_lt_zero _)
 | k + 1, i, h => by
  show (wk n e k ++ [it (two n) k e, go 1 n (it (two n) k e)])[2 * i + 1]? = _
  have l := wk_len n e k
  by_cases hk : i < k
  ·rw [List.getElem?_append_left (by omega)]
   exact wk_odd n e k i hk
  ·have : i = k := by omega
   subst this
   rw [List.getElem?_append_right (by omega), l, show 2 * i + 1 - 2 * i = 1 by omega]
   rfl
theorem wk_evens (n : Net) (e : End) (k : Nat) : evens (wk n e k) = (List.range k).map fun i => it (two n) i e := by
 apply List.ext_getElem?
 intro i
 rw [evens_at, List.getElem?_map]
 by_cases h : i < k
 ·rw [wk_even n e k i h, List.getElem?_range h]
  rfl
 ·rw [List.getElem?_eq_none (by rw [wk_len]; omega), List.getElem?_eq_none (by rw [List.length_range]; omega)]
  rfl
theorem wk_ends {n : Net} (T : Twice n) {e : End} (h : e ∈ ends n) : ∀ k, ∀ c ∈ wk n e k, c ∈ ends n
 | 0, c, hc => by cases hc
 | k + 1, c, hc => by
  have hk : it (two n) k e ∈ ends n := it_mem (fun a ha => two_end T ha) h k
  rcases List.mem_append.mp hc with hc | hc
  ·exact wk_ends T h k c hc
  ·rcases List.mem_cons.mp hc with rfl | hc
   ·exact hk
   ·rw [List.mem_singleton.mp hc]
    exact go_end T hk
structure Per (n : Net) (e : End) (k : Nat) : Prop where
 pos : 0 < k
 back : it (two n) k e = e
 first : ∀ i, 0 < i → i < k → it (two n) i e ≠ e
theorem Per.unique {n : Net} {e : End} {k l : Nat} (a : Per n e k) (b : Per n e l) : k = l := by
 rcases Nat.lt_trichotomy k l with h | h | h
 ·exact absurd a.back (b.first k a.pos h)
 ·exact h
 ·exact absurd b.back (a.first l b.pos h)
noncomputable def per (n : Net) (e : End) : Nat := by classical exact if h : ∃ k, Per n e k then h.choose else 0
theorem per_eq {n : Net} {e : End} {k : Nat} (h : Per n e k) : per n e = k := by
 have hx : ∃ k, Per n e k := ⟨k, h⟩
 unfold per
 rw [dif_pos hx]
 exact hx.choose_spec.unique h
noncomputable def walker (n : Net) (e : End) : List End := wk n e (per n e)
structure IsWk (n : Net) (ws : List End) : Prop where
 ends : ∀ c ∈ ws, c ∈ Nt.ends n
 ne0 : 0 < ws.length
 even : ws.length % 2 = 0
 few : ws.length ≤ 2 * (Nt.ends n).length
 at' : ∀ k, k < ws.length → ∃ c, ws[k]? = some c ∧ ws[(k + 1) % ws.length]? = some (go (1 - 2 * ((k : Int) % 2)) n c)
theorem per_wk {n : Net} (T : Twice n) {e : End} (h : e ∈ Nt.ends n) {k : Nat} (p : Per n e k) (hk : k ≤ (Nt.ends n).length) : IsWk n (wk n e k) := by
 have l := wk_len n e k
 have p0 := p.pos
 refine ⟨wk_ends T h k, by omega, by omega, by omega, fun j hj => ?_⟩
 rw [l] at hj ⊢
 rcases Nat.mod_two_eq_zero_or_one j with h2 | h2
 ·obtain ⟨i, rfl⟩ : ∃ i, j = 2 * i := ⟨j / 2, by omega⟩
  refine ⟨_, wk_even n e k i (by omega), ?_⟩
  rw [Nat.mod_eq_of_lt (by omega), wk_odd n e k i (by omega)]
  have : (1 : Int) - 2 * (((2 * i : Nat) : Int) % 2) = 1 := by omega
  rw [this]
 ·obtain ⟨i, rfl⟩ : ∃ i, j = 2 * i + 1 := ⟨j / 2, by omega⟩
  refine ⟨_, wk_odd n e k i (by omega), ?_⟩
  have e1 : (1 : Int) - 2 * (((2 * i + 1 : Nat) : Int) % 2) = -1 := by omega
  rw [e1]
  show _ = some (two n (it (two n) i e))
  by_cases hl : i + 1 < k
  ·rw [Nat.mod_eq_of_lt (by omega), show 2 * i + 1 + 1 = 2 * (i + 1) by omega]
   exact wk_even n e k (i + 1) hl
  ·have : i + 1 = k := by omega
   rw [show 2 * i + 1 + 1 = 2 * k by omega, Nat.mod_self]
   have e2 : two n (it (two n) i e) = it (two n) k e := by rw [← this]; rfl
   rw [e2, p.back]
   exact wk_even n e k 0 (by omega)
noncomputable def tnm (n : Net) (e : End) : Str := (tieAt n e).getD ⟨#[]⟩
theorem tnm_eq {n : Net} {e : End} {z : Str} (h : tieAt n e = some z) : tnm n e = z := by unfold tnm; rw [h]; rfl
noncomputable def wks (n : Net) : List End → List Str → List (List End)
 | [], _ => []
 | e :: r, told => if tnm n e ∈ told then wks n r told else walker n e :: wks n r (told ++ (evens (walker n e)).map (tnm n))
end Nt
namespace P3
open PySem L2 Nt Sort2
theorem valV_atG {κ : Type} [DecidableEq κ] : ∀ {kvs : List (κ × V)} {i : Nat} {p : κ × V}, (kvs.map (·.1)).Nodup → kvs[i]? = some p → valV kvs p.1 = some p.2
 | [], _, _, _, h => by simp at h
 | q :: r, 0, p, _, h => by
  cases h
  exact valV_pos rfl
 | q :: r, i + 1, p, hn, h => by
  rw [List.map_cons, List.nodup_cons] at hn
  have hm : r[i]? = some p := by simpa using h
  rw [valV_neg fun e => hn.1 (by rw [e]; exact List.mem_map.mpr ⟨p, List.mem_of_getElem? hm, rfl⟩)]
  exact valV_atG hn.2 hm
theorem nd_idx {κ : Type} {l : List κ} (h : l.Nodup) {i j : Nat} {a : κ} (hi : l[i]? = some a) (hj : l[j]? = some a) : i = j := by
 have h1 := (List.getElem?_eq_some_iff.mp hi).1
 have h2 := (List.getElem?_eq_some_iff.mp hj).1
 have e1 := (List.getElem?_eq_some_iff.mp hi).2
 have e2 := (List.getElem?_eq_some_iff.mp hj).2
 rcases Nat.lt_trichotomy i j with c | c | c
 ·exact absurd (e1.trans e2.symm) (List.pairwise_iff_getElem.mp h i j h1 h2 c)
 ·exact c
 ·exact absurd (e2.trans e1.symm) (List.pairwise_iff_getElem.mp h j i h2 h1 c)
noncomputable def spLS (c : Int) : Sp := fun vs H Q _ => ∃ (R : Addr) (as : List (Addr × Addr)) (n : Net), vs = [.ref R] ∧ RowsAt H R as n ∧ (n.map (·.1)).Nodup ∧ Twice n ∧ n.length ≤ 1000 ∧ (ties n).length ≤ 1000 ∧
 ∀ (d : Addr) (kvs : List (List Key × V)) (H' : Hp), Same H H' → H d = none → H' d = some (.dT kvs) → (∀ e ∈ ends n, ∃ u, valV kvs (key n e) = some (.ref u) ∧ H' u = some (TN n (go c n e))) → Q (.ref d) H'
section
variable {P : Program} {w : World} {K : PySem.W.Frag} {mg : Str → Option Value} {base : Heap}
noncomputable abbrev NLs1 : List Str := ["rows", "lists"]
noncomputable abbrev NLs2 : List Str := ["rows", "lists", "end", "other"]
theorem nd_ls2 : NLs2.Nodup := by decide +kernel
theorem scLS : FnScope NLs1 ["rows"] (defScope sLS) := ⟨rfl, rfl, rfl, by decide +kernel, rfl, by decide +kernel, by decide +kernel⟩
theorem ok_LS {f : Addr} {fd : FuncData} (F : Fun K "left_steps" "left_steps" sLS f fd) (T : Txt mg)
  (GO : Has P w K mg base 2 "other_ends" ["rows"] spOE)
  (GT : Has P w K mg base 2 "turned_left" ["end", "many"] (spTL fun j => j + 1)) :
  FnOk P w K mg base CX0 3 f fd ["rows"] (spLS (1)) := by
 refine F.gb scLS (fun vs H Q E h => ?_) (fun b0 H vs Q E hr h => ?_)
 ·obtain ⟨R, as, n, rfl, _⟩ := h
  rfl
 obtain ⟨R, as, n, rfl, hR, hN, hT, hn, ht, q⟩ := h
 have nd := scLS.nd
 have hal := hR.len
 have hu := hr.u1
 show Run _ _ _ [some (.ref R), none] H
 have keys := rowKvs_keys n as hal
 have knd : ((rowKvs n as).map (·.1)).Nodup := by rw [keys]; exact nodup_inr hN
 have klen : (rowKvs n as).length = n.length := by have := congrArg List.length keys; simpa using this
 refine run_set 1 nd (ev_typ (call_dict_list rfl) T.tdict PyProof.Rows.boot_dict (ea_cons (ev_v 0 (ea_nil ⟨R, as.map (·.1), rowKvs n as, rfl, ?_, ?_, ?_, ?_, fun dl hdl => ?_⟩))))
 ·rw [List.map_map]
  exact hR.lst
 ·rw [List.length_map, klen, hal]
 ·rw [List.length_map]
  exact small' (by omega)
 ·intro j t kv h1 h2
  rw [List.getElem?_map, Option.map_eq_some_iff] at h1
  obtain ⟨a, ea, rfl⟩ := h1
  have hj : j < n.length := by have := (List.getElem?_eq_some_iff.mp ea).1; omega
  have e := rowKvs_at (List.getElem?_eq_getElem hj) ea
  rw [h2] at e
  cases e
  exact (hR.tup j a n[j] ea (List.getElem?_eq_getElem hj)).1
 have ef : (rowKvs n as).foldl (fun a p => putK a p.1 p.2) [] = rowKvs n as := by
  rw [fold_new (acc := []) (by rw [List.nil_append]; exact knd), List.nil_append]
 rw [ef]
 have s1 := same_new hdl (.dK (rowKvs n as))
 have el : (upd H dl (.dK (rowKvs n as))) dl = some (.dK (rowKvs n as)) := upd_same
 generalize upd H dl (.dK (rowKvs n as)) = H1 at s1 el
 show Run _ _ _ [some (.ref R), some (.ref dl)] H1
 refine run_ret (ev_compDT (defScope sLS) NLs1 NLs2 2 (pi_items pe_ev) ?_)
 refine ev_has GO hr (ea_cons (ev_v 0 (ea_nil ⟨R, as, n, rfl, hR.same s1, hN, hT, hn, ht, fun d kvs H2 s2 nd2 ed val knd2 kks klen2 => ?_⟩)))
 refine ⟨d, kvs, rfl, ed, fun o D hD cl C s₀ H₀ ex => ?_⟩
 have nDd : D ≠ d := fun e => by rw [e, upd_same] at hD; cases hD
 have hD2 : H2 D = none := by rw [upd_ne nDd] at hD; exact hD
 have hd0 : H d = none := free_back s1 nd2
 have sB : Same H (upd H2 d (.frz o (.dT kvs))) := same_mut (s1.trans s2) hd0
 have kB : ∀ b o', b ≠ d → H2 b = some o' → (upd H2 d (.frz o (.dT kvs))) b = some o' := fun b o' hb h => by rw [upd_ne hb]; exact h
 have tB : ∀ b p j, H2 b = some (Tn p j) → (upd H2 d (.frz o (.dT kvs))) b = some (Tn p j) := fun b p j h => kB b _ (tup_ne_dT h ed) h
 have edB : (upd H2 d (.frz o (.dT kvs))) d = some (.frz o (.dT kvs)) := upd_same
 have elB : (upd H2 d (.frz o (.dT kvs))) dl = some (.dK (rowKvs n as)) := kB _ _ (fun e => by rw [e, nd2] at el; cases el) (s2 _ _ el)
 have hRB := hR.same sB
 generalize upd H2 d (.frz o (.dT kvs)) = HB at hD sB tB edB elB hRB
 have hD0 := free_back sB hD
 refine clause_itemsP (fun i σ' H' => (∃ v1 v2, σ' = [some (.ref R), some (.ref dl)] ++ [v1, v2]) ∧ ∃ kv2 : List (List Key × V), H' D = some (.dT kv2) ∧ kv2.length ≤ i ∧ Same HB H' ∧
  (∀ j k x e, j < i → kvs[j]? = some (k, x) → e ∈ ends n → k = key n e → ∃ u, valV kv2 (key n e) = some (.ref u) ∧ H' u = some (TN n (go (1) n e))))
  ⟨⟨none, none, rfl⟩, [], upd_same, Nat.le_refl _, same_new hD _, fun j k x e h => absurd h (Nat.not_lt_zero _)⟩ ?_ ?_ ?_
 ·rintro i σ' H' _ ⟨_, _, _, _, sm, _⟩
  exact sm _ _ edB
 ·rintro i k x b Tt σ' H' hx ⟨⟨v1, v2, rfl⟩, kv2, eD, l2, sm, all⟩ hb hTt
  have hi : i < kvs.length := (List.getElem?_eq_some_iff.mp hx).1
  obtain ⟨e, he, rfl⟩ := kks k (List.mem_map.mpr ⟨_, List.mem_of_getElem? hx, rfl⟩)
  obtain ⟨u, hv, hu2⟩ := val e he
  have hx2 : valV kvs (key n e) = some x := valV_atG knd2 hx
  rw [hv] at hx2
  cases hx2
  have hob := other_end hT he
  obtain ⟨zo, hzo⟩ := mem_ends.mp hob
  have hrl := row_lt hzo
  have hel := end_lt hzo
  have nmE : nameAt n (other n e).1 = n[(other n e).1].1 := nameAt_eq hrl
  have sT := same_new hTt (.tup [.ref b, .ref u])
  have huT := sT _ _ (sm _ _ (tB _ _ _ hu2))
  refine eg_pair rfl (SqT.of upd_same) (eg_name 2 nd_ls2 (eg_name 3 nd_ls2 ?_))
  refine ei_nil ?_
  rw [if_pos rfl]
  have eai : as[(other n e).1]? = some (as[(other n e).1]'(by omega)) := List.getElem?_eq_getElem (by omega)
  have hni : n[(other n e).1]? = some n[(other n e).1] := List.getElem?_eq_getElem hrl
  have ev : valV (rowKvs n as) (Sum.inr (nameAt n (other n e).1)) = some (.ref (as[(other n e).1]'(by omega)).2) := by rw [nmE]; exact valV_at knd (rowKvs_at hni eai)
  have hrow := (hR.tup _ _ _ eai hni).2
  have erow : row n (other n e).1 = n[(other n e).1].2 := row_eq hrl
  refine ein_emitD hu (ev_v 2 (ev_has GT hr (ea_cons (ev_v 3 (ea_cons (ev_blt call_len_seq T.len boot_len (ea_cons (ev_dget hu (ev_v 1 (ev_ix ix_tup (ev_v 3 (ev_int ⟨u, _, _, .str (nameAt n (other n e).1), rfl, rfl, SqT.of huT, rfl, ?_⟩))))))))))))
  refine ⟨dl, .ref (as[(other n e).1]'(by omega)).2, rfl, by rw [← ev]; exact DGet.k (k := Sum.inr (nameAt n (other n e).1)) (sT _ _ (sm _ _ elB)), ea_nil ⟨_, _, rfl, .inl (SqL.of (sT _ _ (sm _ _ (sB _ _ hrow)))), ea_nil ⟨u, _, _, _, rfl, huT, ?_, fun t2 H4 s4 et2 => ?_⟩⟩⟩
  ·rw [List.length_map, ← erow]
   omega
  rw [List.length_map, ← erow] at et2
  have et3 : H4 t2 = some (TN n (go (1) n e)) := by
   rw [et2]
   have := rnd_int (c := 1) hob
   show some (Tn _ _) = some (Tn _ (((go (1) n e).2 : Nat) : Int))
   unfold go
   rw [this]
   rfl
  have hb4 := s4 _ _ (sT _ _ hb)
  refine ⟨_, DPut.t (k := key n e) (s4 _ _ (sT _ _ eD)) hb4 (small' (by omega)), ⟨_, _, rfl⟩, _, upd_same, ?_, same_mut ((sm.trans sT).trans s4) hD, fun j k' x' e' hj hx' he' hk' => ?_⟩
  ·have := length_putK kv2 (key n e) (.ref t2)
   omega
  ·subst hk'
   by_cases hji : j = i
   ·subst hji
    rw [hx] at hx'
    have hke : key n e = key n e' := congrArg Prod.fst (Option.some.inj hx')
    obtain ⟨z1, hz1⟩ := mem_ends.mp he
    obtain ⟨z2, hz2⟩ := mem_ends.mp he'
    have := key_inj hN (row_lt hz1) (row_lt hz2) hke
    subst this
    exact ⟨t2, by rw [valV_put, if_pos rfl], by rw [upd_ne (tup_ne_dT et3 (s4 _ _ (sT _ _ eD)))]; exact et3⟩
   ·obtain ⟨u3, hu3, hu4⟩ := all j _ x' e' (by omega) hx' he' rfl
    refine ⟨u3, ?_, ?_⟩
    ·rw [valV_put, if_neg, hu3]
     intro hk
     have h1 : (kvs.map (·.1))[j]? = some (key n e') := by rw [List.getElem?_map, hx']; rfl
     have h2 : (kvs.map (·.1))[i]? = some (key n e') := by rw [List.getElem?_map, hx, hk]; rfl
     exact hji (nd_idx knd2 h1 h2)
    ·have q4 := s4 _ _ (sT _ _ hu4)
     rw [upd_ne (tup_ne_dT q4 (s4 _ _ (sT _ _ eD)))]
     exact q4
 ·rintro σ' H' ⟨_, kv2, eD, _, sm, all⟩
  refine q D kv2 H' (sB.trans sm) hD0 eD fun e he => ?_
  obtain ⟨u, hv, _⟩ := val e he
  obtain ⟨i, hi⟩ : ∃ i : Nat, (kvs.map (·.1))[i]? = some (key n e) := List.getElem?_of_mem (valV_in hv)
  rw [List.getElem?_map, Option.map_eq_some_iff] at hi
  obtain ⟨⟨k, x⟩, hx, hk⟩ := hi
  exact all i k x e (List.getElem?_eq_some_iff.mp hx).1 hx he hk
theorem scRS : FnScope NLs1 ["rows"] (defScope sRS) := ⟨rfl, rfl, rfl, by decide +kernel, rfl, by decide +kernel, by decide +kernel⟩
theorem ok_RS {f : Addr} {fd : FuncData} (F : Fun K "right_steps" "right_steps" sRS f fd) (T : Txt mg)
  (GO : Has P w K mg base 2 "other_ends" ["rows"] spOE)
  (GT : Has P w K mg base 2 "turned_right" ["end", "many"] (spTL fun j => j - 1)) :
  FnOk P w K mg base CX0 3 f fd ["rows"] (spLS (-1)) := by
 refine F.gb scRS (fun vs H Q E h => ?_) (fun b0 H vs Q E hr h => ?_)
 ·obtain ⟨R, as, n, rfl, _⟩ := h
  rfl
 obtain ⟨R, as, n, rfl, hR, hN, hT, hn, ht, q⟩ := h
 have nd := scRS.nd
 have hal := hR.len
 have hu := hr.u1
 show Run _ _ _ [some (.ref R), none] H
 have keys := rowKvs_keys n as hal
 have knd : ((rowKvs n as).map (·.1)).Nodup := by rw [keys]; exact nodup_inr hN
 have klen : (rowKvs n as).length = n.length := by have := congrArg List.length keys; simpa using this
 refine run_set 1 nd (ev_typ (call_dict_list rfl) T.tdict PyProof.Rows.boot_dict (ea_cons (ev_v 0 (ea_nil ⟨R, as.map (·.1), rowKvs n as, rfl, ?_, ?_, ?_, ?_, fun dl hdl => ?_⟩))))
 ·rw [List.map_map]
  exact hR.lst
 ·rw [List.length_map, klen, hal]
 ·rw [List.length_map]
  exact small' (by omega)
 ·intro j t kv h1 h2
  rw [List.getElem?_map, Option.map_eq_some_iff] at h1
  obtain ⟨a, ea, rfl⟩ := h1
  have hj : j < n.length := by have := (List.getElem?_eq_some_iff.mp ea).1; omega
  have e := rowKvs_at (List.getElem?_eq_getElem hj) ea
  rw [h2] at e
  cases e
  exact (hR.tup j a n[j] ea (List.getElem?_eq_getElem hj)).1
 have ef : (rowKvs n as).foldl (fun a p => putK a p.1 p.2) [] = rowKvs n as := by
  rw [fold_new (acc := []) (by rw [List.nil_append]; exact knd), List.nil_append]
 rw [ef]
 have s1 := same_new hdl (.dK (rowKvs n as))
 have el : (upd H dl (.dK (rowKvs n as))) dl = some (.dK (rowKvs n as)) := upd_same
 generalize upd H dl (.dK (rowKvs n as)) = H1 at s1 el
 show Run _ _ _ [some (.ref R), some (.ref dl)] H1
 refine run_ret (ev_compDT (defScope sRS) NLs1 NLs2 2 (pi_items pe_ev) ?_)
 refine ev_has GO hr (ea_cons (ev_v 0 (ea_nil ⟨R, as, n, rfl, hR.same s1, hN, hT, hn, ht, fun d kvs H2 s2 nd2 ed val knd2 kks klen2 => ?_⟩)))
 refine ⟨d, kvs, rfl, ed, fun o D hD cl C s₀ H₀ ex => ?_⟩
 have nDd : D ≠ d := fun e => by rw [e, upd_same] at hD; cases hD
 have hD2 : H2 D = none := by rw [upd_ne nDd] at hD; exact hD
 have hd0 : H d = none := free_back s1 nd2
 have sB : Same H (upd H2 d (.frz o (.dT kvs))) := same_mut (s1.trans s2) hd0
 have kB : ∀ b o', b ≠ d → H2 b = some o' → (upd H2 d (.frz o (.dT kvs))) b = some o' := fun b o' hb h => by rw [upd_ne hb]; exact h
 have tB : ∀ b p j, H2 b = some (Tn p j) → (upd H2 d (.frz o (.dT kvs))) b = some (Tn p j) := fun b p j h => kB b _ (tup_ne_dT h ed) h
 have edB : (upd H2 d (.frz o (.dT kvs))) d = some (.frz o (.dT kvs)) := upd_same
 have elB : (upd H2 d (.frz o (.dT kvs))) dl = some (.dK (rowKvs n as)) := kB _ _ (fun e => by rw [e, nd2] at el; cases el) (s2 _ _ el)
 have hRB := hR.same sB
 generalize upd H2 d (.frz o (.dT kvs)) = HB at hD sB tB edB elB hRB
 have hD0 := free_back sB hD
 refine clause_itemsP (fun i σ' H' => (∃ v1 v2, σ' = [some (.ref R), some (.ref dl)] ++ [v1, v2]) ∧ ∃ kv2 : List (List Key × V), H' D = some (.dT kv2) ∧ kv2.length ≤ i ∧ Same HB H' ∧
  (∀ j k x e, j < i → kvs[j]? = some (k, x) → e ∈ ends n → k = key n e → ∃ u, valV kv2 (key n e) = some (.ref u) ∧ H' u = some (TN n (go (-1) n e))))
  ⟨⟨none, none, rfl⟩, [], upd_same, Nat.le_refl _, same_new hD _, fun j k x e h => absurd h (Nat.not_lt_zero _)⟩ ?_ ?_ ?_
 ·rintro i σ' H' _ ⟨_, _, _, _, sm, _⟩
  exact sm _ _ edB
 ·rintro i k x b Tt σ' H' hx ⟨⟨v1, v2, rfl⟩, kv2, eD, l2, sm, all⟩ hb hTt
  have hi : i < kvs.length := (List.getElem?_eq_some_iff.mp hx).1
  obtain ⟨e, he, rfl⟩ := kks k (List.mem_map.mpr ⟨_, List.mem_of_getElem? hx, rfl⟩)
  obtain ⟨u, hv, hu2⟩ := val e he
  have hx2 : valV kvs (key n e) = some x := valV_atG knd2 hx
  rw [hv] at hx2
  cases hx2
  have hob := other_end hT he
  obtain ⟨zo, hzo⟩ := mem_ends.mp hob
  have hrl := row_lt hzo
  have hel := end_lt hzo
  have nmE : nameAt n (other n e).1 = n[(other n e).1].1 := nameAt_eq hrl
  have sT := same_new hTt (.tup [.ref b, .ref u])
  have huT := sT _ _ (sm _ _ (tB _ _ _ hu2))
  refine eg_pair rfl (SqT.of upd_same) (eg_name 2 nd_ls2 (eg_name 3 nd_ls2 ?_))
  refine ei_nil ?_
  rw [if_pos rfl]
  have eai : as[(other n e).1]? = some (as[(other n e).1]'(by omega)) := List.getElem?_eq_getElem (by omega)
  have hni : n[(other n e).1]? = some n[(other n e).1] := List.getElem?_eq_getElem hrl
  have ev : valV (rowKvs n as) (Sum.inr (nameAt n (other n e).1)) = some (.ref (as[(other n e).1]'(by omega)).2) := by rw [nmE]; exact valV_at knd (rowKvs_at hni eai)
  have hrow := (hR.tup _ _ _ eai hni).2
  have erow : row n (other n e).1 = n[(other n e).1].2 := row_eq hrl
  refine ein_emitD hu (ev_v 2 (ev_has GT hr (ea_cons (ev_v 3 (ea_cons (ev_blt call_len_seq T.len boot_len (ea_cons (ev_dget hu (ev_v 1 (ev_ix ix_tup (ev_v 3 (ev_int ⟨u, _, _, .str (nameAt n (other n e).1), rfl, rfl, SqT.of huT, rfl, ?_⟩))))))))))))
  refine ⟨dl, .ref (as[(other n e).1]'(by omega)).2, rfl, by rw [← ev]; exact DGet.k (k := Sum.inr (nameAt n (other n e).1)) (sT _ _ (sm _ _ elB)), ea_nil ⟨_, _, rfl, .inl (SqL.of (sT _ _ (sm _ _ (sB _ _ hrow)))), ea_nil ⟨u, _, _, _, rfl, huT, ?_, fun t2 H4 s4 et2 => ?_⟩⟩⟩
  ·rw [List.length_map, ← erow]
   omega
  rw [List.length_map, ← erow] at et2
  have et3 : H4 t2 = some (TN n (go (-1) n e)) := by
   rw [et2]
   have := rnd_int (c := -1) hob
   show some (Tn _ _) = some (Tn _ (((go (-1) n e).2 : Nat) : Int))
   unfold go
   rw [this]
   rfl
  have hb4 := s4 _ _ (sT _ _ hb)
  refine ⟨_, DPut.t (k := key n e) (s4 _ _ (sT _ _ eD)) hb4 (small' (by omega)), ⟨_, _, rfl⟩, _, upd_same, ?_, same_mut ((sm.trans sT).trans s4) hD, fun j k' x' e' hj hx' he' hk' => ?_⟩
  ·have := length_putK kv2 (key n e) (.ref t2)
   omega
  ·subst hk'
   by_cases hji : j = i
   ·subst hji
    rw [hx] at hx'
    have hke : key n e = key n e' := congrArg Prod.fst (Option.some.inj hx')
    obtain ⟨z1, hz1⟩ := mem_ends.mp he
    obtain ⟨z2, hz2⟩ := mem_ends.mp he'
    have := key_inj hN (row_lt hz1) (row_lt hz2) hke
    subst this
    exact ⟨t2, by rw [valV_put, if_pos rfl], by rw [upd_ne (tup_ne_dT et3 (s4 _ _ (sT _ _ eD)))]; exact et3⟩
   ·obtain ⟨u3, hu3, hu4⟩ := all j _ x' e' (by omega) hx' he' rfl
    refine ⟨u3, ?_, ?_⟩
    ·rw [valV_put, if_neg, hu3]
     intro hk
     have h1 : (kvs.map (·.1))[j]? = some (key n e') := by rw [List.getElem?_map, hx']; rfl
     have h2 : (kvs.map (·.1))[i]? = some (key n e') := by rw [List.getElem?_map, hx, hk]; rfl
     exact hji (nd_idx knd2 h1 h2)
    ·have q4 := s4 _ _ (sT _ _ hu4)
     rw [upd_ne (tup_ne_dT q4 (s4 _ _ (sT _ _ eD)))]
     exact q4
 ·rintro σ' H' ⟨_, kv2, eD, _, sm, all⟩
  refine q D kv2 H' (sB.trans sm) hD0 eD fun e he => ?_
  obtain ⟨u, hv, _⟩ := val e he
  obtain ⟨i, hi⟩ : ∃ i : Nat, (kvs.map (·.1))[i]? = some (key n e) := List.getElem?_of_mem (valV_in hv)
  rw [List.getElem?_map, Option.map_eq_some_iff] at hi
  obtain ⟨⟨k, x⟩, hx, hk⟩ := hi
  exact all i k x e (List.getElem?_eq_some_iff.mp hx).1 hx he hk
end
end P3
namespace P3
open PySem L2 Nt Sort2
noncomputable def AtE (n : Net) (H : Hp) (ts : List Addr) (es : List Nt.End) : Prop := ts.length = es.length ∧ ∀ (j : Nat) t e, ts[j]? = some t → es[j]? = some e → H t = some (TN n e)
theorem AtE.keep {n : Net} {H H' : Hp} {ts : List Addr} {es : List Nt.End} (h : AtE n H ts es) (k : ∀ t p j, H t = some (Tn p j) → H' t = some (Tn p j)) : AtE n H' ts es := ⟨h.1, fun j t e h1 h2 => k _ _ _ (h.2 j t e h1 h2)⟩
theorem AtE.same {n : Net} {H H' : Hp} {ts : List Addr} {es : List Nt.End} (h : AtE n H ts es) (s : Same H H') : AtE n H' ts es := h.keep fun _ _ _ q => s _ _ q
theorem AtE.append {n : Net} {H : Hp} {ts us : List Addr} {es fs : List Nt.End} (h : AtE n H ts es) (g : AtE n H us fs) : AtE n H (ts ++ us) (es ++ fs) := by
 refine ⟨by rw [List.length_append, List.length_append, h.1, g.1], fun j t e h1 h2 => ?_⟩
 have hl := h.1
 by_cases hj : j < ts.length
 ·rw [List.getElem?_append_left hj] at h1
  rw [List.getElem?_append_left (by omega)] at h2
  exact h.2 j t e h1 h2
 ·rw [List.getElem?_append_right (by omega)] at h1 h2
  rw [← hl] at h2
  exact g.2 _ t e h1 h2
theorem AtE.two {n : Net} {H : Hp} {t u : Addr} {a b : Nt.End} (h1 : H t = some (TN n a)) (h2 : H u = some (TN n b)) : AtE n H [t, u] [a, b] := ⟨rfl, fun j x e h3 h4 => by
 match j with
 | 0 => cases h3; cases h4; exact h1
 | 1 => cases h3; cases h4; exact h2
 | j + 2 => simp at h3⟩
theorem tn_eq {n : Net} (hN : (n.map (·.1)).Nodup) {a b : Nt.End} (ha : a ∈ ends n) (hb : b ∈ ends n) : decide (nameAt n a.1 = nameAt n b.1 ∧ (a.2 : Int) = (b.2 : Int)) = decide (a = b) := by
 obtain ⟨z1, h1⟩ := mem_ends.mp ha
 obtain ⟨z2, h2⟩ := mem_ends.mp hb
 refine decide_eq_decide.mpr ⟨fun ⟨p, q⟩ => key_inj hN (row_lt h1) (row_lt h2) (by unfold key; rw [p, q]), fun e => by rw [e]; exact ⟨rfl, rfl⟩⟩
theorem ty_l {K : PySem.W.Frag} {H : Hp} {d : Addr} {xs : List V} (h : H d = some (.lst xs)) : tyV K "list" (.ref d) H := Or.inl ⟨rfl, xs, SqL.of h⟩
noncomputable def StepAt (n : Net) (H : Hp) (d : Addr) (c : Int) : Prop := ∃ kvs, H d = some (.dT kvs) ∧ ∀ e ∈ ends n, ∃ u, valV kvs (key n e) = some (.ref u) ∧ H u = some (TN n (go c n e))
theorem StepAt.same {n : Net} {H H' : Hp} {d : Addr} {c : Int} (h : StepAt n H d c) (s : Same H H') : StepAt n H' d c := let ⟨kvs, h1, h2⟩ := h; ⟨kvs, s _ _ h1, fun e he => let ⟨u, a, b⟩ := h2 e he; ⟨u, a, s _ _ b⟩⟩
theorem StepAt.get {n : Net} {H : Hp} {d t : Addr} {c : Int} {e : Nt.End} (h : StepAt n H d c) (he : e ∈ ends n) (ht : H t = some (TN n e)) : ∃ u, DGet H d (.ref t) (some (.ref u)) ∧ H u = some (TN n (go c n e)) := by
 obtain ⟨kvs, h1, h2⟩ := h
 obtain ⟨u, a, b⟩ := h2 e he
 exact ⟨u, by rw [← a]; exact DGet.t (k := key n e) h1 ht, b⟩
noncomputable def spWF : Sp := fun vs H Q _ => ∃ (dl dr t : Addr) (n : Net) (e : Nt.End), vs = [.ref dl, .ref dr, .ref t] ∧ StepAt n H dl 1 ∧ StepAt n H dr (-1) ∧ (n.map (·.1)).Nodup ∧ Twice n ∧ (ties n).length ≤ 1000 ∧ e ∈ ends n ∧ H t = some (TN n e) ∧
 ∀ (l : Addr) (ts : List Addr) (k : Nat) (H' : Hp), Same H H' → H l = none → H' l = some (.lst (ts.map V.ref)) → AtE n H' ts (wk n e k) → Per n e k → k ≤ (ends n).length → Q (.ref l) H'
section
variable {P : Program} {w : World} {K : PySem.W.Frag} {mg : Str → Option Value} {base : Heap}
noncomputable abbrev NWf : List Str := ["lefts", "rights", "first", "walker", "end"]
theorem scWF : FnScope NWf ["lefts", "rights", "first"] (defScope sWkF) := ⟨rfl, rfl, rfl, by decide +kernel, rfl, by decide +kernel, by decide +kernel⟩
theorem map2 (ts : List Addr) (a b : Addr) : ts.map V.ref ++ [V.ref a, V.ref b] = (ts ++ [a]).map V.ref ++ [V.ref b] := by rw [List.map_append, List.append_assoc]; rfl
theorem ok_WF {f : Addr} {fd : FuncData} (F : Fun K "walker_from" "walker_from" sWkF f fd) (T : Txt mg) : FnOk P w K mg base CX0 1 f fd ["lefts", "rights", "first"] spWF := by
 refine F.gb scWF (fun vs H Q E h => ?_) (fun b0 H vs Q E hr h => ?_)
 ·obtain ⟨dl, dr, t, n, e, rfl, _⟩ := h
  rfl
 obtain ⟨dl, dr, t, n, e, rfl, hL, hRt, hN, hT, hti, he, ht, q⟩ := h
 have nd := scWF.nd
 have hel := ends_len n
 have hu := hr.u1
 have un := hr.u100
 obtain ⟨k, k0, k1, k2⟩ := comes_back (f := two n) (S := ends n) (fun a ha => two_end hT ha) (fun a ha b hb => two_inj hT ha hb) he
 obtain ⟨u1, g1, e1⟩ := hL.get he ht
 show Run _ _ _ [some (.ref dl), some (.ref dr), some (.ref t), none, none] H
 refine run_set 3 nd (ev_lst (ea_cons (ev_v 2 (ea_cons (ev_dget hu (ev_v 0 (ev_v 2 ⟨dl, .ref u1, rfl, g1, ea_nil ⟨(by show 2 ≤ sizeLine; decide), fun l hl => ?_⟩⟩)))))))
 have s1 := same_new hl (.lst [.ref t, .ref u1])
 have el : (upd H l (.lst [.ref t, .ref u1])) l = some (.lst ([t, u1].map V.ref)) := upd_same
 generalize upd H l (.lst [.ref t, .ref u1]) = H1 at s1 el
 obtain ⟨u2, g2, e2⟩ := (hRt.same s1).get (go_end hT he) (s1 _ _ e1)
 refine run_set 4 nd (ev_dget hu (ev_v 1 (ev_ix ix_list (ev_v 3 (ev_un un_neg (ev_int ⟨1, rfl, l, _, _, .ref u1, rfl, rfl, SqL.of el, rfl, dr, .ref u2, rfl, g2, ?_⟩))))))
 show Run _ _ _ [some (.ref dl), some (.ref dr), some (.ref t), some (.ref l), some (.ref u2)] H1
 refine run_while (fun m σ H2 => ∃ (j : Nat) (ts : List Addr) (u : Addr), m = k - j ∧ 0 < j ∧ j ≤ k ∧ Same H H2 ∧ H2 l = some (.lst (ts.map V.ref)) ∧ AtE n H2 ts (wk n e j) ∧ H2 u = some (TN n (it (two n) j e)) ∧ (∀ i, 0 < i → i < j → it (two n) i e ≠ e) ∧ σ = [some (.ref dl), some (.ref dr), some (.ref t), some (.ref l), some (.ref u)])
  (m0 := k - 1) ⟨1, [t, u1], u2, rfl, Nat.one_pos, k0, s1, el, AtE.two (s1 _ _ ht) (s1 _ _ e1), e2, fun i h1 h2 => by omega, rfl⟩ ?_
 rintro m σ H2 ⟨j, ts, u, rfl, j0, j1, sH, el2, at2, eu, hf, rfl⟩
 have hje : it (two n) j e ∈ ends n := it_mem (fun a ha => two_end hT ha) he j
 refine et_cmp (op_neD un) (ev_v 4 (ev_v 2 ⟨1, _, by decide, rnD_tn eu (sH _ _ ht), _, rfl, ?_⟩))
 rw [tn_eq hN hje he]
 have tl := at2.1
 rw [wk_len] at tl
 by_cases c : it (two n) j e = e
 ·rw [decide_eq_true c]
  exact iteF (run_ret (ev_v 3 (q l ts j H2 sH hl el2 at2 ⟨j0, c, hf⟩ (by omega))))
 ·rw [decide_eq_false c]
  have jk : j < k := by
   rcases Nat.lt_or_ge j k with h | h
   ·exact h
   ·have : j = k := by omega
    subst this
    exact absurd k2 c
  obtain ⟨v1, g3, e3⟩ := (hL.same sH).get hje eu
  refine iteT (run_expr (ev_m1 PySem.F.plainAttrs_list PySem.F.slot_list_extend PySem.F.type_list_extend mt_extend (ev_v 3 (v := .ref l) ⟨ty_l el2, ev_lst (ea_cons (ev_v 4 (ea_cons (ev_dget hu (ev_v 0 (ev_v 4 ⟨dl, .ref v1, rfl, g3, ea_nil ⟨(by show 2 ≤ sizeLine; decide), fun p hp => ?_⟩⟩))))))⟩)))
  have s3 := same_new hp (.lst [.ref u, .ref v1])
  have nlp : l ≠ p := ne_of_none el2 hp
  refine ⟨l, p, ts.map V.ref, [.ref u, .ref v1], rfl, rfl, s3 _ _ el2, upd_same, small (by rw [List.length_map]; show _ + 2 ≤ 100000; omega), ?_⟩
  have sH3 : Same H (upd (upd H2 p (.lst [.ref u, .ref v1])) l (.lst (ts.map V.ref ++ [.ref u, .ref v1]))) := same_mut (sH.trans s3) hl
  have el3 : (upd (upd H2 p (.lst [.ref u, .ref v1])) l (.lst (ts.map V.ref ++ [.ref u, .ref v1]))) l = some (.lst ((ts ++ [u, v1]).map V.ref)) := by rw [upd_same, List.map_append]; rfl
  have kt : ∀ b p' j', H2 b = some (Tn p' j') → (upd (upd H2 p (.lst [.ref u, .ref v1])) l (.lst (ts.map V.ref ++ [.ref u, .ref v1]))) b = some (Tn p' j') := fun b p' j' h => by
   rw [upd_ne (ne_of h el2 fun z => nomatch z)]
   exact s3 _ _ h
  generalize upd (upd H2 p (.lst [.ref u, .ref v1])) l (.lst (ts.map V.ref ++ [.ref u, .ref v1])) = H3 at sH3 el3 kt
  obtain ⟨v2, g4, e4⟩ := (hRt.same sH3).get (go_end hT hje) (kt _ _ _ e3)
  refine run_set 4 nd (ev_dget hu (ev_v 1 (ev_ix ix_list (ev_v 3 (ev_un un_neg (ev_int ⟨1, rfl, l, _, _, .ref v1, rfl, rfl, SqL.of el3, ?_, dr, .ref v2, rfl, g4, ?_⟩))))))
  ·rw [List.map_append]
   show atI (ts.map V.ref ++ [V.ref u, V.ref v1]) (-1) = _
   rw [map2]
   exact atI_last _ _
  refine run_nil ⟨k - (j + 1), by omega, j + 1, ts ++ [u, v1], v2, rfl, Nat.succ_pos _, jk, sH3, el3, (at2.keep kt).append (AtE.two (kt _ _ _ eu) (kt _ _ _ e3)), e4, fun i h1 h2 => ?_, rfl⟩
  by_cases hij : i = j
  ·subst hij
   exact c
  ·exact hf i h1 (by omega)
end
end P3
namespace P3
open PySem L2 Nt Sort2 SetT
theorem evens_map {α β : Type} (f : α → β) : ∀ xs : List α, evens (xs.map f) = (evens xs).map f
 | [] => rfl
 | [a] => rfl
 | a :: b :: r => by
  show f a :: evens (r.map f) = f a :: (evens r).map f
  rw [evens_map f r]
theorem AtE.evens {n : Net} {H : Hp} {ts : List Addr} {es : List Nt.End} (h : AtE n H ts es) : AtE n H (L2.evens ts) (L2.evens es) := by
 refine ⟨by rw [evens_len, evens_len, h.1], fun j t e h1 h2 => ?_⟩
 rw [evens_at] at h1 h2
 exact h.2 _ t e h1 h2
theorem ne_set {P : Program} {w : World} {H : Hp} {a d : Addr} {o : HO} {zs : List Str} (h : H a = some o) (g : H d = some (SetO P w d zs)) (ho : ∀ φ, o ≠ .ext φ) : a ≠ d := fun e => by
 rw [e, g] at h
 exact ho _ (Option.some.inj h).symm
structure WAt (n : Net) (H : Hp) (L : Addr) (ls : List Addr) (ws : List (List Nt.End)) : Prop where
 lst : H L = some (.lst (ls.map V.ref))
 len : ls.length = ws.length
 nod : ls.Nodup
 out : L ∉ ls
 at' : ∀ (j : Nat) l w, ls[j]? = some l → ws[j]? = some w → ∃ ts, H l = some (.lst (ts.map V.ref)) ∧ AtE n H ts w
theorem WAt.same {n : Net} {H H' : Hp} {L : Addr} {ls : List Addr} {ws : List (List Nt.End)} (h : WAt n H L ls ws) (s : Same H H') : WAt n H' L ls ws :=
 ⟨s _ _ h.lst, h.len, h.nod, h.out, fun j l w h1 h2 => let ⟨ts, a, b⟩ := h.at' j l w h1 h2; ⟨ts, s _ _ a, b.same s⟩⟩
theorem WAt.keep {n : Net} {H H' : Hp} {L : Addr} {ls : List Addr} {ws : List (List Nt.End)} (h : WAt n H L ls ws) (hL : H' L = H L) (kl : ∀ l ∈ ls, ∀ o, H l = some o → H' l = some o) (kt : ∀ t p j, H t = some (Tn p j) → H' t = some (Tn p j)) : WAt n H' L ls ws :=
 ⟨by rw [hL]; exact h.lst, h.len, h.nod, h.out, fun j l w h1 h2 => let ⟨ts, a, b⟩ := h.at' j l w h1 h2; ⟨ts, kl l (List.mem_of_getElem? h1) _ a, b.keep kt⟩⟩
theorem WAt.snoc {n : Net} {H H' : Hp} {L l : Addr} {ls ts : List Addr} {ws : List (List Nt.End)} {v : List Nt.End} (h : WAt n H L ls ws) (hL : H' L = some (.lst (ls.map V.ref ++ [.ref l]))) (kl : ∀ l ∈ ls, ∀ o, H l = some o → H' l = some o) (kt : ∀ t p j, H t = some (Tn p j) → H' t = some (Tn p j))
  (hl : H' l = some (.lst (ts.map V.ref))) (hv : AtE n H' ts v) (hn : l ∉ ls) (hLl : L ≠ l) : WAt n H' L (ls ++ [l]) (ws ++ [v]) := by
 refine ⟨by rw [hL, List.map_append]; rfl, by rw [List.length_append, List.length_append, h.len]; rfl, nd_snoc h.nod hn, fun hm => ?_, fun j a x h1 h2 => ?_⟩
 ·rcases List.mem_append.mp hm with hm | hm
  ·exact h.out hm
  ·exact hLl (List.mem_singleton.mp hm)
 ·have hlen := h.len
  by_cases hj : j < ls.length
  ·rw [List.getElem?_append_left hj] at h1
   rw [List.getElem?_append_left (by omega)] at h2
   obtain ⟨us, q1, q2⟩ := h.at' j a x h1 h2
   exact ⟨us, kl a (List.mem_of_getElem? h1) _ q1, q2.keep kt⟩
  ·rw [List.getElem?_append_right (by omega)] at h1 h2
   have hj2 : j - ls.length = 0 := by
    have := (List.getElem?_eq_some_iff.mp h1).1
    simp at this
    omega
   rw [hj2] at h1
   rw [← hlen, hj2] at h2
   cases h1
   cases h2
   exact ⟨ts, hl, hv⟩
noncomputable def spWks : Sp := fun vs H Q _ => ∃ (R : Addr) (as : List (Addr × Addr)) (n : Net), vs = [.ref R] ∧ RowsAt H R as n ∧ (n.map (·.1)).Nodup ∧ Twice n ∧ n.length ≤ 1000 ∧ (ties n).length ≤ 400 ∧
 ∀ (L : Addr) (ls : List Addr) (H' : Hp), Same H H' → H L = none → WAt n H' L ls (wks n (ends n) []) → (∀ l ∈ ls, H l = none) → Q (.ref L) H'
theorem ends_at {n : Net} {i : Nat} {p : Str × Nt.End} (h : (seats n)[i]? = some p) : (ends n)[i]? = some p.2 := by unfold ends; rw [List.getElem?_map, h]; rfl
section
variable {P : Program} {w : World} {K : PySem.W.Frag} {mg : Str → Option Value} {base : Heap}
noncomputable abbrev NWs : List Str := ["rows", "lefts", "rights", "names", "told", "walkers", "first", "walker", "end"]
theorem scWs : FnScope NWs ["rows"] (defScope sWks) := ⟨rfl, rfl, rfl, by decide +kernel, rfl, by decide +kernel, by decide +kernel⟩
theorem ok_Wks {f : Addr} {fd : FuncData} (F : Fun K "walkers_of" "walkers_of" sWks f fd) (T : Txt mg)
  (GL : Has P w K mg base 3 "left_steps" ["rows"] (spLS 1))
  (GR : Has P w K mg base 3 "right_steps" ["rows"] (spLS (-1)))
  (GN : Has P w K mg base 3 "ties_by_end" ["rows"] spBE)
  (GO : Has P w K mg base 3 "ends_in_order" ["rows"] spOrd)
  (GW : Has P w K mg base 3 "walker_from" ["lefts", "rights", "first"] spWF) :
  FnOk P w K mg base CX0 4 f fd ["rows"] spWks := by
 refine F.gb scWs (fun vs H Q E h => ?_) (fun b0 H vs Q E hr h => ?_)
 ·obtain ⟨R, as, n, rfl, _⟩ := h
  rfl
 obtain ⟨R, as, n, rfl, hR, hN, hT, hn, hti, q⟩ := h
 have nd := scWs.nd
 have hel := ends_len n
 have hu := hr.u1
 show Run _ _ _ [some (.ref R), none, none, none, none, none, none, none, none] H
 refine run_set 1 nd (ev_has GL hr (ea_cons (ev_v 0 (ea_nil ⟨R, as, n, rfl, hR, hN, hT, hn, by omega, fun dl kl H1 s1 n1 e1 v1 => ?_⟩))))
 refine run_set 2 nd (ev_has GR hr (ea_cons (ev_v 0 (ea_nil ⟨R, as, n, rfl, hR.same s1, hN, hT, hn, by omega, fun dr kr H2 s2 n2 e2 v2 => ?_⟩))))
 refine run_set 3 nd (ev_has GN hr (ea_cons (ev_v 0 (ea_nil ⟨R, as, n, rfl, hR.same (s1.trans s2), hN, hn, by omega, fun dn kn H3 s3 n3 e3 v3 => ?_⟩))))
 refine run_set 4 nd (ev_set0 T.tset fun D hD => ?_)
 refine run_set 5 nd (ev_lst (ea_nil ⟨(by show 0 ≤ sizeLine; decide), fun L hL => ?_⟩))
 have hSL : StepAt n H3 dl 1 := StepAt.same ⟨kl, e1, v1⟩ (s2.trans s3)
 have hSR : StepAt n H3 dr (-1) := StepAt.same ⟨kr, e2, v2⟩ s3
 have s123 := (s1.trans s2).trans s3
 have hLD : L ≠ D := fun e => by rw [e, upd_same] at hL; cases hL
 have hL3 : H3 L = none := by rw [upd_ne hLD] at hL; exact hL
 have hD0 := free_back s123 hD
 have hL0 := free_back s123 hL3
 have sB : Same H3 (upd (upd H3 D (SetO P w D [])) L (.lst [])) := (same_new hD _).trans (same_new hL _)
 have eD0 : (upd (upd H3 D (SetO P w D [])) L (.lst [])) D = some (SetO P w D []) := by rw [upd_ne (Ne.symm hLD), upd_same]
 have eL0 : (upd (upd H3 D (SetO P w D [])) L (.lst [])) L = some (.lst []) := upd_same
 have sHB := s123.trans sB
 have hSLB := hSL.same sB
 have hSRB := hSR.same sB
 have e3B := sB _ _ e3
 show Run _ _ _ [some (.ref R), some (.ref dl), some (.ref dr), some (.ref dn), some (.ref D), some (.ref L), none, none, none] (upd (upd H3 D (SetO P w D [])) L (.lst []))
 generalize upd (upd H3 D (SetO P w D [])) L (.lst []) = HB at sB eD0 eL0 sHB hSLB hSRB e3B
 refine run_forL (ev_has GO hr (ea_cons (ev_v 0 (ea_nil ⟨R, as, n, rfl, hR.same sHB, hn, by omega, fun U us H5 s5 n5 e5 at5 => ⟨U, rfl, ⟨_, SqL.of e5⟩, ?_⟩⟩))))
 have sH5 := sHB.trans s5
 have eD5 := s5 _ _ eD0
 have eL5 := s5 _ _ eL0
 have hSL5 := hSLB.same s5
 have hSR5 := hSRB.same s5
 have e35 := s5 _ _ e3B
 have nUL : U ≠ L := fun e => by rw [e, eL0] at n5; cases n5
 have lus : us.length = (ends n).length := by rw [at5.1]; unfold ends; rw [List.length_map]
 refine loop_list (xs := us.map V.ref) (fun i σ H' => ∃ (zs told : List Str) (ls : List Addr) (ws : List (List Nt.End)) (u1 u2 u3 : Option V), (∀ b o, b ≠ D → b ≠ L → H5 b = some o → H' b = some o) ∧ H' D = some (SetO P w D zs) ∧ zs.Nodup ∧ (∀ z ∈ zs, z ∈ ties n) ∧ (∀ z, z ∈ zs ↔ z ∈ told) ∧
  WAt n H' L ls ws ∧ (∀ l ∈ ls, H5 l = none) ∧ ls.length ≤ i ∧ wks n (ends n) [] = ws ++ wks n ((ends n).drop i) told ∧ σ = [some (.ref R), some (.ref dl), some (.ref dr), some (.ref dn), some (.ref D), some (.ref L), u1, u2, u3])
  ⟨[], [], [], [], _, _, _, fun b o _ _ h => h, eD5, List.nodup_nil, fun z h => by simp at h, fun z => by simp, ⟨eL5, rfl, List.nodup_nil, by simp, fun j l w h => by simp at h⟩, fun l h => by simp at h, Nat.le_refl _, rfl, rfl⟩ ?_ ?_ ?_
 ·rintro i σ H' _ ⟨_, _, _, _, _, _, _, kp, _⟩
  exact SqL.of (kp _ _ (ne_set e5 eD5 fun φ z => nomatch z) nUL e5)
 ·rintro i x σ H' hx ⟨zs, told, ls, ws, u1, u2, u3, kp, eD, zn, zt, zm, hW, hf, hli, hwk, rfl⟩
  have hi : i < us.length := by
   have := (List.getElem?_eq_some_iff.mp hx).1
   rw [List.length_map] at this
   exact this
  rw [List.getElem?_map, List.getElem?_eq_getElem hi] at hx
  cases hx
  have hsi : i < (seats n).length := by have := at5.1; omega
  have ht5 : H5 us[i] = some (TN n (seats n)[i].2) := at5.2 i us[i] (seats n)[i] (List.getElem?_eq_getElem hi) (List.getElem?_eq_getElem hsi)
  have hee := ends_at (List.getElem?_eq_getElem hsi)
  have htie : tieAt n (seats n)[i].2 = some (seats n)[i].1 := mem_seats.mp (by have := List.getElem_mem hsi; exact this)
  generalize (seats n)[i] = pr at ht5 hee htie
  obtain ⟨z, e⟩ := pr
  have ht5 : H5 us[i] = some (TN n e) := ht5
  have htie : tieAt n e = some z := htie
  have hee : (ends n)[i]? = some e := hee
  have he : e ∈ ends n := List.mem_of_getElem? hee
  have hdrop : (ends n).drop i = e :: (ends n).drop (i + 1) := by
   have hie : i < (ends n).length := by omega
   rw [List.drop_eq_getElem_cons hie]
   congr 1
   have := List.getElem?_eq_getElem hie
   rw [hee] at this
   exact (Option.some.inj this).symm
  have ktn : ∀ {b p j}, H5 b = some (Tn p j) → H' b = some (Tn p j) := fun {b p j} h => kp _ _ (ne_set h eD5 fun φ z => nomatch z) (ne_of h eL5 fun z => nomatch z) h
  have ht' := ktn ht5
  have ed' : H' dn = some (.dT kn) := kp _ _ (ne_set e35 eD5 fun φ z => nomatch z) (ne_of e35 eL5 fun z => nomatch z) e35
  have hst : ∀ {d c}, StepAt n H5 d c → StepAt n H' d c := fun {d c} ⟨kvs, a, b⟩ => ⟨kvs, kp _ _ (ne_set a eD5 fun φ z => nomatch z) (ne_of a eL5 fun z => nomatch z) a, fun e he => let ⟨u, p, r⟩ := b e he; ⟨u, p, ktn r⟩⟩
  have hd1 : DGet H' dn (.ref us[i]) (some (.str z)) := by rw [← v3 e z htie]; exact DGet.t (k := key n e) ed' ht'
  refine eg_name 6 nd ?_
  refine run_if (et_cmp op_notin_set (ev_dget hu (ev_v 3 (ev_v 6 ⟨dn, .str z, rfl, hd1, ev_v 4 ⟨z, D, zs, rfl, rfl, eD, _, rfl, ?_⟩⟩))))
  refine ite2 (fun c => ?_) (fun c => ?_)
  ·have hz : z ∉ zs := of_decide_eq_true c
   have hzt : tnm n e ∉ told := by rw [tnm_eq htie]; exact fun h => hz ((zm z).mpr h)
   refine run_set 7 nd (ev_has GW hr (ea_cons (ev_v 1 (ea_cons (ev_v 2 (ea_cons (ev_v 6 (ea_nil ⟨dl, dr, us[i], n, e, rfl, hst hSL5, hst hSR5, hN, hT, by omega, he, ht', fun l ts k H6 s6 n6 e6 at6 pr hk => ?_⟩))))))))
   have hpe := per_eq pr
   have hwe : walker n e = wk n e k := by unfold walker; rw [hpe]
   have eL6 := s6 _ _ hW.lst
   have eD6 := s6 _ _ eD
   have nlL : L ≠ l := ne_of_none hW.lst n6
   have nlD : D ≠ l := ne_of_none eD n6
   refine run_expr (ev_append (ev_v 5 ⟨L, rfl, ⟨_, eL6⟩, ev_v 7 ⟨_, eL6, by rw [List.length_map]; exact small' (by omega), ?_⟩⟩))
   have k7 : ∀ b o, b ≠ L → H6 b = some o → (upd H6 L (.lst (ls.map V.ref ++ [.ref l]))) b = some o := fun b o hb h => by rw [upd_ne hb]; exact h
   have eL7 : (upd H6 L (.lst (ls.map V.ref ++ [.ref l]))) L = some (.lst (ls.map V.ref ++ [.ref l])) := upd_same
   generalize upd H6 L (.lst (ls.map V.ref ++ [.ref l])) = H7 at k7 eL7
   have kt7 : ∀ t p j, H6 t = some (Tn p j) → H7 t = some (Tn p j) := fun t p j h => k7 _ _ (ne_of h eL6 fun z => nomatch z) h
   have e7 := k7 _ _ (Ne.symm nlL) e6
   have eD7 := k7 _ _ (Ne.symm hLD) eD6
   have at7 := at6.keep kt7
   have hnl : l ∉ ls := fun hm => by
    obtain ⟨j, hj⟩ := List.getElem?_of_mem hm
    have hlen := hW.len
    have hjw : j < ws.length := by have := (List.getElem?_eq_some_iff.mp hj).1; omega
    obtain ⟨_, a, _⟩ := hW.at' j l ws[j] hj (List.getElem?_eq_getElem hjw)
    rw [n6] at a
    cases a
   have hW7 : WAt n H7 L (ls ++ [l]) (ws ++ [wk n e k]) := hW.snoc eL7 (fun a ha o ho => k7 _ _ (fun q => hW.out (q ▸ ha)) (s6 _ _ ho)) (fun t p j h => kt7 _ _ _ (s6 _ _ h)) e7 at7 hnl nlL
   have l57 : H5 l = none := by
    cases q5 : H5 l with
    | none => rfl
    | some o => rw [kp _ _ (Ne.symm nlD) (Ne.symm nlL) q5] at n6; cases n6
   have hf7 : ∀ a ∈ ls ++ [l], H5 a = none := fun a ha => by
    rcases List.mem_append.mp ha with ha | ha
    ·exact hf a ha
    ·rw [List.mem_singleton.mp ha]
     exact l57
   have kp7 : ∀ b o, b ≠ D → b ≠ L → H5 b = some o → H7 b = some o := fun b o h1 h2 h => k7 _ _ h2 (s6 _ _ (kp b o h1 h2 h))
   have hll : (ls ++ [l]).length ≤ i + 1 := by rw [List.length_append]; show ls.length + 1 ≤ _; omega
   have hwk7 : wks n (ends n) [] = (ws ++ [wk n e k]) ++ wks n ((ends n).drop (i + 1)) (told ++ (evens (wk n e k)).map (tnm n)) := by
    rw [hwk, hdrop]
    show ws ++ (if tnm n e ∈ told then _ else _) = _
    rw [if_neg hzt, hwe, List.append_assoc]
    rfl
   have hev := wk_ends hT he k
   refine run_forL (ev_evens (ev_v 7 ⟨l, _, rfl, SqL.of e7, fun p hp => ⟨p, rfl, ⟨_, SqL.of upd_same⟩, ?_⟩⟩))
   rw [evens_map]
   have s8 := same_new hp (.lst ((evens ts).map V.ref))
   have e8 : (upd H7 p (.lst ((evens ts).map V.ref))) p = some (.lst ((evens ts).map V.ref)) := upd_same
   have eD8 := s8 _ _ eD7
   have hW8 := hW7.same s8
   have at8 := (at7.same s8).evens
   have kp8 : ∀ b o, b ≠ D → b ≠ L → H5 b = some o → (upd H7 p (.lst ((evens ts).map V.ref))) b = some o := fun b o h1 h2 h => s8 _ _ (kp7 b o h1 h2 h)
   have ed8 := s8 _ _ (k7 _ _ (ne_of ed' hW.lst fun z => nomatch z) (s6 _ _ ed'))
   generalize upd H7 p (.lst ((evens ts).map V.ref)) = H8 at s8 e8 eD8 hW8 at8 kp8 ed8
   have npD : p ≠ D := ne_set e8 eD8 fun φ z => nomatch z
   refine loop_list (xs := (evens ts).map V.ref) (fun m σ H9 => ∃ (zs' : List Str) (u3 : Option V), (∀ b o, b ≠ D → H8 b = some o → H9 b = some o) ∧ H9 D = some (SetO P w D zs') ∧ zs'.Nodup ∧ (∀ z ∈ zs', z ∈ ties n) ∧ (∀ z, z ∈ zs' ↔ z ∈ told ++ ((evens (wk n e k)).take m).map (tnm n)) ∧
    σ = [some (.ref R), some (.ref dl), some (.ref dr), some (.ref dn), some (.ref D), some (.ref L), some (.ref us[i]), some (.ref l), u3]) ⟨zs, _, fun b o _ h => h, eD8, zn, zt, fun z => by rw [zm z]; simp, rfl⟩ ?_ ?_ ?_
   ·rintro m σ H9 _ ⟨_, _, k9, _⟩
    exact SqL.of (k9 _ _ npD e8)
   ·rintro m x σ H9 hx ⟨zs', u3, k9, eD9, zn', zt', zm', rfl⟩
    have hm : m < (evens ts).length := by
     have := (List.getElem?_eq_some_iff.mp hx).1
     rw [List.length_map] at this
     exact this
    have l8 := at8.1
    rw [List.getElem?_map, List.getElem?_eq_getElem hm] at hx
    cases hx
    have hcm : m < (evens (wk n e k)).length := by omega
    have hc8 := at8.2 m _ _ (List.getElem?_eq_getElem hm) (List.getElem?_eq_getElem hcm)
    have hcw : (evens (wk n e k))[m] ∈ wk n e k := by
     have h1 : (evens (wk n e k))[m]? = some (evens (wk n e k))[m] := List.getElem?_eq_getElem hcm
     rw [evens_at] at h1
     exact List.mem_of_getElem? h1
    have hce := hev _ hcw
    obtain ⟨y, hy⟩ := mem_ends.mp hce
    have etk : (evens (wk n e k)).take (m + 1) = (evens (wk n e k)).take m ++ [(evens (wk n e k))[m]] := by rw [List.take_add_one, List.getElem?_eq_getElem hcm]; rfl
    generalize (evens (wk n e k))[m] = c at hc8 hce hy etk
    have hc9 : H9 (evens ts)[m] = some (TN n c) := k9 _ _ (ne_set hc8 eD8 fun φ z => nomatch z) hc8
    have ed9 : H9 dn = some (.dT kn) := k9 _ _ (ne_set ed8 eD8 fun φ z => nomatch z) ed8
    have hd9 : DGet H9 dn (.ref (evens ts)[m]) (some (.str y)) := by rw [← v3 c y hy]; exact DGet.t (k := key n c) ed9 hc9
    have zl : zs'.length ≤ (ties n).length := nodup_le zn' zt'
    refine eg_name 8 nd ?_
    refine run_expr (ev_addS (ev_v 4 ⟨D, rfl, ⟨_, eD9⟩, ev_dget hu (ev_v 3 (ev_v 8 ⟨dn, .str y, rfl, hd9, y, zs', rfl, eD9, by omega, run_nil ⟨added zs' y, _, fun b o hb h => ?_, upd_same, ?_, fun z hz => ?_, fun z => ?_, rfl⟩⟩))⟩))
    ·rw [upd_ne hb]
     exact k9 b o hb h
    ·unfold added
     split
     ·exact zn'
     ·rename_i hny
      exact nd_snoc zn' hny
    ·rcases (added_mem zs' y z).mp hz with h | h
     ·exact zt' z h
     ·rw [h]
      exact tie_mem hy
    ·rw [added_mem, zm' z, etk, List.map_append, ← List.append_assoc, List.mem_append (s := told ++ _)]
     show _ ∨ z = y ↔ _ ∨ z ∈ [tnm n c]
     rw [tnm_eq hy, List.mem_singleton]
   ·rintro σ H9 ⟨zs', u3, k9, eD9, zn', zt', zm', rfl⟩
    have l8 := at8.1
    rw [List.length_map, l8, List.take_length] at zm'
    refine run_nil (run_nil ⟨zs', told ++ (evens (wk n e k)).map (tnm n), ls ++ [l], ws ++ [wk n e k], _, _, _, fun b o h1 h2 h => k9 _ _ h1 (kp8 b o h1 h2 h), eD9, zn', zt', zm', ?_, hf7, hll, hwk7, rfl⟩)
    refine hW8.keep ?_ (fun a ha o ho => k9 _ _ ?_ ho) (fun t p j h => k9 _ _ (ne_set h eD8 fun φ z => nomatch z) h)
    ·rw [hW8.lst]
     exact k9 _ _ hLD hW8.lst
    ·intro q
     rw [q, eD8] at ho
     obtain ⟨j, hj⟩ := List.getElem?_of_mem ha
     have hlen := hW8.len
     have hjw : j < (ws ++ [wk n e k]).length := by have := (List.getElem?_eq_some_iff.mp hj).1; omega
     obtain ⟨_, b, _⟩ := hW8.at' j a _ hj (List.getElem?_eq_getElem hjw)
     rw [q, eD8] at b
     cases b
  ·have hz : z ∈ zs := Classical.not_not.mp (of_decide_eq_false (Bool.eq_false_iff.mpr c))
   refine run_nil (run_nil ⟨zs, told, ls, ws, _, _, _, kp, eD, zn, zt, zm, hW, hf, by omega, ?_, rfl⟩)
   rw [hwk, hdrop]
   show ws ++ (if tnm n e ∈ told then _ else _) = _
   rw [if_pos (by rw [tnm_eq htie]; exact (zm z).mp hz)]
 ·rintro σ H' ⟨zs, told, ls, ws, u1, u2, u3, kp, eD, zn, zt, zm, hW, hf, hli, hwk, rfl⟩
  rw [List.length_map, lus, List.drop_length] at hwk
  have hwk' : wks n (ends n) [] = ws := by rw [hwk]; show ws ++ [] = ws; rw [List.append_nil]
  refine run_ret (ev_v 5 (q L ls H' (fun b o h => ?_) hL0 (by rw [hwk']; exact hW) fun l hl => free_back sH5 (hf l hl)))
  exact kp _ _ (ne_of_none h hD0) (ne_of_none h hL0) (sH5 _ _ h)
end
end P3
namespace Nt
open PySem L2
noncomputable def nmA (n : Net) (r : Nat) : Str := ((n[r]?).map (·.1)).getD ⟨#[]⟩
theorem nmA_eq {n : Net} {r : Nat} (h : r < n.length) : nmA n r = n[r].1 := by unfold nmA; rw [List.getElem?_eq_getElem h]; rfl
end Nt
namespace Nt
open PySem L2
end Nt
namespace Nt
open PySem L2
open PyProof.Rows (sortedS)
end Nt
namespace Nt
open PySem L2
end Nt
namespace Sort3
open PySem PySem.W PyProof.Rows
section
variable {lt : Nat → Nat → Bool} {cmp : Nat → Nat → (Bool → Shared → Prop) → Shared → Prop} {J : Shared → Prop} {n : Nat}
end
end Sort3
namespace Sort3
open PySem PySem.W PyProof.Rows
section
variable {prog : Program} {w : World} {A : Around} {E : Value → Shared → Prop} {s : Shared}
end
end Sort3
namespace L2
open PySem PySem.Spec PyProof.Rows Sort3
section
variable {X : Cx} {σ : St} {H : Hp}
end
end L2
namespace L2
open PySem PySem.Spec PyProof.Rows
section
variable {X : Cx} {σ : St} {H : Hp} {Q : VK}
end
end L2
namespace L2
open PySem PySem.Spec PyProof.Rows SetT
section
variable {prog : Program} {w : World} {A : Around} {E : Value → Shared → Prop} {s : Shared} {T : String} {r d : Addr} {n : Nat} {P : Nat → Value → Prop} {OK : Heap → Prop}
theorem collect_src {R : List Value → Shared → Prop} (K : PySem.W.KdlSrc prog w T r d n P OK) (hh : A.handled = none) (hok : OK s.heap) (hn : n ≤ sizeLine)
  (h : ∀ (h' : Heap) (tk : Nat) (acc : Array Value), (∀ b o, s.heap.get? b = some o → h'.get? b = some o) → s.heap.objs.size < h'.objs.size → ItemsOf P acc n → R acc.toList { s with heap := h', toks := tk }) :
  wpAny (model prog w) A (collect (.ref r)) R E s := by
 obtain ⟨l1, l2⟩ := K.there _ hok
 unfold collect
 refine wpAny_bind (wpAny_runValue (codeAny_builtin F.entry_proto_collect ?_))
 rw [Around.under_plainId F.plain_proto_collect _]
 show wpAny _ A.in1 (newList [] >>= fun l => again (.builtin "list.__iadd__" ⟨[l, .ref r], []⟩)) _ _ s
 refine wpAny_bind (wpAny_newList ?_)
 refine wpAny_pure ⟨plainId_quiet F.plain_list_iadd _, codeAny_builtin F.entry_list_iadd ?_⟩
 rw [Around.under_plainId F.plain_list_iadd _]
 generalize hL : s.heap.objs.size = L at *
 have hS : (s.heap.push { cls := .type "list", data := .seq ([] : List Value).toArray }).get? L = some { cls := .type "list", data := .seq #[] } := by rw [← hL]; exact Heap.get?_push_size _ rfl
 show wpAny _ A.in1 (Builtin.List.listExtendWith (.ref L) (.ref r) (.ref L)) _ _ _
 refine wpAny_mono (PySem.W.kdl_extend (A := A) (s := { s with heap := s.heap.push { cls := .type "list", data := .seq ([] : List Value).toArray } })
  (R := fun (q : Result) (s' : Shared) => ∃ (h' : Heap) (tk : Nat) (acc : Array Value) (c : Nat), q = .ok (.ret (.ref L)) ∧ s' = { s with heap := h', toks := tk } ∧ (∀ b o, s.heap.get? b = some o → h'.get? b = some o) ∧ h'.get? L = some { cls := .type "list", dict := none, data := .seq acc c, slots := #[] } ∧ ItemsOf P acc n)
  K hh (K.keep _ _ hok fun b _ o e => Heap.get?_push_of_some _ e) L (Nat.ne_of_gt l1) (Nat.ne_of_gt l2) (.ref L) 0 hS
  (fun h' tk acc c hk hS' hacc => ⟨h', tk, acc, c, rfl, rfl, fun b o e => hk b o (by rw [← hL]; exact Nat.ne_of_lt (Heap.lt_size e)) (Heap.get?_push_of_some _ e), hS', hacc⟩) hn) (fun fin s' x => ?_) fun e s' x => ?_
 ·cases fin with
  | done f =>
   obtain ⟨h', tk, acc, c, e, rfl, hk, hS', hacc⟩ := x
   cases e
   show wpAny _ A (load L >>= _) _ _ _
   exact wpAny_bind (wpAny_load hS' (wpAny_pure (h h' tk acc hk (Heap.lt_size hS') hacc)))
  | again c₁ =>
   refine ⟨x.1, codeAny_mono x.2 fun q s₂ y => ?_⟩
   obtain ⟨h', tk, acc, c, rfl, rfl, hk, hS', hacc⟩ := y
   show wpAny _ A (load L >>= _) _ _ _
   exact wpAny_bind (wpAny_load hS' (wpAny_pure (h h' tk acc hk (Heap.lt_size hS') hacc)))
 ·obtain ⟨_, _, _, _, e', _⟩ := x
  cases e'
end
section
variable {X : Cx}
theorem strs_keys : ∀ {zs : List Str} {us : List Value}, us.length = zs.length → (∀ (j : Nat) u, us[j]? = some u → ∃ z t, zs[j]? = some z ∧ u = Value.str z t) → StrsAre us zs := by
 intro zs
 induction zs with
 | nil =>
  intro us h _
  cases us with
  | nil => exact .nil
  | cons a r => cases h
 | cons z r ih =>
  intro us h g
  cases us with
  | nil => cases h
  | cons u q =>
   obtain ⟨z', t, e, rfl⟩ := g 0 u rfl
   simp only [List.getElem?_cons_zero, Option.some.injEq] at e
   subst e
   exact .cons z t (ih (by simpa using h) fun j u hu => by simpa using g (j + 1) u (by simpa using hu))
theorem call_sorted_dict (hc : X.calm = true) : CallR X (.builtin "sorted") (fun xs H Q => ∃ a kvs zs, xs = [.ref a] ∧ Rd H a (.dK kvs) ∧ kvs.map (·.1) = zs.map Sum.inr ∧ zs.length < 64 ∧ ∀ l ss, H l = none → ss.Perm zs → sortedS ss = true → Q (.ref l) (upd H l (.lst (ss.map V.str)))) := by
 intro pins s σ H xs us Q I r h
 obtain ⟨a, kvs, zs, rfl, hH, hk, h64, q⟩ := h
 obtain ⟨u, rfl, ru⟩ := vals1 r
 cases (show u = Value.ref a from ru)
 obtain ⟨z, hd, vs, rel, dd⟩ := dk_rd I.hok hH
 obtain ⟨ep, da⟩ := dd.dictAt
 have hl := rel.length
 have hlz : vs.length = zs.length := by
  have := congrArg List.length hk
  rw [List.length_map, List.length_map] at this
  omega
 refine Calls.call_function_entry kind_sorted plain_sorted entry_sorted (args_sorted1 _) ?_
 unfold Builtin.«sorted»
 refine wpAny_bind (m := checkCount "sorted" 1 1 _) (wpAny_pure ?_)
 refine wpAny_bind (collect_src (A := X.A.in1) (PySem.W.kdl_dict (knd := mixKind X.prog X.w) (kvs := vs) (ep := ep) hd) (I.ok.hd hc) da (by omega) fun h' tk acc hkp hgr hacc => ?_)
 have hS : StrsAre acc.toList zs := strs_keys (by rw [Array.length_toList, hacc.1]; exact hlz) fun j u hu => by
  obtain ⟨k, x, e, g⟩ := hacc.2 j u (by rw [← Array.getElem?_toList]; exact hu)
  have e2 : (kvs.map (·.1))[j]? = some k := by rw [rel.keys, List.getElem?_map, e]; rfl
  rw [hk, List.getElem?_map, Option.map_eq_some_iff] at e2
  obtain ⟨zz, hz, rfl⟩ := e2
  obtain ⟨t, et⟩ : ∃ t, u = Value.str zz t := is_kV g
  exact ⟨zz, t, hz, et⟩
 have hlen : acc.toList.length = zs.length := by rw [Array.length_toList, hacc.1]; exact hlz
 refine wpAny_bind (wpAny_newList ?_ (by rw [hlen]; exact sz_ok (by omega)))
 have hoL : (h'.push (seqObj "list" acc.toList.toArray 0)).get? h'.objs.size = some (seqObj "list" acc.toList.toArray 0) := Heap.get?_push_size _ rfl
 have hsz : s.heap.objs.size ≤ h'.objs.size := Nat.le_of_lt hgr
 refine wpAny_bind (wpAny_holding (wpAny_call_entry slot_list_sort ⟨_, hoL, rfl⟩ entry_list_sort (list_sort_treeK strKind_oneLt hoL hS.keysOf (fun v₁ v₂ rest e => keyKind_strs (by rw [← e]; exact hS)) (by rw [hlen]; exact h64) fun st' a1 a2 => ⟨_, rfl, ?_⟩) (args_list_sort _)))
 obtain ⟨ss, q1, q2, q3⟩ := sorted_out_str hS a1 a2
 obtain ⟨e, he⟩ := sortedHeap_at (out := (arrOf st').map (·.2)) hoL
 have hls : ss.length ≤ sizeLine := by rw [q2.length_eq]; exact sz_ok (by omega)
 refine wpAny_pure ⟨_, rfl, .ref _, _, I.laid' (a := h'.objs.size) (o := .lst (ss.map V.str)) (fun b u hb => ?_) rfl rfl hsz ⟨by rw [List.length_map]; exact hls, _, e, vals_of_strs q1, he⟩, rfl, q _ ss (I.hok.fresh hsz) q2 q3⟩
 have hb1 := hkp b u hb
 have hlt := Heap.lt_size hb1
 show (sortedHeap (h'.push _) h'.objs.size _ _).get? b = some u
 rw [sortedHeap_old (Nat.ne_of_lt hlt) (by rw [size_push']; exact Nat.lt_succ_of_lt hlt)]
 exact Heap.get?_push_of_some _ hb1
end
end L2
namespace L2
open PySem PySem.Spec PyProof.Rows
section
noncomputable def Ite (K : PySem.W.Frag) (l : Addr) : It :=
  ⟨fun i H => ∃ xs x, SqL K H l xs ∧ xs[i]? = some x,
   fun i H v H' => ∃ T x, H T = none ∧ v = .ref T ∧ H' = upd H T (.tup [.int (i : Int), x]) ∧ ∀ xs, SqL K H l xs → xs[i]? = some x,
   fun i H => ∃ xs, SqL K H l xs ∧ xs.length ≤ i⟩
noncomputable def EnumTn (m l : Addr) (i : Nat) (h : Heap) : Prop := (∃ old, IsEnum h (m + 1) m (i : Int) old) ∧ h.IsListIter m l i
theorem turn_enum {P : Program} {w : World} {K : PySem.W.Frag} {elts : List Expr} {k : Nat} {tp : Pos} (m l : Addr) : Turn P w K (.Tuple elts k tp) (Ite K l) [m, m + 1] (m + 1) (EnumTn m l) where
 mem := by simp
 obj := fun i h st c hc => by
  obtain ⟨⟨old, z1⟩, ⟨o4, e4, c4, d4⟩⟩ := st
  simp only [List.mem_cons, List.not_mem_nil, or_false] at hc
  rcases hc with rfl | rfl
  ·exact ⟨_, e4, fun v z => by rw [d4] at z; cases z⟩
  ·exact ⟨_, z1, fun v z => by cases z⟩
 keep := fun i h h' st kp => by
  obtain ⟨⟨old, z1⟩, ⟨o4, e4, r4⟩⟩ := st
  exact ⟨⟨old, kp _ (by simp) _ z1⟩, ⟨o4, kp _ (by simp) _ e4, r4⟩⟩
 item := by
  intro X hP hw hK hc i pins s σ H E I hf st hg
  subst hP hw hK
  obtain ⟨xs, x, hxs, hx⟩ := hg
  obtain ⟨its1, rv1, p1, hz1⟩ := I.list hxs
  obtain ⟨u1, hu1, ru1⟩ := rv1.get hx
  obtain ⟨⟨old, z1⟩, z4⟩ := id st
  refine wpAny_pyNext_enum_item z1 z4 p1.isList (x := u1) (by simpa using hu1) (by simp) fun h' a1 a2 a3 a4 kp => ?_
  have hT : H s.heap.objs.size = none := I.hok.fresh (Nat.le_refl _)
  have nT : ∀ c ∈ [m, m + 1], c ≠ s.heap.objs.size := fun c hc' => by
   have : ∃ o, s.heap.get? c = some o := by
    obtain ⟨o4, e4, _⟩ := z4
    simp only [List.mem_cons, List.not_mem_nil, or_false] at hc'
    rcases hc' with rfl | rfl
    ·exact ⟨_, e4⟩
    ·exact ⟨_, z1⟩
   obtain ⟨o, e⟩ := this
   exact Nat.ne_of_lt (Heap.lt_size e)
  have I1 : Inv X pins σ (upd H s.heap.objs.size (.tup [.int (i : Int), x])) { s with heap := s.heap.push { cls := .type "tuple", data := .seq #[.int i s.toks, u1] }, toks := s.toks + 1 } :=
   I.laid (t' := s.toks + 1) (fun b o e => Heap.get?_push_of_some _ e) (Nat.le_refl _) (show ObjOk X.prog X.w _ _ _ (.tup [.int (i : Int), x]) from ⟨(by show 2 ≤ sizeLine; decide), [.int i s.toks, u1], .cons ⟨_, rfl⟩ (.cons ru1 .nil), ⟨_, Heap.get?_push_size _ rfl, rfl, _, rfl⟩⟩)
  have f1 : ∀ c ∈ [m, m + 1], FpOk X pins (upd H s.heap.objs.size (.tup [.int (i : Int), x])) c := fun c hc' => ⟨by rw [upd_ne (nT c hc')]; exact (hf c hc').1, (hf c hc').2⟩
  have kp2 : ∀ c o, c ∉ [m, m + 1] → (s.heap.push { cls := .type "tuple", data := .seq #[.int i s.toks, u1] }).get? c = some o → h'.get? c = some o := fun c o hc' e => by
   rcases Heap.get?_push_cases e with ⟨ec, eo⟩ | e'
   ·rw [ec, eo]
    exact a3
   ·simp only [List.mem_cons, List.not_mem_nil, or_false, not_or] at hc'
    exact kp c o hc'.2 hc'.1 e'
  have I2 := Inv.turnedL (h' := h') (t' := s.toks + 1) I1 f1 kp2
  refine ⟨_, rfl, wpAny_letOwnedTupleGo_enum (s := { s with heap := h', toks := s.toks + 1 }) a1 fun h2 b1 sb => ?_⟩
  have kp3 : ∀ c o, c ∉ [m + 1] → h'.get? c = some o → h2.get? c = some o := fun c o hc' e => (sb.2 c (by simpa using hc')).trans e
  have I3 := Inv.turnedL (h' := h2) (t' := s.toks + 1) I2 (ch := [m + 1]) (fun c hc' => f1 c (by simp at hc'; simp [hc'])) kp3
  refine ⟨.ref s.heap.objs.size, _, I3, rfl, ⟨_, x, hT, rfl, rfl, fun zs hz => by rw [I.list_inj hz hxs]; exact hx⟩, ?_, fun c hc' => (f1 c hc').1⟩
  obtain ⟨o3, e3, r3⟩ := a2
  exact ⟨⟨u1, b1⟩, ⟨o3, kp3 _ _ (by simp) e3, r3⟩⟩
 done := by
  intro X hP hw hK hc i pins s σ H E I hf st hg
  subst hP hw hK
  obtain ⟨xs, hxs, hend⟩ := hg
  obtain ⟨its1, rv1, p1, hz1⟩ := I.list hxs
  have l1 := rv1.length
  obtain ⟨⟨old, z1⟩, z4⟩ := id st
  refine wpAny_pyNext_enum_end (I.ok.hd hc) z1 z4 p1.isList (by simp; omega) fun h' kp => ⟨rfl, I.turnedL (t' := s.toks) (ch := [m, m + 1]) hf fun c o hc' e => ?_⟩
  simp only [List.mem_cons, List.not_mem_nil, or_false, not_or] at hc'
  exact kp c o hc'.1 e
 self := fun _ _ _ _ _ st h => by
  obtain ⟨⟨old, z1⟩, _⟩ := st
  exact wpAny_pyIter_enum z1 h
end
section
variable {X : Cx}
noncomputable def iEnum (K : PySem.W.Frag) (ta : TA) : TI := fun σ H R => ta σ H fun vs H1 => ∃ a, vs = [.ref a] ∧ (∃ xs, SqL K H1 a xs) ∧ R (Ite K a) H1
theorem pi_enum {elts : List Expr} {k : Nat} {tp : Pos} {a : Expr} {ta : TA} {p pos : Pos} (hg : Gl X "enumerate") (hm : X.mg "enumerate" = none) (ha : PA X [a] ta) (hs : starEach [a] X.env = [(false, eval a X.env)] := by rfl) :
  PI X (.Tuple elts k tp) (.Call (.Name "enumerate" p) [a] [] pos) (iEnum X.K ta) := by
 intro pins s σ H R I h
 refine Call_ (ld_blt I hg hm boot_enumerate (PyProof.Rows.callWith_type1 (thn (ha pos pins s σ H _ I h) fun us s1 ⟨vs, H1, I1, r1, q1⟩ => ?_) hs rfl))
 obtain ⟨x, e, ⟨xs, hx⟩, q⟩ := q1
 subst e
 obtain ⟨u, rfl, ru⟩ := r1.one
 cases (show u = Value.ref x from ru)
 obtain ⟨its1, rv1, p1, hz1⟩ := I1.list hx
 refine call_enumerate_list p1.isList fun h' a1 a2 a3 kp => ?_
 refine wpAny_pyIter_enum (s := { s1 with heap := h' }) a1 ?_
 refine ⟨s1.heap.objs.size + 1, [s1.heap.objs.size, s1.heap.objs.size + 1], _, _, H1, rfl, I1.kept (t' := s1.toks) kp, turn_enum s1.heap.objs.size x, ⟨⟨_, a1⟩, a2⟩, fun b hb => ?_, q⟩
 have hle : s1.heap.objs.size ≤ b := by
  simp only [List.mem_cons, List.not_mem_nil, or_false] at hb
  rcases hb with rfl | rfl <;> omega
 exact I1.fpOk hle (I1.hok.fresh hle)
end
end L2
namespace L2
open PySem PySem.Spec PyProof.Rows
section
variable {X : Cx}
end
end L2
namespace L2
open PySem PySem.Spec PyProof.Rows
section
variable {X : Cx} {σ : St} {H : Hp} {D : Ends} {body : List Stmt}
end
end L2
namespace L2
open PySem PySem.Spec PyProof.Rows
section
variable {X : Cx} {σ : St} {H : Hp}
end
end L2
namespace L2
open PySem PySem.Spec PyProof.Rows
structure Xo (h : Heap) (e T : Addr) (C fl : Value) : Prop where
 ex : ∃ oe vs, h.get? e = some oe ∧ oe.cls = C ∧ oe.dict = none ∧ oe.data = .fields vs ∧ vs[1]? = some (.ref T) ∧ vs[2]? = some .none
 ne : T ≠ e
 tr : ∃ oT ts, h.get? T = some oT ∧ oT.data = .fields ts ∧ ts[3]? = some fl
structure Kp (fs bad : List Addr) (h h' : Heap) : Prop where
 keep : ∀ b o, h.get? b = some o → b ∉ fs → b ∉ bad → h'.get? b = some o
 slot : ∀ b o, h.get? b = some o → b ∈ fs → ∃ sl, h'.get? b = some { o with slots := sl }
theorem dict_mapFields (o : Obj) (f : Array Value → Array Value) : (o.mapFields f).dict = o.dict := by
 obtain ⟨c, d, dt, sl⟩ := o
 cases dt <;> rfl
section
variable {M : Model} {A : Around} {E : Value → Shared → Prop} {s : Shared}
theorem lay_trace {base : Heap} {env : Env} {outer : List Env} {L e : Addr} {oe : Obj} {vs : Array Value} {head : Value} {nx : Bool} {Q : Unit → Shared → Prop} (hfr : A.frames = some (env :: outer)) (hl : s.heap.FunFrames base (env :: outer)) (hf : env.frame = some L)
  (he : s.heap.get? e = some oe) (hd : oe.data = .fields vs) (hdi : oe.dict = none) (h1 : 1 < vs.size) (h2 : vs[2]? = some .none)
  (h : ∀ h' T, s.heap.get? T = none → Xo h' e T oe.cls .none → Kp (frs (env :: outer)) [e] s.heap h' → Q () { s with heap := h' }) :
  wpAny M A (do let a ← frameOf env; let pl ← entryPlaceOf L nx; let b ← EntryCells.newEntry head a .none (rawInt L) .none pl; setField (.ref e) 1 b) (fun _ s' => wpAny M A (setFlight (.ref e) none) Q E s') E s := by
 have nef : e ∉ frs (env :: outer) := fun hm => by
  obtain ⟨_, o, ho, hn⟩ := hl.mem hm
  rw [he] at ho
  cases ho
  exact hn vs hd
 refine wpAny_bind (wpAny_frameOf_fun hfr hl hf fun ha sa => ?_)
 refine wpAny_bind (wpAny_entryPlaceOf fun pl ip => ?_)
 unfold EntryCells.newEntry newFields
 refine wpAny_bind (wpAny_newObj_type ?_ (ip.sizeOk5 _ _ _ _ _))
 generalize hT : ({ cls := .type "traceback", dict := none, data := .fields ([head, .ref L, .none, rawInt L, .none] ++ (if pl.isEmpty then List.replicate 6 Value.none else pl)).toArray } : Obj) = oT
 have ea : ha.get? e = some oe := (sa.2.1 e nef).trans he
 have eb : (ha.push oT).get? e = some oe := Heap.get?_push_of_some _ ea
 have tb : (ha.push oT).get? ha.objs.size = some oT := Heap.get?_push_size ha (by rw [← hT]; rfl)
 have hTe : ha.objs.size ≠ e := Nat.ne_of_gt (Heap.lt_size ea)
 refine wpAny_setField eb hd h1 ?_
 have dc := Obj.data_mapFields hd (·.setIfInBounds 1 (Value.ref ha.objs.size))
 have ec := Heap.get?_update_self (Obj.mapFields (·.setIfInBounds 1 (Value.ref ha.objs.size))) eb (Obj.isFreed_of_fields dc)
 have tc : ((ha.push oT).update e (Obj.mapFields (·.setIfInBounds 1 (Value.ref ha.objs.size)))).get? ha.objs.size = some oT := (Heap.get?_update_other _ _ (Ne.symm hTe)).trans tb
 unfold setFlight
 refine wpAny_bind (wpAny_field ec dc (x := .ref ha.objs.size) (by simp [h1]) ?_)
 rw [if_pos (show (Value.ref ha.objs.size != Value.none) = true from by simp)]
 have dT : oT.data = .fields ([head, .ref L, .none, rawInt L, .none] ++ (if pl.isEmpty then List.replicate 6 Value.none else pl)).toArray := by rw [← hT]
 have sz : 3 < ([head, .ref L, .none, rawInt L, .none] ++ (if pl.isEmpty then List.replicate 6 Value.none else pl)).toArray.size := by
  simp only [List.size_toArray, List.length_append, List.length_cons, List.length_nil]
  omega
 refine wpAny_setField tc dT sz (h _ ha.objs.size (by
  cases hq : s.heap.get? ha.objs.size with
  | none => rfl
  | some o =>
   obtain ⟨sl, z⟩ := sa.2.2 _ o hq
   exact absurd (Heap.lt_size z) (Nat.lt_irrefl _)) ?_ ?_)
 ·have dd := Obj.data_mapFields dT (·.setIfInBounds 3 ((none : Option Addr).elim Value.none fun f => rawInt f))
  refine ⟨⟨_, _, (Heap.get?_update_other _ _ hTe).trans ec, Obj.cls_mapFields _ _, by rw [dict_mapFields]; exact hdi, dc, by simp [h1], by rw [Array.getElem?_setIfInBounds_ne (by decide)]; exact h2⟩, hTe, ⟨_, _, Heap.get?_update_self _ tc (Obj.isFreed_of_fields dd), dd, ?_⟩⟩
  rw [Array.getElem?_setIfInBounds_self_of_lt sz]
  rfl
 ·have kp : ∀ b o, b ≠ e → ha.get? b = some o → (((ha.push oT).update e (Obj.mapFields (·.setIfInBounds 1 (Value.ref ha.objs.size)))).update ha.objs.size (Obj.mapFields (·.setIfInBounds 3 ((none : Option Addr).elim Value.none fun f => rawInt f)))).get? b = some o := fun b o hb q => by
   rw [Heap.get?_update_other _ _ (Nat.ne_of_gt (Heap.lt_size q)), Heap.get?_update_other _ _ (Ne.symm hb)]
   exact Heap.get?_push_of_some _ q
  refine ⟨fun b o q nf nb => kp b o (fun z => nb (by simp [z])) ((sa.2.1 b nf).trans q), fun b o q hb => ?_⟩
  obtain ⟨sl, z⟩ := sa.2.2 b o q
  exact ⟨sl, kp b _ (fun y => nef (y ▸ hb)) z⟩
theorem note_new {base : Heap} {env : Env} {outer : List Env} {L e : Addr} {oe : Obj} {vs : Array Value} {Q : Unit → Shared → Prop} (hfr : A.frames = some (env :: outer)) (hl : s.heap.FunFrames base (env :: outer)) (hf : env.frame = some L)
  (he : s.heap.get? e = some oe) (hd : oe.data = .fields vs) (hdi : oe.dict = none) (h1 : vs[1]? = some .none) (h2 : vs[2]? = some .none)
  (h : ∀ h' T, s.heap.get? T = none → Xo h' e T oe.cls .none → Kp (frs (env :: outer)) [e] s.heap h' → Q () { s with heap := h' }) :
  wpAny M A (noteFrame (.ref e) env) (fun _ s' => wpAny M A (setFlight (.ref e) none) Q E s') E s := by
 unfold noteFrame
 simp only [hf]
 refine wpAny_bind (wpAny_field he hd h1 ?_)
 rw [if_neg (by decide)]
 exact lay_trace hfr hl hf he hd hdi (Array.getElem?_eq_some_iff.mp h1).1 h2 h
theorem note_on {base : Heap} {env : Env} {outer : List Env} {L e T : Addr} {C : Value} {Q : Unit → Shared → Prop} (hfr : A.frames = some (env :: outer)) (hl : s.heap.FunFrames base (env :: outer)) (hf : env.frame = some L) (x : Xo s.heap e T C .none)
  (h : ∀ h' T', s.heap.get? T' = none → Xo h' e T' C .none → Kp (frs (env :: outer)) [e, T] s.heap h' → Q () { s with heap := h' }) :
  wpAny M A (noteFrame (.ref e) env) (fun _ s' => wpAny M A (setFlight (.ref e) none) Q E s') E s := by
 obtain ⟨⟨oe, vs, he, hc, hdi, hd, h1, h2⟩, hne, ⟨oT, ts, hT, dT, h3⟩⟩ := x
 subst hc
 unfold noteFrame
 simp only [hf]
 refine wpAny_bind (wpAny_field he hd h1 ?_)
 rw [if_pos (show (Value.ref T != Value.none) = true from by simp)]
 refine wpAny_bind (wpAny_field hT dT h3 ?_)
 rw [if_neg (show ¬ ((Value.none == rawInt L) = true) from by simp [rawInt])]
 refine wpAny_bind (wpAny_setField hT dT (Array.getElem?_eq_some_iff.mp h3).1 ?_)
 have nT : ∀ b, b ≠ T → (s.heap.update T (Obj.mapFields (·.setIfInBounds 3 Value.none))).get? b = s.heap.get? b := fun b hb => Heap.get?_update_other _ _ (Ne.symm hb)
 have rcd : ∀ b o, s.heap.get? b = some o → (∀ vs, o.data ≠ .fields vs) → b ≠ T := fun b o q hn z => by
  rw [z, hT] at q
  cases q
  exact hn ts dT
 have nf : T ∉ frs (env :: outer) := fun hm => by
  obtain ⟨_, o, ho, hn⟩ := hl.mem hm
  exact rcd T o ho hn rfl
 refine lay_trace hfr (hl.of_keeps fun b o q hn => ⟨o, (nT b (rcd b o q hn)).trans q, rfl⟩) hf ((nT e (Ne.symm hne)).trans he) hd hdi (Array.getElem?_eq_some_iff.mp h1).1 h2 fun h' T' z x k => h h' T' ?_ x ⟨fun b o q n1 n2 => ?_, fun b o q hb => ?_⟩
 ·cases hq : s.heap.get? T' with
  | none => rfl
  | some o =>
   by_cases y : T' = T
   ·have := Heap.get?_update_self (Obj.mapFields (·.setIfInBounds 3 Value.none)) hT (Obj.isFreed_of_fields (Obj.data_mapFields dT _))
    rw [y] at z
    exact absurd (this.symm.trans z) (by simp)
   ·have := (nT T' y).trans hq
    exact absurd (this.symm.trans z) (by simp)
 ·have n3 : b ≠ T := fun y => n2 (by simp [y])
  exact k.keep b o ((nT b n3).trans q) n1 (fun y => n2 (by simp at y; simp [y]))
 ·exact k.slot b o ((nT b fun y => nf (y ▸ hb)).trans q) hb
theorem land_again {e T : Addr} {C : Value} {Q : Unit → Shared → Prop} (x : Xo s.heap e T C .none) (h : ∀ h', Xo h' e T C .none → (∀ b o, b ≠ T → s.heap.get? b = some o → h'.get? b = some o) → Q () { s with heap := h' }) : wpAny M A (setFlight (.ref e) none) Q E s := by
 obtain ⟨⟨oe, vs, he, hc, hdi, hd, h1, h2⟩, hne, ⟨oT, ts, hT, dT, h3⟩⟩ := x
 unfold setFlight
 refine wpAny_bind (wpAny_field he hd h1 ?_)
 rw [if_pos (show (Value.ref T != Value.none) = true from by simp)]
 have sz := (Array.getElem?_eq_some_iff.mp h3).1
 have dd := Obj.data_mapFields dT (·.setIfInBounds 3 ((none : Option Addr).elim Value.none fun f => rawInt f))
 refine wpAny_setField hT dT sz (h _ ⟨⟨oe, vs, (Heap.get?_update_other _ _ hne).trans he, hc, hdi, hd, h1, h2⟩, hne, ⟨_, _, Heap.get?_update_self _ hT (Obj.isFreed_of_fields dd), dd, ?_⟩⟩ fun b o hb q => (Heap.get?_update_other _ _ (Ne.symm hb)).trans q)
 rw [Array.getElem?_setIfInBounds_self_of_lt sz]
 rfl
end
end L2
namespace L2
open PySem PySem.Spec PyProof.Rows
theorem kp_un {fs f2 bad : List Addr} {H H' : Hp} {h h1 h2 : Heap} (u : Un fs [] H H' h h1) (k : Kp f2 bad h1 h2) (hf : ∀ b o, h.get? b = some o → b ∈ f2 → b ∈ fs) (hb : ∀ b ∈ bad, h.get? b = none) : Un fs [] H H' h h2 := by
 have nb : ∀ b o, h.get? b = some o → b ∉ bad := fun b o q z => by rw [hb b z] at q; cases q
 refine ⟨fun b o q n nf _ => k.keep b o (u.keep b o q n nf (by simp)) (fun z => nf (hf b o q z)) (nb b o q), fun b o q n hm _ => ?_, u.free, fun b o q _ => ?_, u.tups, u.frzs, u.tbls⟩
 ·obtain ⟨sl, z⟩ := u.slot b o q n hm (by simp)
  by_cases y : b ∈ f2
  ·obtain ⟨sl', z'⟩ := k.slot b _ z y
   exact ⟨sl', z'⟩
  ·exact ⟨sl, k.keep b _ z y (nb b o q)⟩
 ·obtain ⟨o', z⟩ := u.there b o q (by simp)
  by_cases y : b ∈ f2
  ·obtain ⟨sl', z'⟩ := k.slot b _ z y
   exact ⟨_, z'⟩
  ·exact ⟨o', k.keep b _ z y (nb b o q)⟩
theorem kp_hok {P : Program} {w : World} {f2 bad : List Addr} {H : Hp} {h1 h2 : Heap} (x : HOk P w H h1) (k : Kp f2 bad h1 h2) (hf : ∀ b ∈ f2, H b = none) (hb : ∀ b ∈ bad, H b = none) : HOk P w H h2 := fun a o e => by
 refine (x a o e).stay (fun b u hh q => k.keep b u q (fun z => ?_) (fun z => ?_)) (fun _ q => q) fun _ _ q => q
 ·have := hf b z
  rcases hh with y | y
  ·rw [y, e] at this; cases this
  ·rw [y] at this; cases this
 ·have := hb b z
  rcases hh with y | y
  ·rw [y, e] at this; cases this
  ·rw [y] at this; cases this
theorem obj_ex {P : Program} {w : World} {H : Hp} {h : Heap} {a : Addr} {o : HO} (x : ObjOk P w H h a o) : ∃ u, h.get? a = some u := by
 cases o with
 | lst xs => obtain ⟨_, _, _, _, q⟩ := x; exact ⟨_, q⟩
 | tup xs => obtain ⟨_, _, _, u, q, _⟩ := x; exact ⟨_, q⟩
 | dK kvs => obtain ⟨_, _, _, _, u, _, _, q, _⟩ := x; exact ⟨_, q⟩
 | dT kvs => obtain ⟨_, _, _, _, u, _, _, q, _⟩ := x; exact ⟨_, q⟩
 | set S n => obtain ⟨u, _, _, _, q, _⟩ := x; exact ⟨_, q⟩
 | ins C dx fs => obtain ⟨_, _, _, q, _⟩ := x; exact ⟨_, q⟩
 | own y => exact x
 | xd fs => obtain ⟨_, ⟨_, _, _, q, _⟩, _⟩ := x; exact ⟨_, q⟩
 | rng lo hi => obtain ⟨_, _, _, q⟩ := x; exact ⟨_, q⟩
 | frz ob u => obtain ⟨q, _⟩ := x; exact ⟨_, q⟩
 | tbl ps => exact ⟨_, x⟩
 | met f y => exact ⟨_, x⟩
 | ext φ => obtain ⟨_, q, _⟩ := x; exact q
noncomputable def XF (P : Program) (w : World) : CXT := fun outer H s E e s' => ∃ (ea T : Addr) (C : Value) (H' : Hp), e = .ref ea ∧ E C none H' ∧ s'.os = s.os ∧ AllBare s'.gens ∧ Un (frs outer) [] H H' s.heap s'.heap ∧ HOk P w H' s'.heap ∧ Xo s'.heap ea T C .none ∧
 s.heap.get? ea = none ∧ s.heap.get? T = none ∧ H' ea = none ∧ H' T = none
section
variable {P : Program} {w : World} {K : PySem.W.Frag} {mg : Str → Option Value} {base : Heap} {N : List Str} {qual : Str} {scope : Scope} {f : Addr} {cd : Value} {A : Around} {outer : List Env} {s : Shared} {H : Hp} {E : XK}
theorem frs_env : frs (envOfC qual scope s.heap.objs.size f cd :: outer) = s.heap.objs.size :: frs outer := rfl
theorem not_yet {b : Addr} {fs ex : List Addr} {Ha Hb : Hp} {h h1 : Heap} (u : Un fs ex Ha Hb h h1) (hx : b ∉ ex) (n : h1.get? b = none) : h.get? b = none := by
 cases q : h.get? b with
 | none => rfl
 | some o => obtain ⟨o', z⟩ := u.there b o q hx; rw [n] at z; cases z
theorem no_track {P : Program} {w : World} {Ha : Hp} {h1 : Heap} {b : Addr} (x : HOk P w Ha h1) (n : h1.get? b = none) : Ha b = none := by
 cases q : Ha b with
 | none => rfl
 | some o =>
  exfalso
  obtain ⟨u, z⟩ := obj_ex (x b o q)
  rw [n] at z; cases z
theorem leave_x {pins : List (Addr × Obj)} {σ : St} {H1 : Hp} {s1 : Shared} {e T : Addr} {C : Value} (I : Inv (cxOf (XF P w) P w K mg base N qual scope f cd A outer s H E) pins σ H1 s1) (x : Xo s1.heap e T C .none) (hE : E C none H1)
  (n1 : s.heap.get? e = none) (n2 : s.heap.get? T = none) (n3 : H1 e = none) (n4 : H1 T = none) : (cxOf (XF P w) P w K mg base N qual scope f cd A outer s H E).xe (.ref e) s1 := by
 show wpAny (model P w) (A.deeper (envOfC qual scope s.heap.objs.size f cd)) (leaving (envOfC qual scope s.heap.objs.size f cd) (.ref e)) _ _ s1
 unfold leaving
 refine wpAny_bind (note_on (base := base) (outer := outer) I.ok.frames I.stack rfl x fun h' T' z x' k => ?_)
 refine ⟨e, T', C, H1, rfl, hE, I.os, I.bare, kp_un (H := H) (h := s.heap) I.base k (fun b o q hb => ?_) (fun b hb => ?_), kp_hok I.hok k (fun b hb => I.stkFree b hb) (fun b hb => ?_), x', n1, not_yet (ex := []) (Hb := H1) I.base (by simp) z, n3, no_track I.hok z⟩
 ·rw [frs_env] at hb
  rcases List.mem_cons.mp hb with y | y
  ·exact absurd (Heap.lt_size q) (by rw [y]; exact Nat.lt_irrefl _)
  ·exact y
 ·rcases List.mem_cons.mp hb with y | y
  ·rw [y]; exact n1
  ·rw [List.mem_singleton.mp y]; exact n2
 ·rcases List.mem_cons.mp hb with y | y
  ·rw [y]; exact n3
  ·rw [List.mem_singleton.mp y]; exact n4
theorem passF : Passes (XF P w) (cxOf (XF P w) P w K mg base N qual scope f cd A outer s H E) E := by
 rintro pins σ H1 s1 e s2 I ⟨ea, T, C, H', rfl, hE, os, bare, un, hok, x, n1, n2, n3, n4⟩
 have I2 := I.call' (ch := []) os un hok bare (fun b z => absurd z (by simp))
 exact leave_x I2 x hE (not_yet (ex := []) (Hb := H1) I.base (by simp) n1) (not_yet (ex := []) (Hb := H1) I.base (by simp) n2) n3 n4
end
noncomputable abbrev vmro : List Value := [.type "ValueError", .type "Exception", .type "BaseException", .type "object"]
noncomputable def XC (K : PySem.W.Frag) (C : Addr) : Prop := PySem.W.excIn K C vmro "ValueError.__new__" = true
theorem XC.obj {K : PySem.W.Frag} {h : Heap} {C : Addr} (q : XC K C) (X : K.In h) : ∃ bm N nm qn bs hdct sn sub ab col dd k0 k1 k2 k3 k5 mN, h.get? C = some (excClassObj nm qn C N bs bm hdct sn sub ab col dd k0 k1 k2 k3 k5 "ValueError.__new__") ∧ h.Ns N mN ∧ mN "__init__" = none ∧ OwnTail h vmro bm := by
 unfold XC PySem.W.excIn at q
 split at q
 ·rename_i dd cd sl ho
  split at q
  ·rename_i D bm k0 k1 k2 k3 n k5 hm hs
   simp only [Bool.and_eq_true, beq_iff_eq, Bool.not_eq_true'] at q
   obtain ⟨⟨⟨⟨⟨eD, en⟩, hdel⟩, ht⟩, hok⟩, hni⟩ := q
   obtain ⟨nm, bs, mro, ns, qn, hd, sn, sub, ab, col, del⟩ := cd
   dsimp only at hm hdel hok hni
   subst eD en hm hdel
   have esl : sl = #[k0, k1, k2, k3, some (.builtin "ValueError.__new__"), k5] := by
    cases sl
    simp only at hs
    rw [hs]
   subst esl
   exact ⟨bm, ns, nm, qn, bs, hd, sn, sub, ab, col, dd, k0, k1, k2, k3, k5, _, X _ _ ho, .of_isNs (PySem.W.isNs_of_in X hok), PySem.W.nsMap_none_of_in X hok hni, PySem.W.tail_of_in X ht⟩
  ·cases q
 ·cases q
section
variable {X : Cx} {σ : St} {H : Hp} {D : Ends} {rest : List Stmt}
noncomputable def Rz (X : Cx) (E : St → XK) : Prop := ∀ (pins : List (Addr × Obj)) (σ : St) (H : Hp) (s : Shared) (h' : Heap) (e C : Addr) (args : List Value), Inv X pins σ H s → Heap.MadeExcOf s.heap h' e (.ref C) args → E σ (.ref C) none H → X.xe (.ref e) { s with heap := h' }
theorem run_raise {E : St → XK} (hz : Rz X E) {x : Str} {C : Addr} {a : Expr} {np cp pos : Pos} (hm : X.mg x = some (.ref C)) (hC : XC X.K C) (hc : X.calm = true) (h : Ea X [a] σ H fun vs H1 => vs.length ≤ sizeLine ∧ E σ (.ref C) none H1) (hg : Gl X x := by rfl) (hdb : (x == ("__debug__" : Str)) = false := by decide)
  (he : starEach [a] X.env = (false, eval a X.env) :: starEach [] X.env := by rfl) : Run X (.Raise (some (.Call (.Name x np) [a] [] cp)) none pos :: rest) D σ H := by
 refine run_cons (t := fun D σ H => Ea X [a] σ H fun vs H1 => vs.length ≤ sizeLine ∧ E σ (.ref C) none H1) ?_ h
 intro pins s σ H D I h
 obtain ⟨bm, N, nm, qn, bs, hdct, sn, sub, ab, col, dd, k0, k1, k2, k3, k5, mN, oC, oN, oi, oT⟩ := hC.obj I.ok.mod.kin
 refine wpAny_Raise_call_subT (C := C) (nm := nm) (q := qn) (N := N) (bs := bs) (bm := bm) (hdct := hdct) (sn := sn) (sub := sub) (ab := ab) (col := col) (dd := dd) (k0 := k0) (k1 := k1) (k2 := k2) (k3 := k3) (k5 := k5) PySem.F.excBase_ValueError (mN := mN) (oT.hasType PySem.F.excBase_ValueError.hasBase) (I.ok.hd hc) (by rw [he]; rfl) oi (ld_glob I hg hm ⟨rfl, ?_⟩ hdb)
 have q := h.run cp pins s I
 rw [he] at q ⊢
 refine Calls.evalArgs_plain (thn q fun us s2 ⟨vs, H2, I2, r, z2, q2⟩ => ⟨rfl, by rw [← r.length]; exact z2, I2.bk _ _ oC, oN.keeps I2.bk, oT.keeps I2.bk, fun h' e hx => hz pins σ H2 s2 h' e C us I2 hx q2⟩)
end
section
variable {P : Program} {w : World} {K : PySem.W.Frag} {mg : Str → Option Value} {base : Heap} {N : List Str} {qual : Str} {scope : Scope} {f : Addr} {cd : Value} {A : Around} {outer : List Env} {s : Shared} {H : Hp} {E : XK}
theorem kp_all {h h' : Heap} (k : ∀ b o, h.get? b = some o → h'.get? b = some o) : Kp [] [] h h' := ⟨fun b o q _ _ => k b o q, fun b o q z => absurd z (by simp)⟩
theorem rz_fn : Rz (cxOf (XF P w) P w K mg base N qual scope f cd A outer s H E) (fun _ => E) := by
 intro pins σ H1 s1 h' e C args I hx hE
 obtain ⟨t, he, _, _⟩ := hx.there
 show wpAny (model P w) (A.deeper (envOfC qual scope s.heap.objs.size f cd)) (leaving (envOfC qual scope s.heap.objs.size f cd) (.ref e)) _ _ _
 unfold leaving
 have n0 : H1 e = none := no_track I.hok hx.new
 have k1 := kp_all hx.keeps
 refine wpAny_bind (note_new (s := { s1 with heap := h' }) (base := base) (outer := outer) I.ok.frames (I.stack.of_keeps fun b o q _ => ⟨o, hx.keeps b o q, rfl⟩) rfl he rfl rfl rfl rfl fun h2 T z x k => ?_)
 have hok1 : HOk P w H1 h' := I.hok.kept hx.keeps
 have un1 : Un (frs outer) [] H H1 s.heap h' := kp_un (H := H) (h := s.heap) I.base k1 (fun b o q hb => absurd hb (by simp)) fun b hb => absurd hb (by simp)
 have nT : s1.heap.get? T = none := by
  cases q : s1.heap.get? T with
  | none => rfl
  | some o => have := hx.keeps _ _ q; exact absurd (this.symm.trans z) (by simp)
 have ns : s.heap.get? e = none := not_yet (ex := []) (Hb := H1) I.base (by simp) hx.new
 refine ⟨e, T, .ref C, H1, rfl, hE, I.os, I.bare, kp_un un1 k (fun b o q hb => ?_) (fun b hb => ?_), kp_hok hok1 k (fun b hb => I.stkFree b hb) (fun b hb => ?_), x, ns, not_yet (ex := []) (Hb := H1) I.base (by simp) nT, n0, no_track I.hok nT⟩
 ·rw [frs_env] at hb
  rcases List.mem_cons.mp hb with y | y
  ·exact absurd (Heap.lt_size q) (by rw [y]; exact Nat.lt_irrefl _)
  ·exact y
 ·rw [List.mem_singleton.mp hb]; exact ns
 ·rw [List.mem_singleton.mp hb]; exact n0
noncomputable def cxX (N : List Str) (qual : Str) (scope : Scope) (P : Program) (w : World) (K : PySem.W.Frag) (mg : Str → Option Value) (base : Heap) (b : Bun) : Cx := cxOf (XF P w) P w K mg base N qual scope b.f b.cdv b.A b.outer b.s b.H b.E
theorem Fun.gx {x : Str} {st : Stmt} {fd : FuncData} {ps : List Str} {k : Nat} {sp : Sp} (F : Fun K x qual st f fd) (S : FnScope N ps (defScope st)) (len : ∀ vs H Q E, sp vs H Q E → vs.length = ps.length)
  (hbody : ∀ (b : Bun) (H : Hp) (vs : List V) (Q : VK), Room k (b.A.deeper (envOfC qual (defScope st) b.s.heap.objs.size b.f b.cdv)) → sp vs H Q b.E → Run (cxX N qual (defScope st) P w K mg base b) (defBody st) (En Q) (start N vs) H) : FnOk P w K mg base (XF P w) (k + 1) f fd ps sp := by
 obtain ⟨oc, od, kV, doc, pm, an, cdv, ct, osl, rfl, lk, hcd⟩ := F.ex
 refine fn_of lk hcd S len fun A outer s H vs Q E hr hsp => ?_
 exact ⟨_, pss_run, hbody ⟨f, cdv, A, outer, s, H, E⟩ H vs Q hr hsp⟩
theorem passX {b : Bun} : Passes (XF P w) (cxX N qual scope P w K mg base b) b.E := passF
theorem rzX {b : Bun} : Rz (cxX N qual scope P w K mg base b) (fun _ => b.E) := rz_fn
end
structure HasX (P : Program) (w : World) (K : PySem.W.Frag) (mg : Str → Option Value) (base : Heap) (k : Nat) (x : Str) (ps : List Str) (sp : Sp) : Prop where
 ex : ∃ f fd, FnOk P w K mg base (XF P w) k f fd ps sp ∧ Binds K fd ps [] ∧ PySem.W.keepIn K (.ref f) = true ∧ mg x = some (.ref f)
theorem HasX.mono {P : Program} {w : World} {K : PySem.W.Frag} {mg : Str → Option Value} {base : Heap} {j k : Nat} {x : Str} {ps : List Str} {sp : Sp} (h : HasX P w K mg base j x ps sp) (le : j ≤ k) : HasX P w K mg base k x ps sp :=
 let ⟨f, fd, F, r⟩ := h.ex; ⟨f, fd, F.mono le, r⟩
theorem ev_hasX {X : Cx} {k : Nat} {ps : List Str} {sp : Sp} {x : Str} {e : Expr} {es : List Expr} {σ : St} {H : Hp} {Q : VK} {E : XK} {p pos : Pos} (G : HasX X.prog X.w X.K X.mg X.base k x ps sp) (hr : Room k X.A) (hx : Passes (XF X.prog X.w) X E)
  (h : Ea X (e :: es) σ H fun vs H1 => sp vs H1 Q E) (hg : Gl X x := by rfl) (hdb : (x == ("__debug__" : Str)) = false := by decide) (hs : noStar (e :: es) = true := by rfl) : Ev X (.Call (.Name x p) (e :: es) [] pos) σ H Q :=
 let ⟨_, _, F, b, kp, m⟩ := G.ex; ev_call F hr m kp b hx h hg hdb hs
theorem Df.hasX {P : Program} {w : World} {K : PySem.W.Frag} {mg : Str → Option Value} {h base : Heap} {k : Nat} {x : Str} {st : Stmt} {ps : List Str} {sp : Sp} (d : Df K x st) (X : K.In h) (G : h.Ns mainGlobals mg)
  (hb : ∀ (kV doc pm : Value) (an : Option Addr) (cdv ct : Value) (us : List Value), us.length = ps.length → bindArgs (PySem.W.fnOf x x (defArgs st) (defBody st) (defScope st) .none kV doc pm an cdv ct) ⟨us, []⟩ = pure (ps.zip us))
  (ok : ∀ {f : Addr} {fd : FuncData}, Fun K x x st f fd → FnOk P w K mg base (XF P w) k f fd ps sp) : HasX P w K mg base k x ps sp :=
 let ⟨f, fd, a, F⟩ := d; ⟨f, fd, ok F, F.binds hb, F.kp, PySem.W.mg_of X G a⟩
noncomputable def PassS (CX : CXT) (X : Cx) (σ : St) (E : XK) : Prop := ∀ (pins : List (Addr × Obj)) (H : Hp) (s : Shared) (e : Value) (s' : Shared), Inv X pins σ H s → CX X.stack H s E e s' → X.xe e s'
section
variable {X : Cx} {CX : CXT} {k : Nat} {f : Addr} {fd : FuncData} {ps : List Str} {sp : Sp} {E : XK} {x : Str} {p pos : Pos} {e : Expr} {es : List Expr} {σ : St} {H : Hp} {Q : VK}
theorem ev_callS (F : FnOk X.prog X.w X.K X.mg X.base CX k f fd ps sp) (hr : Room k X.A) (hm : X.mg x = some (.ref f)) (hk : PySem.W.keepIn X.K (.ref f) = true) (hb : Binds X.K fd ps []) (hx : PassS CX X σ E) (h : Ea X (e :: es) σ H fun vs H1 => sp vs H1 Q E)
  (hg : Gl X x := by rfl) (hdb : (x == ("__debug__" : Str)) = false := by decide) (he : starEach (e :: es) X.env = (false, eval e X.env) :: starEach es X.env := by rfl) (hpl : (backTo pos (starEach es X.env)).any (·.1) = false := by rfl) : Ev X (.Call (.Name x p) (e :: es) [] pos) σ H Q := by
 refine ⟨fun pins s I => wpAny_Call_Name_kw (ld_glob I hg hm ?_ hdb)⟩
 refine PySem.W.callWith_K (h₀ := X.base) I.ok.mod.kin hk (thn (h.run pos pins s I) fun us s1 ⟨vs, H1, I1, r, q⟩ => ⟨I1.kIn, ?_⟩) he hpl
 have hl : us.length = ps.length := by rw [← r.length]; exact F.len _ _ _ _ q
 have hl2 : (us ++ []).length = ps.length := by rw [List.append_nil]; exact hl
 have hb2 := hb s1 us I1.kIn hl2
 rw [List.append_nil] at hb2
 refine wpAny_call (codeAny_mono (F.run X.A X.stack s1 H1 ⟨us, []⟩ us vs Q E hr I1.env0 hb2 r q) fun r s' hq => ?_)
 cases r with
 | error y => exact hx pins H1 s1 y s' I1 hq
 | ok fl =>
  cases fl with
  | ret u => exact I1.after hq
  | next => exact False.elim hq
  | brk => exact False.elim hq
  | cont => exact False.elim hq
theorem ev_hasS (G : HasX X.prog X.w X.K X.mg X.base k x ps sp) (hr : Room k X.A) (hx : PassS (XF X.prog X.w) X σ E) (h : Ea X (e :: es) σ H fun vs H1 => sp vs H1 Q E)
  (hg : Gl X x := by rfl) (hdb : (x == ("__debug__" : Str)) = false := by decide) (he : starEach (e :: es) X.env = (false, eval e X.env) :: starEach es X.env := by rfl) (hpl : (backTo pos (starEach es X.env)).any (·.1) = false := by rfl) : Ev X (.Call (.Name x p) (e :: es) [] pos) σ H Q :=
 let ⟨_, _, F, b, kp, m⟩ := G.ex; ev_callS F hr m kp b hx h hg hdb he hpl
end
end L2
namespace L2
open PySem PySem.Spec PyProof.Rows
noncomputable abbrev XO (oe : Obj) : HO := .frz oe (.own 0)
structure IsX (oe : Obj) (C : Value) : Prop where
 cls : oe.cls = C
 dict : oe.dict = none
 data : ∃ vs, oe.data = .fields vs ∧ vs[2]? = some .none
noncomputable abbrev Cx.pinsOn (X : Cx) (p : List (Addr × Obj)) : Cx := { X with pn := X.pn ++ p }
structure Apt (X : Cx) (pins : List (Addr × Obj)) (b : Addr) : Prop where
 l : b ≠ X.env.locals
 c : ∀ x c, X.env.cells.lookup x = some c → c ≠ b
 p : ∀ q ∈ X.pn ++ pins, q.1 ≠ b
 f : b ∉ X.fs
 s : X.s₀.heap.get? b = none
section
variable {X : Cx} {pins : List (Addr × Obj)} {σ : St} {H : Hp} {s : Shared} {b : Addr}
theorem apt_of (I : Inv X pins σ H s) (hex : X.ex = []) (n : s.heap.get? b = none) : Apt X pins b := by
 refine ⟨fun z => ?_, fun x c e z => ?_, fun q hq z => ?_, fun z => ?_, not_yet I.base (by rw [hex]; simp) n⟩
 ·obtain ⟨m, ⟨o, _, _, ho, _⟩, _⟩ := I.loc
  rw [← z, n] at ho; cases ho
 ·obtain ⟨v, o, ho, _⟩ := I.cell x c e
  rw [z, n] at ho; cases ho
 ·have := (I.pin q hq).1
  rw [z, n] at this; cases this
 ·obtain ⟨_, o, ho, _⟩ := I.funs.mem z
  rw [n] at ho; cases ho
theorem Inv.kp {bad : List Addr} {h' : Heap} {t' : Nat} (I : Inv X pins σ H s) (hex : X.ex = []) (k : Kp (frs X.stack) bad s.heap h') (ha : ∀ b ∈ bad, Apt X pins b) (hn : ∀ b ∈ bad, H b = none) : Inv X pins σ H { s with heap := h', toks := t' } := by
 have kc : ∀ x c, X.env.cells.lookup x = some c → ∀ v, s.heap.IsCell c v → h'.IsCell c v := fun x c e v ⟨o, ho, hd⟩ => by
  by_cases y : c ∈ frs X.stack
  ·obtain ⟨sl, z⟩ := k.slot c o ho y
   exact ⟨_, z, hd⟩
  ·exact ⟨o, k.keep c o ho y (fun w => (ha c w).c x c e rfl), hd⟩
 have kl : ∀ m, s.heap.Ns X.env.locals m → h'.Ns X.env.locals m := fun m hm => by
  obtain ⟨o, es, ep, ho, r⟩ := hm
  by_cases y : X.env.locals ∈ frs X.stack
  ·obtain ⟨sl, z⟩ := k.slot _ o ho y
   exact ⟨_, es, ep, z, r⟩
  ·exact ⟨o, es, ep, k.keep _ o ho y (fun w => (ha _ w).l rfl), r⟩
 refine ⟨I.ok, I.os, I.bare, ?_, ?_, fun x c e => ?_, I.free, I.freeC, fun p hp => ?_, kp_hok I.hok k (fun b hb => I.stkFree b hb) hn, I.len⟩
 ·have u := I.base
  rw [hex] at u ⊢
  refine kp_un u k (fun b o q hb => ?_) fun b hb => (ha b hb).s
  rcases List.mem_cons.mp (I.stkSub b hb) with y | y
  ·exact absurd (Nat.lt_of_lt_of_le (Heap.lt_size q) I.ok.above) (by rw [y]; exact Nat.lt_irrefl _)
  ·exact y
 ·obtain ⟨m, hm, hl⟩ := I.loc
  refine ⟨m, kl m hm, fun i x v e1 e2 e3 => ?_⟩
  obtain ⟨u, r, q⟩ := hl i x v e1 e2 e3
  refine ⟨u, r, ?_⟩
  rcases q with q | ⟨y, c, e, z⟩
  ·exact .inl q
  ·exact .inr ⟨y, c, e, kc x c e _ z⟩
 ·obtain ⟨v, z⟩ := I.cell x c e
  exact ⟨v, kc x c e v z⟩
 ·obtain ⟨e, n, ne, nf, d⟩ := I.pin p hp
  refine ⟨k.keep _ _ e (fun y => ?_) (fun w => (ha _ w).p p hp rfl), n, ne, nf, d⟩
  rcases List.mem_cons.mp (I.stkSub _ y) with z | z
  ·exact ne z
  ·exact nf z
theorem Inv.track {o : HO} (I : Inv X pins σ H s) (hex : X.ex = []) (a : Apt X pins b) (n : H b = none) (ho : ObjOk X.prog X.w (upd H b o) s.heap b o) : Inv X pins σ (upd H b o) s := by
 have u := I.base
 have ne : ∀ c o', H c = some o' → c ≠ b := fun c o' q z => by rw [z, n] at q; cases q
 refine ⟨I.ok, I.os, I.bare, ⟨u.keep, u.slot, fun c o' q n' hx => ?_, u.there, fun c xs q => ?_, fun c o' v q => ?_, fun c ps q => ?_⟩, I.loc, I.cell, by rw [upd_ne (Ne.symm a.l)]; exact I.free, fun x c e => by rw [upd_ne (a.c x c e)]; exact I.freeC x c e, fun p hp => ?_, fun c o' q => ?_, I.len⟩
 ·have : c ≠ b := fun z => by rw [z, a.s] at q; cases q
  rw [upd_ne this]
  exact u.free c o' q n' hx
 ·have q' := u.tups c xs q
  rw [upd_ne (ne _ _ q')]; exact q'
 ·have q' := u.frzs c o' v q
  rw [upd_ne (ne _ _ q')]; exact q'
 ·obtain ⟨m, q'⟩ := u.tbls c ps q
  exact ⟨m, by rw [upd_ne (ne _ _ q')]; exact q'⟩
 ·obtain ⟨e, n', r⟩ := I.pin p hp
  exact ⟨e, by rw [upd_ne (a.p p hp)]; exact n', r⟩
 ·by_cases y : c = b
  ·subst y
   rw [upd_same] at q
   cases q
   exact ho
  ·rw [upd_ne y] at q
   exact (I.hok c o' q).stay (fun _ _ _ z => z) (fun d z => by rw [upd_ne (ne _ _ z)]; exact z) fun d xs z => by rw [upd_ne (ne _ _ z)]; exact z
end
noncomputable def Cgt (X : Cx) (Φ : Value → St → Hp → Prop) (e : Value) (s' : Shared) : Prop := ∃ (pins : List (Addr × Obj)) (σ : St) (H : Hp) (ea T : Addr) (C : Value), e = .ref ea ∧ Inv X pins σ H s' ∧ Xo s'.heap ea T C .none ∧ Apt X pins ea ∧ Apt X pins T ∧ H ea = none ∧ H T = none ∧ Φ C σ H
noncomputable abbrev tryCx (X : Cx) (p : List (Addr × Obj)) (Φ : Value → St → Hp → Prop) : Cx := (X.pinsOn p).wish (Cgt (X.pinsOn p) Φ)
theorem passT {X : Cx} {p : List (Addr × Obj)} {Φ : Value → St → Hp → Prop} {σ : St} (hex : X.ex = []) : PassS (XF X.prog X.w) (tryCx X p Φ) σ (fun C _ H' => Φ C σ H') := by
 rintro pins H s e s' I ⟨ea, T, C, H', rfl, hE, os, bare, un, hok, x, n1, n2, n3, n4⟩
 have I2 := I.call' (ch := []) os un hok bare (fun b z => absurd z (by simp))
 have J : Inv (X.pinsOn p) pins σ H s := I.unwish
 exact ⟨pins, σ, H', ea, T, C, rfl, I2.unwish, x, apt_of J hex n1, apt_of J hex n2, n3, n4, hE⟩
noncomputable abbrev hdCx (X : Cx) (p : List (Addr × Obj)) (ea : Addr) : Cx := { X with A := X.A.mark (some (.ref ea)), calm := false, pn := X.pn ++ p, xe := fun _ _ => False }
theorem Inv.hd {X : Cx} {p pins : List (Addr × Obj)} {σ : St} {H : Hp} {s : Shared} {ea : Addr} (I : Inv (X.pinsOn p) pins σ H s) : Inv (hdCx X p ea) pins σ H s :=
 ⟨⟨I.ok.mod, I.ok.kind, I.ok.glob, I.ok.blt, I.ok.above, I.ok.inj, I.ok.has, I.ok.cab, (fun z => (nomatch z)), I.ok.frames, I.ok.stk, I.ok.exf, I.ok.bs, I.ok.bsz, I.ok.noex, I.ok.exfs, I.ok.funs, I.ok.frf⟩, I.os, I.bare, I.base, I.loc, I.cell, I.free, I.freeC, I.pin, I.hok, I.len⟩
theorem Inv.unhd {X : Cx} {p pins pins0 : List (Addr × Obj)} {σ : St} {H : Hp} {s : Shared} {ea : Addr} (I : Inv (hdCx X p ea) pins σ H s) (hc : X.calm = true → X.A.handled = none) : Inv (X.pinsOn p) pins σ H s :=
 ⟨⟨I.ok.mod, I.ok.kind, I.ok.glob, I.ok.blt, I.ok.above, I.ok.inj, I.ok.has, I.ok.cab, hc, I.ok.frames, I.ok.stk, I.ok.exf, I.ok.bs, I.ok.bsz, I.ok.noex, I.ok.exfs, I.ok.funs, I.ok.frf⟩, I.os, I.bare, I.base, I.loc, I.cell, I.free, I.freeC, I.pin, I.hok, I.len⟩
theorem Inv.pinsIn {X : Cx} {p pins : List (Addr × Obj)} {σ : St} {H : Hp} {s : Shared} (I : Inv X p σ H s) : Inv (X.pinsOn p) [] σ H s :=
 ⟨⟨I.ok.mod, I.ok.kind, I.ok.glob, I.ok.blt, I.ok.above, I.ok.inj, I.ok.has, I.ok.cab, I.ok.hd, I.ok.frames, I.ok.stk, I.ok.exf, I.ok.bs, I.ok.bsz, I.ok.noex, I.ok.exfs, I.ok.funs, I.ok.frf⟩, I.os, I.bare, I.base, I.loc, I.cell, I.free, I.freeC, fun q hq => I.pin q (by simpa using hq), I.hok, I.len⟩
theorem Inv.pinsOut {X : Cx} {p pins : List (Addr × Obj)} {σ : St} {H : Hp} {s : Shared} (I : Inv (X.pinsOn p) pins σ H s) : Inv X p σ H s :=
 ⟨⟨I.ok.mod, I.ok.kind, I.ok.glob, I.ok.blt, I.ok.above, I.ok.inj, I.ok.has, I.ok.cab, I.ok.hd, I.ok.frames, I.ok.stk, I.ok.exf, I.ok.bs, I.ok.bsz, I.ok.noex, I.ok.exfs, I.ok.funs, I.ok.frf⟩, I.os, I.bare, I.base, I.loc, I.cell, I.free, I.freeC, fun q hq => I.pin q (List.mem_append_left _ hq), I.hok, I.len⟩
noncomputable def mroHas (K : PySem.W.Frag) (C S : Addr) : Bool := match K.lookup C with
 | some ⟨_, _, .cls cd, _⟩ => cd.mro.contains (.ref S)
 | _ => false
theorem mro_in {K : PySem.W.Frag} {h : Heap} {C S : Addr} (X : K.In h) (q : mroHas K C S = true) {nm qn : Str} {N : Addr} {bs bm : List Value} {hdct : Bool} {sn : List Str} {sub : List Value} {ab : Bool} {col : Option Bool} {dd : Option Addr} {k0 k1 k2 k3 k5 : Option Value} {nid : String}
  (oC : h.get? C = some (excClassObj nm qn C N bs bm hdct sn sub ab col dd k0 k1 k2 k3 k5 nid)) : (Value.ref C :: bm).contains (.ref S) = true := by
 unfold mroHas at q
 split at q
 ·rename_i ho
  have := (X _ _ ho).symm.trans oC
  cases this
  exact q
 ·cases q
section
variable {M : Model} {A : Around} {E : Value → Shared → Prop} {K : PySem.W.Frag} {s : Shared}
theorem exc_match {e C S : Addr} {oe : Obj} {Q : Bool → Shared → Prop} (X : K.In s.heap) (hC : XC K C) (hS : XC K S) (hm : mroHas K C S = true) (he : s.heap.get? e = some oe) (hc : oe.cls = .ref C) (h : Q true s) : wpAny M A (excMatches (.ref e) (.ref S)) Q E s := by
 obtain ⟨bm, N, nm, qn, bs, hdct, sn, sub, ab, col, dd, k0, k1, k2, k3, k5, mN, oC, oN, oi, oT⟩ := hC.obj X
 obtain ⟨bm', N', nm', qn', bs', hdct', sn', sub', ab', col', dd', k0', k1', k2', k3', k5', mN', oS, oN', oi', oT'⟩ := hS.obj X
 have c1 := mro_in X hm oC
 have c2 : (Value.ref S :: bm').contains (.type "BaseException") = true := by rw [List.contains_cons, oT'.hasType PySem.F.excBase_ValueError.hasBase, Bool.or_true]
 have f := tc_notTuple
 obtain ⟨hh, g, d, tk, os⟩ := s
 unfold excMatches
 repeat (first | (with_reducible refine wpAny_loadPart_at he ?_; rw [hc]) | with_reducible refine wpAny_loadPart_at oS ?_ | (with_reducible refine wpAny_isSubtype_exc oS ?_; rw [c2]) | (with_reducible refine wpAny_isSubtype_exc oC ?_; rw [c1]) | wp_step)
 exact h
end
end L2
namespace L2
open PySem PySem.Spec PyProof.Rows
section
variable {X : Cx} {pins : List (Addr × Obj)} {σ : St} {H : Hp} {s : Shared}
theorem Inv.name_gone {M : Model} {A : Around} {E : Value → Shared → Prop} {Q : Unit → Shared → Prop} {i : Nat} {n : Str} {pos : Pos} (I : Inv X pins σ H s) (hN : X.N.Nodup) (hi : X.N[i]? = some n) (hl : X.env.scope.names.lookup n = some .local)
  (h : ∀ s', Inv X pins (σ.set i none) H s' → Q () s') : wpAny M A (do bindName X.env n .none; unbindBehindTheSuite X.env n pos) Q E s := by
 obtain ⟨m, hn, hloc⟩ := id I.loc
 have hcls : (X.env.scope.kind == .class || (X.env.scope.kind == .module && X.env.locals != X.env.globals)) = false := by rw [I.ok.kind]; rfl
 have hiσ : i < σ.length := by rw [I.len]; exact (List.getElem?_eq_some_iff.mp hi).1
 obtain ⟨oL, _, _, hoL, _⟩ := id hn
 refine wpAny_nameGoes_keeps hl hn hcls fun h' v hn' hs => h _ ?_
 have low : ∀ b o, X.s₀.heap.get? b = some o → b ≠ X.env.locals := fun b o q => Nat.ne_of_lt (Nat.lt_of_lt_of_le (Heap.lt_size q) I.ok.above)
 refine ⟨I.ok, I.os, I.bare, ⟨fun b o q n' hb hx => (hs.2 b (low b o q)).trans (I.base.keep b o q n' hb hx), fun b o q n' hb hx => ?_, I.base.free, fun b o q hx => ?_, I.base.tups, I.base.frzs, I.base.tbls⟩, ⟨_, hn', fun j y v' e1 e2 e3 => ?_⟩, fun y c q => ?_, I.free, I.freeC, fun p hp => ?_, fun b u q => ?_, by rw [List.length_set]; exact I.len⟩
 ·obtain ⟨sl, z⟩ := I.base.slot b o q n' hb hx
  exact ⟨sl, (hs.2 b (low b o q)).trans z⟩
 ·obtain ⟨o', z⟩ := I.base.there b o q hx
  exact ⟨o', (hs.2 b (low b o q)).trans z⟩
 ·by_cases hj : j = i
  ·subst hj
   rw [List.getElem?_set_self hiσ] at e2
   cases e2
  ·rw [List.getElem?_set_ne (Ne.symm hj)] at e2
   obtain ⟨u, r, q⟩ := hloc j y v' e1 e2 e3
   refine ⟨u, r, ?_⟩
   rcases q with ⟨k, z⟩ | ⟨k, c, z, w⟩
   ·have : y ≠ n := fun z => hj (nodup_ix hN e1 (z ▸ hi))
    exact .inl ⟨k, by simp [this, z]⟩
   ·exact .inr ⟨k, c, z, w.sameBut hs (I.cne y c z)⟩
 ·obtain ⟨v2, z⟩ := I.cell y c q
  exact ⟨v2, z.sameBut hs (I.cne y c q)⟩
 ·obtain ⟨e, n', ne, nf, d⟩ := I.pin p hp
  exact ⟨(hs.2 p.1 ne).trans e, n', ne, nf, d⟩
 ·refine (I.hok b u q).stay (fun c w' hc z => (hs.2 c ?_).trans z) (fun _ z => z) fun _ _ z => z
  rintro rfl
  rcases hc with hc | hc
  ·rw [← hc, I.free] at q; cases q
  ·rw [I.free] at hc; cases hc
end
noncomputable def exEnds (X : Cx) (D : Ends) (rest : List Stmt) (i : Nat) : Ends := { nx := fun σ H => Run X rest D (σ.set i none) H, rt := D.rt, bk := fun σ H => D.bk (σ.set i none) H, ct := fun σ H => D.ct (σ.set i none) H }
theorem run_try {X : Cx} {σ : St} {H : Hp} {D : Ends} {rest body suite : List Stmt} {b₀ : Stmt} {x n : Str} {S : Addr} {np hp pos : Pos} (i : Nat) (Φ : Value → St → Hp → Prop) (hm : X.mg x = some (.ref S)) (hS : XC X.K S) (hN : X.N.Nodup)
  (hb : ∀ p, Run (tryCx X p Φ) body { D with nx := fun σ' H' => Run X rest D σ' H' } σ H)
  (hh : ∀ C σ' H', Φ C σ' H' → ∃ Ca, C = .ref Ca ∧ XC X.K Ca ∧ mroHas X.K Ca S = true ∧ ∀ p ea oe, IsX oe C → H' ea = none → Run (hdCx X p ea) (b₀ :: suite) (exEnds X D rest i) (σ'.set i (some (.ref ea))) (upd H' ea (XO oe)))
  (hi : X.N[i]? = some n := by rfl) (hl : X.env.scope.names.lookup n = some .local := by rfl) (hex : X.ex = [] := by rfl) (hst : X.stack = X.env :: X.outer := by rfl) (hfr : X.env.frame = some X.env.locals := by rfl)
  (hfn : X.fn n = true ∨ X.env.scope.names.lookup n = some .local := by first | exact .inl rfl | exact .inr rfl) (hg : Gl X x := by rfl) (hdb : (x == ("__debug__" : Str)) = false := by decide) :
  Run X (.Try body [.ExceptHandler (some (.Name x np)) (some n) (b₀ :: suite) hp] [] [] pos :: rest) D σ H := by
 refine run_cons (t := fun D' σ H => ∀ p, Run (tryCx X p Φ) body { D with nx := fun σ' H' => Run X rest D σ' H' } σ H ∧ D' = { D with nx := fun σ' H' => Run X rest D σ' H' }) ?_ fun p => ⟨hb p, rfl⟩
 intro p0 s σ H D' I h
 obtain ⟨hb, rfl⟩ := h p0
 refine wpAny_Try_except (wpAny_mono (hb.run [] s ((I.pinsIn (pins := [])).wish _)) (fun f s1 q => ?_) fun e s1 q => ?_)
 ·have out : ∀ {pp : List (Addr × Obj)} {σ' : St} {H' : Hp}, Inv (tryCx X p0 Φ) pp σ' H' s1 → Inv X p0 σ' H' s1 := fun J => (J.unwish).pinsOut
  cases f with
  | next =>
   obtain ⟨σ', H', J, q⟩ := q
   exact pss_nil p0 s1 σ' H' _ (out J) q
  | brk => obtain ⟨σ', H', J, q⟩ := q; exact ⟨σ', H', out J, q⟩
  | cont => obtain ⟨σ', H', J, q⟩ := q; exact ⟨σ', H', out J, q⟩
  | ret u => obtain ⟨v, σ', H', J, r, q⟩ := q; exact ⟨v, σ', H', out J, r, q⟩
 ·obtain ⟨pp, σ', H', ea, T, C, rfl, J, x1, a1, a2, n1, n2, hΦ⟩ := q
  obtain ⟨Ca, rfl, hC, hmro, hrun⟩ := hh C σ' H' hΦ
  have fr : (X.pinsOn p0).A.frames = some (X.env :: X.outer) := by rw [← hst]; exact J.ok.frames
  have stk : s1.heap.FunFrames X.base (X.env :: X.outer) := by rw [← hst]; exact J.stack
  refine note_on fr stk hfr x1 fun h2 T' z x2 k => ?_
  have k' : Kp (frs (X.pinsOn p0).stack) [ea, T] s1.heap h2 := by
   show Kp (frs X.stack) [ea, T] s1.heap h2
   rw [hst]; exact k
  have J2 : Inv (X.pinsOn p0) pp σ' H' { s1 with heap := h2 } := J.kp (t' := s1.toks) hex k' (fun b hb => by
   rcases List.mem_cons.mp hb with y | y
   ·rw [y]; exact a1
   ·rw [List.mem_singleton.mp y]; exact a2) (fun b hb => by
   rcases List.mem_cons.mp hb with y | y
   ·rw [y]; exact n1
   ·rw [List.mem_singleton.mp y]; exact n2)
  have a3 := apt_of J hex z
  have n3 : H' T' = none := no_track J.hok z
  have J3 : Inv (hdCx X p0 ea) pp σ' H' { s1 with heap := h2 } := J2.hd
  obtain ⟨⟨oe, vs, he, hc, hdi, hd, h1, h2'⟩, hne, htr⟩ := id x2
  refine wpAny_handleBy_cons (codeAny_handlers_test (ld_glob J3 hg hm ?_ hdb)) (by intro q; cases q)
  refine exc_match J3.kIn hC hS hmro he hc ?_
  refine codeAny_handlers_suite_as (land_again x2 fun h3 x3 k3 => ?_)
  have J4 : Inv (hdCx X p0 ea) pp σ' H' { s1 with heap := h3 } := J3.kp (s := { s1 with heap := h2 }) (t' := s1.toks) (bad := [T']) hex ⟨fun b o q _ nb => k3 b o (fun y => nb (by simp [y])) q, fun b o q hb => ⟨o.slots, k3 b o (fun y => by
   obtain ⟨_, o', ho', hn'⟩ := J3.stack.mem hb
   obtain ⟨oT, ts, hT, dT, _⟩ := htr
   rw [y] at ho'
   have := ho'.symm.trans hT
   cases this
   exact hn' _ dT) q⟩⟩ (fun b hb => by rw [List.mem_singleton.mp hb]; exact ⟨a3.l, a3.c, a3.p, a3.f, a3.s⟩) (fun b hb => by rw [List.mem_singleton.mp hb]; exact n3)
  obtain ⟨⟨oe3, vs3, he3, hc3, hdi3, hd3, h13, h23⟩, _, _⟩ := x3
  have J5 : Inv (hdCx X p0 ea) pp σ' (upd H' ea (XO oe3)) { s1 with heap := h3 } := J4.track hex ⟨a1.l, a1.c, a1.p, a1.f, a1.s⟩ n1 ⟨he3, ⟨_, he3⟩⟩
  refine store_ok (X := hdCx X p0 ea) J5 hN hi (Or.inl hl) (v := .ref ea) rfl (fun s4 J6 => ?_) hfn
  refine wpAny_mono ((hrun p0 ea oe3 ⟨hc3, hdi3, vs3, hd3, h23⟩ n1).run pp s4 J6) (fun f s5 q => ?_) fun _ _ z => z.elim
  have out : ∀ {σ2 : St} {H2 : Hp} {s6 : Shared}, Inv (hdCx X p0 ea) pp σ2 H2 s6 → Inv X p0 σ2 H2 s6 := fun J => ((J.unhd (pins0 := []) J2.ok.hd).pinsOut)
  cases f with
  | next =>
   obtain ⟨σ2, H2, J7, q⟩ := q
   exact J7.name_gone hN hi hl fun s6 J8 => ⟨_, H2, out J8, q⟩
  | brk =>
   obtain ⟨σ2, H2, J7, q⟩ := q
   exact J7.name_gone hN hi hl fun s6 J8 => ⟨_, H2, out J8, q⟩
  | cont =>
   obtain ⟨σ2, H2, J7, q⟩ := q
   exact J7.name_gone hN hi hl fun s6 J8 => ⟨_, H2, out J8, q⟩
  | ret u =>
   obtain ⟨v, σ2, H2, J7, r, q⟩ := q
   exact J7.name_gone hN hi hl fun s6 J8 => ⟨v, _, H2, out J8, r, q⟩
end L2
namespace L2
open PySem PySem.Spec PyProof.Rows PySem.W
section
variable {prog : Program} {w : World} {A : Around} {E : Value → Shared → Prop} {s : Shared} {K : Frag} {a C : Addr} {o : Obj}
noncomputable def xLook (K : Frag) (C : Addr) : Bool := findIn K (.ref C) "__getattribute__" == some (some (.builtin "BaseException.__getattribute__")) && findIn K (.ref C) "__getattr__" == some none && findIn K (.ref C) "__class__" == some (some (.builtin "object.__class__")) &&
 mroIn K C (.type "object") == some true && mroIn K C (.type "BaseException") == some true && (clsIn K C).isSome
theorem cls_attr {Q : Option Value → Shared → Prop} (X : K.In s.heap) (I : InstAt s.heap a o C none) (q : xLook K C = true) (hq : Q (some (.ref C)) { s with toks := s.toks + 1 }) : wpAny (model prog w) A (getAttr? (.ref a) "__class__") Q E s := by
 unfold xLook at q
 simp only [Bool.and_eq_true, beq_iff_eq] at q
 obtain ⟨⟨⟨⟨⟨h1, h2⟩, h3⟩, h4⟩, h5⟩, _⟩ := q
 obtain ⟨hh, g, d, t, os⟩ := s
 have L0 := I.type (M := model prog w)
 have L1 := looks_findIn (M := model prog w) X h1
 have L2 := looks_findIn (M := model prog w) X h2
 have L3 := looks_findIn (M := model prog w) X h3
 have L5 := looks_mroIn (M := model prog w) X h5
 unfold getAttr? getAttrBy? getAttrBy
 refine wpAny_bind (wpAny_mkText (wpAny_bind (wpAny_attempt (wpAny_holding (wpAny_bind (L0.at (wpAny_bind (L1.at ?_))))))))
 show wpAny _ _ (getAttrByItsOwn _ _ _ _ _ _) _ _ _
 unfold getAttrByItsOwn hookBefore callGetattribute boundAndCalled
 have f3 := F.attr_ValueError.ga.bind (.ref a)
 refine wpAny_bind ?_
 show wpAny _ _ (typeLookup (.ref C) "__getattr__") _ _ _
 refine L2.at ?_
 refine wpAny_bind (wpAny_attempt (wpAny_holding ?_))
 rw [if_neg (by decide)]
 rw [f3]
 refine wpAny_bind (wpAny_pure ?_)
 refine wpAny_call (codeAny_call_builtin F.attr_ValueError.ga.plain F.entry_bexc_ga ?_)
 have hk : builtinKind "BaseException.__getattribute__" = some .slot := by decide +kernel
 have hsp : splitId "BaseException.__getattribute__" = some ("BaseException", "__getattribute__") := by decide +kernel
 have ha := F.args_bexc_ga (.ref a) (.str "__class__" t)
 simp only [checkBuiltinCall, hk, hsp]
 refine wpAny_bind ?_
 unfold isInstance
 have LB : Looks (model prog w) hh (isSubtype (.ref C) (.type "BaseException")) true := L5
 repeat lk
 have hid : (toString "getset_descriptor" ++ toString "." ++ toString (Str.ofString "__get__").toString : String) = "getset_descriptor.__get__" := by decide +kernel
 rw [hid]
 refine wpAny_run (c := .call (.builtin "getset_descriptor.__get__") ⟨[.builtin "object.__class__", .ref a, .ref C], []⟩) (h := none) ?_
 refine class_get (s := ⟨hh, g, d, t + 1, os⟩) (K := K) X I h4 ?_
 repeat lk
 exact hq
theorem kitx_exc (q : xLook K C = true) : KitX K (.ref a) (.ref C) (fun h => ∃ o, InstAt h a o C none) where
 ty := fun _ _ _ ⟨_, I⟩ => I.type
 it := fun _ _ X _ => by
  unfold xLook at q
  rw [Bool.and_eq_true] at q
  have z := q.2
  unfold clsIn at z
  split at z
  ·rename_i ho
   intro A' Q' E' s' k r
   unfold isType loadHead
   exact wpAny_bind (wpAny_loadPart (k _ _ (X _ _ ho)) (wpAny_pure r))
  ·cases z
 ne := fun h tp dd its n sl X htp => by
  unfold xLook at q
  rw [Bool.and_eq_true] at q
  have z := q.2
  refine Bool.eq_false_iff.mpr fun y => ?_
  have e : C = tp := Value.ref.inj (beq_iff_eq.mp y)
  subst e
  unfold clsIn at z
  split at z
  ·rename_i ho
   cases (X _ _ ho).symm.trans htp
  ·cases z
 ca := fun X ⟨_, I⟩ k => cls_attr X I q k
end
end L2
namespace L2
open PySem PySem.Spec PyProof.Rows
theorem inst_of {h : Heap} {ea C : Addr} {oe : Obj} (he : h.get? ea = some oe) (x : IsX oe (.ref C)) : PySem.W.InstAt h ea oe C none := by
 obtain ⟨vs, hd, _⟩ := x.data
 refine ⟨he, x.cls, ?_, ?_⟩
 ·unfold PySem.W.notCls
  rw [hd]
 ·rw [x.dict]; exact True.intro
theorem call_isiX {X : Cx} : CallR X (.builtin "isinstance") (fun xs H Q => ∃ ea C oe c v b, xs = [.ref ea, v] ∧ (∀ u, RelV v u → u = c) ∧ H ea = some (XO oe) ∧ IsX oe (.ref C) ∧ xLook X.K C = true ∧ PySem.W.kitOne X.K (.ref C) c = some b ∧ Q (.bl b) H) := by
 intro pins s σ H xs us Q I r h
 obtain ⟨ea, C, oe, c, v, b, rfl, hv, hH, ix, hl, e, q⟩ := h
 obtain ⟨u, w', rfl, ru, rw'⟩ := vals2 r
 cases (show u = Value.ref ea from ru)
 cases hv _ rw'
 have he : s.heap.get? ea = some oe := (show ObjOk X.prog X.w H s.heap ea (XO oe) from I.hok ea _ hH).1
 exact PySem.W.kia_one (kitx_exc hl) I.kIn ⟨oe, inst_of he ix⟩ e (fun z => nomatch z) fun tk => ⟨.bl b, H, I.tok tk, rfl, q⟩
section
variable {prog : Program} {w : World} {A : Around} {E : Value → Shared → Prop} {s : Shared}
end
end L2
namespace L2
open PySem PySem.Spec PyProof.Rows
section
variable {X : Cx} {tg : Expr}
end
section
variable {X : Cx} {elt tg iter : Expr} {ifs : List Expr} {scope : Scope} {pos : Pos} {N' : List Str} {n : Nat} {wi : TI} {g : TG} {tc : TT} {te : TE}
end
section
variable {X : Cx} {elt tg iter c : Expr} {ifs : List Expr} {scope : Scope} {pos p : Pos} {wi : TI} {σ : St} {H : Hp} {Q : VK} {T : Bool → Hp → Prop} {rest : List Stmt} {D : Ends}
end
end L2
namespace L2
open PySem PySem.Spec PyProof.Rows
section
variable {X : Cx} {k : Nat} {ps : List Str} {sp : Addr → Obj → Sp} {E : XK} {x : Str} {p pos : Pos} {e : Expr} {es : List Expr} {σ : St} {H : Hp} {Q : VK}
end
end L2
namespace P3
open PySem L2 Nt Sort2 SetT
open PyProof.Rows (sortedS)
noncomputable def spTs : Sp := fun vs H Q _ => ∃ (R : Addr) (as : List (Addr × Addr)) (n : Net), vs = [.ref R] ∧ RowsAt H R as n ∧ n.length ≤ 1000 ∧ (ties n).length ≤ 900 ∧ (∀ zs : List Str, zs.Nodup → (∀ z ∈ zs, z ∈ ties n) → zs.length < 64) ∧
 ∀ (L : Addr) (ss : List Str) (H' : Hp), Same H H' → H L = none → H' L = some (Ls ss) → ss.Nodup → sortedS ss = true → (∀ z, z ∈ ss ↔ z ∈ ties n) → Q (.ref L) H'
theorem added_nodup {zs : List Str} {z : Str} (h : zs.Nodup) : (added zs z).Nodup := by
 unfold added
 split
 ·exact h
 ·rename_i hz
  exact nd_snoc h hz
theorem added_iff {zs : List Str} {z y : Str} : y ∈ added zs z ↔ y ∈ zs ∨ y = z := by
 unfold added
 split
 ·rename_i hz
  refine ⟨.inl, fun h => h.elim id fun e => ?_⟩
  rw [e]
  exact hz
 ·rw [List.mem_append, List.mem_singleton]
theorem ties_take {n : Net} {r : Nat} (h : r < n.length) : ties (n.take (r + 1)) = ties (n.take r) ++ row n r := by
 rw [row_eq h]
 unfold ties
 rw [List.take_add_one, List.getElem?_eq_getElem h, List.flatMap_append]
 simp
noncomputable def xNames : List Str := ["NoWalker", "NoTie", "NoCorner"]
structure Cl (K : PySem.W.Frag) (mg : Str → Option Value) (c : Str → Addr) : Prop where
 net : mg "NetError" = some (.ref (c "NetError"))
 xnet : XC K (c "NetError")
 at' : ∀ x ∈ xNames, mg x = some (.ref (c x)) ∧ XC K (c x) ∧ mroHas K (c x) (c "NetError") = true ∧ xLook K (c x) = true ∧ PySem.W.kitOne K (.ref (c x)) (.type "ValueError") = some true
 kit : ∀ x ∈ xNames, ∀ y ∈ xNames, PySem.W.kitOne K (.ref (c x)) (.ref (c y)) = some (decide (x = y))
noncomputable def cAd (K : PySem.W.Frag) (x : Str) : Addr := match PySem.W.nsIn K mainGlobals x with
 | some (some (.ref a)) => a
 | _ => 0
noncomputable def clB (K : PySem.W.Frag) : Bool := (PySem.W.nsIn K mainGlobals "NetError" == some (some (.ref (cAd K "NetError")))) && PySem.W.excIn K (cAd K "NetError") vmro "ValueError.__new__" &&
 xNames.all fun x => (PySem.W.nsIn K mainGlobals x == some (some (.ref (cAd K x)))) && PySem.W.excIn K (cAd K x) vmro "ValueError.__new__" && mroHas K (cAd K x) (cAd K "NetError") && xLook K (cAd K x) && (PySem.W.kitOne K (.ref (cAd K x)) (.type "ValueError") == some true) &&
  xNames.all fun y => PySem.W.kitOne K (.ref (cAd K x)) (.ref (cAd K y)) == some (decide (x = y))
theorem cl_of {K : PySem.W.Frag} {h : Heap} {mg : Str → Option Value} (X : K.In h) (G : h.Ns mainGlobals mg) (q : clB K = true) : Cl K mg (cAd K) := by
 unfold clB at q
 simp only [Bool.and_eq_true, List.all_eq_true, beq_iff_eq] at q
 obtain ⟨⟨q1, q2⟩, q3⟩ := q
 exact ⟨PySem.W.mg_of X G q1, q2, fun x hx => by obtain ⟨⟨⟨⟨⟨a1, a2⟩, a3⟩, a4⟩, a5⟩, _⟩ := q3 x hx; exact ⟨PySem.W.mg_of X G a1, a2, a3, a4, a5⟩, fun x hx y hy => (q3 x hx).2 y hy⟩
noncomputable def Few (n : Net) : Prop := ∀ zs : List Str, zs.Nodup → (∀ z ∈ zs, z ∈ ties n) → zs.length < 64
noncomputable def spNeed (c : Str → Addr) : Sp := fun vs H Q E => ∃ (R : Addr) (as : List (Addr × Addr)) (n : Net) (z : Str), vs = [.ref R, .str z] ∧ RowsAt H R as n ∧ n.length ≤ 1000 ∧ (ties n).length ≤ 900 ∧ Few n ∧
 (z ∉ ties n → ∀ H', Same H H' → E (.ref (c "NoTie")) none H') ∧ (z ∈ ties n → ∀ H', Same H H' → Q .non H')
section
variable {P : Program} {w : World} {K : PySem.W.Frag} {mg : Str → Option Value} {base : Heap}
noncomputable abbrev NTi1 : List Str := ["rows"]
noncomputable abbrev NTi2 : List Str := ["rows", "point", "ties", "tie"]
theorem scTies : FnScope NTi1 ["rows"] (defScope s_ties_of) := ⟨rfl, rfl, rfl, by decide +kernel, rfl, by decide +kernel, by decide +kernel⟩
theorem nd_ti2 : NTi2.Nodup := by decide +kernel
theorem ok_ties {f : Addr} {fd : FuncData} (F : Fun K "ties_of" "ties_of" s_ties_of f fd) (T : Txt mg) : FnOk P w K mg base CX0 1 f fd ["rows"] spTs := by
 refine F.go scTies (fun vs H Q E h => ?_) (fun cdv A outer s H vs Q E hr h => ?_)
 ·obtain ⟨R, as, n, rfl, _⟩ := h
  rfl
 obtain ⟨R, as, n, rfl, hR, hn, ht, hfew, q⟩ := h
 have nd := scTies.nd
 have hal := hR.len
 have sub : ∀ (zs : List Str) (r : Nat) (ys : List Str), zs.Nodup → (∀ z, z ∈ zs → z ∈ ties n) → zs.length < 64 := fun zs r ys h1 h2 => hfew zs h1 h2
 have tsub : ∀ r, r < n.length → ∀ z, z ∈ ties (n.take r) ∨ z ∈ row n r → z ∈ ties n := fun r hr' z hz => by
  have e : ties n = ties (n.take (r + 1)) ++ ties (n.drop (r + 1)) := by
   unfold ties
   rw [← List.flatMap_append, List.take_append_drop]
  rw [e, ties_take hr']
  rcases hz with h | h <;> simp [h]
 show Run _ _ _ [some (.ref R)] H
 refine run_ret (ev_blt (call_sorted_set rfl) T.sorted PyProof.Rows.boot_sorted (ea_cons (ev_compS2 (defScope s_ties_of) NTi1 NTi2 3 (pi_list pe_ev) (ev_v 0 ⟨R, rfl, ⟨_, SqL.of hR.lst⟩, fun D hD cl C s₀ H₀ ex => ?_⟩))))
 refine clause_listP (xs := as.map fun a => V.ref a.1) (fun r σ' H' => (∃ v1 v2 v3, σ' = [some (.ref R)] ++ [v1, v2, v3]) ∧ ∃ zs : List Str, Same H H' ∧ H' D = some (SetO P w D zs) ∧ zs.Nodup ∧ ∀ z, z ∈ zs ↔ z ∈ ties (n.take r)) ⟨⟨none, none, none, rfl⟩, [], same_new hD _, upd_same, List.nodup_nil, fun z => Iff.rfl⟩ ?_ ?_ ?_
 ·rintro r σ' H' _ ⟨_, zs, sm, _⟩
  exact SqL.of (sm _ _ hR.lst)
 ·rintro r x σ' H' hx ⟨⟨v1, v2, v3, rfl⟩, zs, sm, eD, zn, zm⟩
  have hi : r < n.length := by
   have := (List.getElem?_eq_some_iff.mp hx).1
   rw [List.length_map] at this
   omega
  obtain ⟨a, ea, eat, et, el, er⟩ := (hR.same sm).at hi
  rw [List.getElem?_map, ea] at hx
  cases hx
  refine eg_pair rfl (SqT.of et) (eg_name 1 nd_ti2 (eg_name 2 nd_ti2 ?_))
  refine ei_nil ?_
  rw [if_pos rfl]
  refine ein_nextS rfl rfl (pi_list pe_ev) (ev_v 2 ⟨a.2, rfl, ⟨_, SqL.of el⟩, ?_⟩)
  have naD : a.2 ≠ D := ne_of el eD fun z => nomatch z
  refine clause_listP (xs := (row n r).map V.str) (fun p σ' H'' => (∃ v3, σ' = [some (.ref R)] ++ [some (.str n[r].1), some (.ref a.2), v3]) ∧ ∃ zs : List Str, (∀ b o, b ≠ D → H' b = some o → H'' b = some o) ∧ H'' D = some (SetO P w D zs) ∧ zs.Nodup ∧ ∀ z, z ∈ zs ↔ z ∈ ties (n.take r) ∨ z ∈ (row n r).take p)
   ⟨⟨_, rfl⟩, zs, fun b o _ h => h, eD, zn, fun z => by rw [zm z]; simp⟩ ?_ ?_ ?_
  ·rintro p σ' H'' _ ⟨_, zs, kb, _⟩
   exact SqL.of (kb _ _ naD el)
  ·rintro p x σ' H'' hx ⟨⟨v3, rfl⟩, zs, kb, eD6, zn6, zm6⟩
   rw [List.getElem?_map, Option.map_eq_some_iff] at hx
   obtain ⟨z, hz, rfl⟩ := hx
   refine eg_name 3 nd_ti2 ?_
   refine ei_nil ?_
   rw [if_pos rfl]
   have hl : zs.length < 64 := hfew zs zn6 fun y hy => tsub r hi y (((zm6 y).mp hy).imp id fun h => List.mem_of_mem_take h)
   refine ein_emitS (ev_v 3 ⟨z, zs, rfl, eD6, by omega, ⟨_, rfl⟩, added zs z, fun b o hb h => by rw [upd_ne hb]; exact kb b o hb h, upd_same, added_nodup zn6, fun y => ?_⟩)
   rw [added_iff, zm6 y, List.take_add_one, hz, or_assoc]
   simp
  ·rintro σ' H'' ⟨⟨v3, rfl⟩, zs, kb, eD6, zn6, zm6⟩
   refine ⟨⟨_, _, _, rfl⟩, zs, fun b o h => kb b o (ne_of_none h hD) (sm _ _ h), eD6, zn6, fun z => ?_⟩
   rw [zm6 z, List.length_map, List.take_length, ties_take hi, List.mem_append]
 ·rintro σ' H' ⟨_, zs, sm, eD, zn, zm⟩
  rw [List.length_map, hal, List.take_length] at zm
  refine ea_nil ⟨D, zs, rfl, eD, hfew zs zn fun y hy => (zm y).mp hy, fun l ss hl hp hs => ?_⟩
  exact q l ss _ (sm.trans (same_new hl _)) (free_back sm hl) upd_same (hp.nodup_iff.mpr zn) hs fun z => by rw [hp.mem_iff, zm z]
theorem contains_dec (zs : List Str) (z : Str) : zs.contains z = decide (z ∈ zs) := by
 rw [Bool.eq_iff_iff, decide_eq_true_iff, List.contains_iff_mem]
noncomputable abbrev NNd : List Str := ["rows", "tie"]
theorem scNeed : FnScope NNd ["rows", "tie"] (defScope s_need_tie) := ⟨rfl, rfl, rfl, by decide +kernel, rfl, by decide +kernel, by decide +kernel⟩
theorem ok_need {f : Addr} {fd : FuncData} {c : Str → Addr} (F : Fun K "need_tie" "need_tie" s_need_tie f fd) (T : Txt mg) (cl : Cl K mg c) (GT : Has P w K mg base 1 "ties_of" ["rows"] spTs) : FnOk P w K mg base (XF P w) 2 f fd ["rows", "tie"] (spNeed c) := by
 refine F.gx scNeed (fun vs H Q E h => ?_) (fun b0 H vs Q hr h => ?_)
 ·obtain ⟨R, as, n, z, rfl, _⟩ := h
  rfl
 obtain ⟨R, as, n, z, rfl, hR, hn, ht, hfew, qE, qQ⟩ := h
 have nd := scNeed.nd
 have mN : ("NoTie" : Str) ∈ xNames := by decide
 show Run _ _ _ [some (.ref R), some (.str z)] H
 refine run_if (et_cmp op_notIn_seq (ev_v 1 (ev_has GT hr (ea_cons (ev_v 0 (ea_nil ⟨R, as, n, rfl, hR, hn, ht, hfew, fun L ss H1 s1 n1 e1 snd so mem => ⟨L, _, rfl, .inl (SqL.of e1), rfl, flat_strs _, _, rfl, ?_⟩⟩))))))
 rw [if_pos rfl, inV_strs, contains_dec]
 by_cases hz : z ∈ ties n
 ·rw [decide_eq_true ((mem z).mpr hz)]
  exact iteF (run_nil (run_nil (qQ hz _ s1)))
 ·rw [decide_eq_false (fun k => hz ((mem z).mp k))]
  refine iteT (run_raise rzX (cl.at' _ mN).1 (cl.at' _ mN).2.1 rfl (ea_cons (ev_str (ea_nil ⟨(by show 1 ≤ sizeLine; decide), qE hz _ s1⟩))))
end
end P3
namespace Nt
open PySem L2
theorem per_some {n : Net} (T : Twice n) {e : End} (h : e ∈ ends n) : ∃ k, Per n e k ∧ k ≤ (ends n).length := by
 obtain ⟨k, k0, k1, k2⟩ := comes_back (f := two n) (S := ends n) (fun a ha => two_end T ha) (fun a ha b hb => two_inj T ha hb) h
 have aux : ∀ m, ∀ k, k ≤ m → 0 < k → it (two n) k e = e → ∃ j, j ≤ k ∧ Per n e j := by
  intro m
  induction m with
  | zero => intro k h1 h2; omega
  | succ m ih =>
   intro k h1 h2 h3
   by_cases c : ∃ i, 0 < i ∧ i < k ∧ it (two n) i e = e
   ·obtain ⟨i, i1, i2, i3⟩ := c
    obtain ⟨j, j1, j2⟩ := ih i (by omega) i1 i3
    exact ⟨j, by omega, j2⟩
   ·exact ⟨k, Nat.le_refl _, h2, h3, fun i i1 i2 i3 => c ⟨i, i1, i2, i3⟩⟩
 obtain ⟨j, j1, j2⟩ := aux k k (Nat.le_refl _) k0 k2
 exact ⟨j, j2, by omega⟩
theorem walker_ok {n : Net} (T : Twice n) {e : End} (h : e ∈ ends n) : IsWk n (walker n e) := by
 obtain ⟨k, p, hk⟩ := per_some T h
 unfold walker
 rw [per_eq p]
 exact per_wk T h p hk
theorem wks_ok {n : Net} (T : Twice n) : ∀ (es : List End) (told : List Str), (∀ e ∈ es, e ∈ ends n) → ∀ w ∈ wks n es told, IsWk n w
 | [], _, _, w, hw => by cases hw
 | e :: r, told, h, w, hw => by
  unfold wks at hw
  split at hw
  ·exact wks_ok T r told (fun a ha => h a (List.mem_cons_of_mem _ ha)) w hw
  ·rcases List.mem_cons.mp hw with rfl | hw
   ·exact walker_ok T (h e (List.mem_cons_self ..))
   ·exact wks_ok T r _ (fun a ha => h a (List.mem_cons_of_mem _ ha)) w hw
theorem wks_len (n : Net) : ∀ (es : List End) (told : List Str), (wks n es told).length ≤ es.length
 | [], _ => Nat.le_refl _
 | e :: r, told => by
  unfold wks
  split
  ·have := wks_len n r told
   show _ ≤ r.length + 1
   omega
  ·have := wks_len n r (told ++ (evens (walker n e)).map (tnm n))
   show _ + 1 ≤ r.length + 1
   omega
end Nt
namespace Nt
open PySem L2
end Nt
namespace Nt
variable {α β : Type}
end Nt
namespace Nt
open PySem
theorem perm_of {α : Type} [DecidableEq α] : ∀ {a b : List α}, a.Nodup → (∀ z ∈ a, z ∈ b) → b.length ≤ a.length → a.Perm b
 | [], b, _, _, hl => by
  have : b = [] := List.length_eq_zero_iff.mp (Nat.le_zero.mp hl)
  rw [this]
 | x :: a, b, nd, sub, hl => by
  have nd' := List.nodup_cons.mp nd
  have hx := sub x List.mem_cons_self
  have pb := List.perm_cons_erase hx
  refine List.Perm.trans ((perm_of nd'.2 (fun z hz => ?_) ?_).cons x) pb.symm
  ·exact (List.mem_erase_of_ne (fun e => nd'.1 (by rw [← e]; exact hz))).mpr (sub z (List.mem_cons_of_mem _ hz))
  ·have := pb.length_eq
   rw [List.length_cons] at this hl
   omega
section
variable {n : Net} {c : End} {z : Str}
end
end Nt
namespace Nt
open PySem
section
variable {n m : Net} {g : End → End} {e1 e2 : End} {z : Str}
end
section
variable {n m : Net} {g : End → End} {e1 e2 : End} {z : Str}
end
end Nt
namespace Nt
open PySem
section
variable {n : Net} {z : Str}
end
end Nt
namespace Nt
open PySem
end Nt
namespace Nt
open PySem
end Nt
namespace Nt
open PySem
end Nt
namespace Nt
end Nt
namespace Nt
open PySem
end Nt
namespace Nt
open PySem
section
variable {n m : Net} {g : End → End} {e1 e2 : End} {z : Str}
end
end Nt
namespace Nt
open PySem
section
variable {n m : Net} {g : End → End} {e1 e2 : End} {z : Str}
end
end Nt
namespace Nt
open PySem
section
variable {n : Net} {z : Str}
end
end Nt
namespace Nt
open PySem
end Nt
namespace Nt
open PySem
end Nt
namespace Nt
open PySem L2
open PyProof.Rows (sortedS)
theorem nmA_inj {n : Net} (hn : (n.map (·.1)).Nodup) {i j : Nat} (hi : i < n.length) (hj : j < n.length) (h : nmA n i = nmA n j) : i = j := by
 rw [nmA_eq hi, nmA_eq hj] at h
 have := (List.nodup_iff_pairwise_ne.mp hn)
 rw [List.pairwise_iff_getElem] at this
 rcases Nat.lt_trichotomy i j with q | q | q
 ·exact absurd (by rw [List.getElem_map, List.getElem_map]; exact h) (this i j (by simpa using hi) (by simpa using hj) q)
 ·exact q
 ·exact absurd (by rw [List.getElem_map, List.getElem_map]; exact h.symm) (this j i (by simpa using hj) (by simpa using hi) q)
end Nt
namespace Nt
open PySem L2
open PyProof.Rows (sortedS)
end Nt
namespace Nt
open PySem L2
end Nt
namespace Nt
open PySem L2
end Nt
namespace Nt
open PySem L2
end Nt
namespace Nt
open PySem L2
theorem two_oth {n : Net} (T : Twice n) {e : End} (h : e ∈ ends n) : two n (other n (two n e)) = other n e := by
 have g1 := go_end (c := 1) T h
 have h2 := two_end T h
 obtain ⟨z, hz⟩ := mem_ends.mp h2
 obtain ⟨y, hy⟩ := mem_ends.mp g1
 have e1 : go 1 n (other n (two n e)) = other n (go 1 n e) := by
  show rnd 1 n (other n (other n (two n e))) = _
  rw [(other_spec T hz).2.1]
  show rnd 1 n (rnd (-1) n (other n (go 1 n e))) = _
  have := rnd_back (c := -1) (other_end T g1)
  rw [Int.neg_neg] at this
  exact this
 show go (-1) n (go 1 n (other n (two n e))) = _
 rw [e1]
 show rnd (-1) n (other n (other n (go 1 n e))) = _
 rw [(other_spec T hy).2.1]
 exact rnd_back (other_end T h)
theorem it_end {n : Net} (T : Twice n) {e : End} (h : e ∈ ends n) (k : Nat) : it (two n) k e ∈ ends n := it_mem (fun a ha => two_end T ha) h k
theorem it_first {α : Type} (f : α → α) (a : α) : ∀ k, it f k (f a) = it f (k + 1) a
 | 0 => rfl
 | k + 1 => by show f (it f k (f a)) = f (it f (k + 1) a); rw [it_first f a k]
theorem it_add {α : Type} (f : α → α) (a : α) (i : Nat) : ∀ j, it f (i + j) a = it f j (it f i a)
 | 0 => rfl
 | j + 1 => by show f (it f (i + j) a) = f (it f j (it f i a)); rw [it_add f a i j]
theorem two_ne {n : Net} (T : Twice n) {e : End} (h : e ∈ ends n) : two n e ≠ other n e := fun q => by
 have g1 := go_end (c := 1) T h
 obtain ⟨y, hy⟩ := mem_ends.mp g1
 have h1 : rnd (-1) n (go 1 n e) = other n e := rnd_back (other_end T h)
 have h2 : rnd (-1) n (other n (go 1 n e)) = other n e := q
 exact (other_spec T hy).2.2 (rnd_inj (c := -1) (other_end T g1) g1 (h2.trans h1.symm))
theorem ob_ne {n : Net} (T : Twice n) : ∀ (k : Nat) {e : End}, e ∈ ends n → it (two n) k e ≠ other n e
 | 0, e, h => fun q => by
  obtain ⟨z, hz⟩ := mem_ends.mp h
  exact (other_spec T hz).2.2 q.symm
 | 1, e, h => two_ne T h
 | k + 2, e, h => fun q => by
  have e1 : two n (it (two n) (k + 1) e) = two n (other n (two n e)) := by rw [two_oth T h]; exact q
  have e2 := two_inj T (it_end T h (k + 1)) (other_end T (two_end T h)) e1
  rw [← it_first] at e2
  exact ob_ne T k (two_end T h) e2
theorem tnm_two {n : Net} (T : Twice n) {a b : End} (ha : a ∈ ends n) (hb : b ∈ ends n) (h : tnm n a = tnm n b) : b = a ∨ b = other n a := by
 obtain ⟨z, hz⟩ := mem_ends.mp ha
 obtain ⟨y, hy⟩ := mem_ends.mp hb
 rw [tnm_eq hz, tnm_eq hy] at h
 subst h
 exact (tie_two T hz).mp hy
theorem it_ne {n : Net} (T : Twice n) {e : End} (h : e ∈ ends n) {k : Nat} (p : Per n e k) {i j : Nat} (hij : i < j) (hj : j < k) : it (two n) i e ≠ it (two n) j e := fun q => by
 have inj : ∀ (m : Nat) {a b : End}, a ∈ ends n → b ∈ ends n → it (two n) m a = it (two n) m b → a = b := fun m => by
  induction m with
  | zero => intro a b _ _ q; exact q
  | succ m ih => intro a b ha hb q; exact ih ha hb (two_inj T (it_end T ha m) (it_end T hb m) q)
 have e1 : it (two n) j e = it (two n) i (it (two n) (j - i) e) := by rw [← it_add, show j - i + i = j by omega]
 rw [e1] at q
 have := inj i h (it_end T h _) q
 exact p.first (j - i) (by omega) (by omega) this.symm
theorem evens_tie {n : Net} (T : Twice n) {e : End} (h : e ∈ ends n) {k : Nat} (p : Per n e k) {i j : Nat} (hij : i < j) (hj : j < k) : tnm n (it (two n) i e) ≠ tnm n (it (two n) j e) := fun q => by
 rcases tnm_two T (it_end T h i) (it_end T h j) q with c | c
 ·exact it_ne T h p hij hj c.symm
 ·rw [show j = i + (j - i) by omega, it_add] at c
  exact ob_ne T (j - i) (it_end T h i) c
theorem odd_tie {n : Net} (T : Twice n) {x y : End} (hx : x ∈ ends n) (hy : y ∈ ends n) (q : tnm n (go 1 n x) = tnm n (go 1 n y)) : x = y ∨ two n y = other n x := by
 have g1 := go_end (c := 1) T hx
 rcases tnm_two T g1 (go_end (c := 1) T hy) q with c | c
 ·exact .inl (go_inj T hy hx c).symm
 ·refine .inr ?_
  obtain ⟨z, hz⟩ := mem_ends.mp g1
  show go (-1) n (go 1 n y) = _
  rw [c]
  show rnd (-1) n (other n (other n (go 1 n x))) = _
  rw [(other_spec T hz).2.1]
  exact rnd_back (other_end T hx)
end Nt
namespace Nt
open PySem L2
noncomputable def obE (n : Net) (e : End) : List End := evens (walker n e)
theorem obE_eq {n : Net} {e : End} {k : Nat} (p : Per n e k) : obE n e = (List.range k).map fun i => it (two n) i e := by
 unfold obE walker
 rw [per_eq p, wk_evens]
theorem it_mul {n : Net} {e : End} {k : Nat} (h : it (two n) k e = e) : ∀ m, it (two n) (k * m) e = e
 | 0 => rfl
 | m + 1 => by rw [Nat.mul_succ, Nat.add_comm, it_add, h, it_mul h m]
theorem obE_mem {n : Net} (T : Twice n) {e : End} (h : e ∈ ends n) {x : End} : x ∈ obE n e ↔ ∃ i, it (two n) i e = x := by
 obtain ⟨k, p, _⟩ := per_some T h
 rw [obE_eq p, List.mem_map]
 constructor
 ·rintro ⟨i, _, q⟩; exact ⟨i, q⟩
 ·rintro ⟨i, q⟩
  have p0 := p.pos
  refine ⟨i % k, List.mem_range.mpr (Nat.mod_lt _ p0), ?_⟩
  rw [← q]
  have := Nat.div_add_mod i k
  conv => rhs; rw [← this]
  rw [it_add, it_mul p.back]
theorem obE_end {n : Net} (T : Twice n) {e : End} (h : e ∈ ends n) : ∀ x ∈ obE n e, x ∈ ends n := fun x hx => by
 obtain ⟨i, q⟩ := (obE_mem T h).mp hx
 rw [← q]
 exact it_end T h i
theorem obE_pred {n : Net} (T : Twice n) {e : End} (h : e ∈ ends n) {x : End} (hx : x ∈ obE n e) : ∃ y ∈ obE n e, two n y = x := by
 obtain ⟨i, q⟩ := (obE_mem T h).mp hx
 obtain ⟨k, p, _⟩ := per_some T h
 have p0 := p.pos
 refine ⟨it (two n) (i + k - 1) e, (obE_mem T h).mpr ⟨_, rfl⟩, ?_⟩
 show it (two n) (i + k - 1 + 1) e = x
 rw [show i + k - 1 + 1 = k + i by omega, it_add, p.back, q]
theorem obE_two {n : Net} (T : Twice n) {e : End} (h : e ∈ ends n) {x : End} (hx : x ∈ obE n e) : two n x ∈ obE n e := by
 obtain ⟨i, q⟩ := (obE_mem T h).mp hx
 exact (obE_mem T h).mpr ⟨i + 1, by rw [← q]; rfl⟩
theorem obE_tie {n : Net} (T : Twice n) {e : End} (h : e ∈ ends n) {x : End} (hx : x ∈ ends n) : tnm n x ∈ (obE n e).map (tnm n) ↔ x ∈ obE n e ∨ other n x ∈ obE n e := by
 rw [List.mem_map]
 constructor
 ·rintro ⟨y, hy, q⟩
  rcases tnm_two T hx (obE_end T h y hy) q.symm with c | c
  ·exact .inl (c ▸ hy)
  ·exact .inr (c ▸ hy)
 ·rintro (c | c)
  ·exact ⟨x, c, rfl⟩
  ·refine ⟨_, c, ?_⟩
   obtain ⟨z, hz⟩ := mem_ends.mp hx
   rw [tnm_eq hz, tnm_eq (other_spec T hz).1]
theorem other_other {n : Net} (T : Twice n) {e : End} (h : e ∈ ends n) : other n (other n e) = e := by
 obtain ⟨z, hz⟩ := mem_ends.mp h
 exact (other_spec T hz).2.1
noncomputable def Clo (n : Net) (told : List Str) : Prop := ∀ x ∈ ends n, (tnm n (two n x) ∈ told ↔ tnm n x ∈ told)
theorem clo_it {n : Net} (T : Twice n) {told : List Str} (C : Clo n told) {e : End} (h : e ∈ ends n) : ∀ i, tnm n (it (two n) i e) ∈ told ↔ tnm n e ∈ told
 | 0 => Iff.rfl
 | i + 1 => (C _ (it_end T h i)).trans (clo_it T C h i)
theorem clo_ob {n : Net} (T : Twice n) {e : End} (h : e ∈ ends n) : Clo n ((obE n e).map (tnm n)) := fun x hx => by
 rw [obE_tie T h (two_end T hx), obE_tie T h hx]
 constructor
 ·rintro (c | c)
  ·obtain ⟨y, hy, q⟩ := obE_pred T h c
   exact .inl (two_inj T (obE_end T h y hy) hx q ▸ hy)
  ·have := obE_two T h c
   rw [two_oth T hx] at this
   exact .inr this
 ·rintro (c | c)
  ·exact .inl (obE_two T h c)
  ·obtain ⟨y, hy, q⟩ := obE_pred T h c
   have hye := obE_end T h y hy
   have e1 : two n x = other n y := by
    rw [← other_other T hx, ← q, two_oth T hye]
   exact .inr (by rw [e1, other_other T hye]; exact hy)
structure WkAll (n : Net) (es : List End) (told : List Str) (ws : List (List End)) : Prop where
 nd : ((ws.flatMap evens).map (tnm n)).Nodup
 new : ∀ x ∈ ws.flatMap evens, x ∈ ends n ∧ tnm n x ∉ told
 cov : ∀ e ∈ es, tnm n e ∈ told ∨ tnm n e ∈ (ws.flatMap evens).map (tnm n)
 wk : ∀ w ∈ ws, ∃ e, e ∈ ends n ∧ w = walker n e
theorem wks_all {n : Net} (T : Twice n) : ∀ (es : List End) (told : List Str), (∀ e ∈ es, e ∈ ends n) → Clo n told → WkAll n es told (wks n es told)
 | [], told, _, _ => by
  unfold wks
  exact ⟨List.nodup_nil, fun x hx => (nomatch hx), fun e he => (nomatch he), fun w hw => (nomatch hw)⟩
 | e :: r, told, he, C => by
  have h := he e (List.mem_cons_self ..)
  unfold wks
  by_cases q : tnm n e ∈ told
  ·rw [if_pos q]
   have I := wks_all T r told (fun a ha => he a (List.mem_cons_of_mem _ ha)) C
   refine ⟨I.nd, I.new, fun a ha => ?_, I.wk⟩
   rcases List.mem_cons.mp ha with rfl | ha
   ·exact .inl q
   ·exact I.cov a ha
  ·rw [if_neg q]
   have C' : Clo n (told ++ (evens (walker n e)).map (tnm n)) := fun x hx => by
    rw [List.mem_append, List.mem_append]
    exact or_congr (C x hx) (clo_ob T h x hx)
   have I := wks_all T r _ (fun a ha => he a (List.mem_cons_of_mem _ ha)) C'
   have fresh : ∀ x ∈ obE n e, x ∈ ends n ∧ tnm n x ∉ told := fun x hx => by
    obtain ⟨i, k⟩ := (obE_mem T h).mp hx
    refine ⟨obE_end T h x hx, fun z => q ?_⟩
    rw [← k] at z
    exact (clo_it T C h i).mp z
   refine ⟨?_, fun x hx => ?_, fun a ha => ?_, fun w hw => ?_⟩
   ·rw [List.flatMap_cons, List.map_append, List.nodup_append]
    refine ⟨?_, I.nd, fun a ha b hb k => ?_⟩
    ·obtain ⟨k, p, _⟩ := per_some T h
     show ((obE n e).map (tnm n)).Nodup
     rw [obE_eq p, List.map_map, List.nodup_iff_pairwise_ne, List.pairwise_map, List.pairwise_iff_getElem]
     intro i j hi hj hij
     rw [List.getElem_range, List.getElem_range]
     rw [List.length_range] at hj
     exact evens_tie T h p hij hj
    ·subst k
     obtain ⟨x, hx, rfl⟩ := List.mem_map.mp hb
     exact (I.new x hx).2 (List.mem_append_right _ ha)
   ·rw [List.flatMap_cons] at hx
    rcases List.mem_append.mp hx with k | k
    ·exact fresh x k
    ·exact ⟨(I.new x k).1, fun z => (I.new x k).2 (List.mem_append_left _ z)⟩
   ·rw [List.flatMap_cons, List.map_append]
    rcases List.mem_cons.mp ha with rfl | ha
    ·exact .inr (List.mem_append_left _ (List.mem_map.mpr ⟨a, (obE_mem T h).mpr ⟨0, rfl⟩, rfl⟩))
    ·rcases I.cov a ha with k | k
     ·rcases List.mem_append.mp k with k | k
      ·exact .inl k
      ·exact .inr (List.mem_append_left _ k)
     ·exact .inr (List.mem_append_right _ k)
   ·rcases List.mem_cons.mp hw with rfl | hw
    ·exact ⟨e, h, rfl⟩
    ·exact I.wk w hw
noncomputable abbrev wsA (n : Net) : List (List End) := wks n (ends n) []
theorem clo_nil (n : Net) : Clo n [] := fun x _ => by simp
theorem wsA_all {n : Net} (T : Twice n) : WkAll n (ends n) [] (wsA n) := wks_all T (ends n) [] (fun _ h => h) (clo_nil n)
theorem left_once {n : Net} (T : Twice n) {z : Str} (hz : z ∈ ties n) : (((wsA n).flatMap evens).map (tnm n)).count z = 1 := by
 have I := wsA_all T
 rw [List.Nodup.count I.nd, if_pos]
 have : pos n z ≠ [] := fun q => by have := pos_len n z; rw [q, T z hz] at this; cases this
 obtain ⟨p, hp⟩ := List.exists_mem_of_ne_nil _ this
 have hp := mem_pos.mp hp
 have := I.cov p (mem_ends.mpr ⟨z, hp⟩)
 rw [tnm_eq hp] at this
 rcases this with k | k
 ·cases k
 ·exact k
theorem all_two {n : Net} (T : Twice n) {x : End} (hx : x ∈ (wsA n).flatMap evens) : two n x ∈ (wsA n).flatMap evens := by
 obtain ⟨w, hw, hx⟩ := List.mem_flatMap.mp hx
 obtain ⟨e, he, rfl⟩ := (wsA_all T).wk w hw
 exact List.mem_flatMap.mpr ⟨_, hw, obE_two T he hx⟩
theorem map_nd {α β : Type} {f : α → β} : ∀ {l : List α}, l.Nodup → (∀ a ∈ l, ∀ b ∈ l, f a = f b → a = b) → (l.map f).Nodup
 | [], _, _ => List.nodup_nil
 | a :: l, h, inj => by
  have h := List.nodup_cons.mp h
  refine List.nodup_cons.mpr ⟨fun hm => ?_, map_nd h.2 fun x hx y hy => inj x (List.mem_cons_of_mem _ hx) y (List.mem_cons_of_mem _ hy)⟩
  obtain ⟨b, hb, q⟩ := List.mem_map.mp hm
  have := inj a (List.mem_cons_self ..) b (List.mem_cons_of_mem _ hb) q.symm
  exact h.1 (this ▸ hb)
theorem map_inj {α β : Type} {f : α → β} : ∀ {l : List α}, (l.map f).Nodup → ∀ a ∈ l, ∀ b ∈ l, f a = f b → a = b
 | c :: l, h, a, ha, b, hb, q => by
  rw [List.map_cons, List.nodup_cons] at h
  rcases List.mem_cons.mp ha with ea | ha'
  ·rcases List.mem_cons.mp hb with eb | hb'
   ·rw [ea, eb]
   ·exact absurd (List.mem_map.mpr ⟨b, hb', by rw [← q, ea]⟩) h.1
  ·rcases List.mem_cons.mp hb with eb | hb'
   ·exact absurd (List.mem_map.mpr ⟨a, ha', by rw [q, eb]⟩) h.1
   ·exact map_inj h.2 a ha' b hb' q
theorem nd_of_map {α β : Type} {f : α → β} : ∀ {l : List α}, (l.map f).Nodup → l.Nodup
 | [], _ => List.nodup_nil
 | a :: l, h => by
  rw [List.map_cons, List.nodup_cons] at h
  exact List.nodup_cons.mpr ⟨fun k => h.1 (List.mem_map.mpr ⟨a, k, rfl⟩), nd_of_map h.2⟩
theorem right_perm {n : Net} (T : Twice n) : (((wsA n).flatMap evens).map fun x => tnm n (go 1 n x)).Perm (((wsA n).flatMap evens).map (tnm n)) := by
 have I := wsA_all T
 refine perm_of (map_nd (nd_of_map I.nd) fun x hx y hy q => ?_) (fun z hz => ?_) (by rw [List.length_map, List.length_map]; exact Nat.le_refl _)
 ·have hxe := (I.new x hx).1
  have hye := (I.new y hy).1
  rcases odd_tie T hxe hye q with c | c
  ·exact c
  ·exfalso
   have t : tnm n (two n y) = tnm n x := by
    obtain ⟨z, hz⟩ := mem_ends.mp hxe
    rw [c, tnm_eq hz, tnm_eq (other_spec T hz).1]
   have := map_inj I.nd _ (all_two T hy) x hx t
   obtain ⟨z, hz⟩ := mem_ends.mp hxe
   exact (other_spec T hz).2.2 (c.symm.trans this)
 ·obtain ⟨x, hx, rfl⟩ := List.mem_map.mp hz
  obtain ⟨y, hy⟩ := mem_ends.mp (go_end (c := 1) T (I.new x hx).1)
  rw [tnm_eq hy]
  refine List.count_pos_iff.mp ?_
  rw [left_once T (tie_mem hy)]
  exact Nat.one_pos
end Nt
namespace L2
open PySem PySem.Spec PyProof.Rows Sort2
section
variable {X : Cx} {a b e : Expr} {es : List Expr} {σ : St} {H : Hp} {Q : VK} {pos p kp cp : Pos} {j : Nat}
theorem call_isiXT : CallR X (.builtin "isinstance") (fun xs H Q => ∃ ea C oe tp xs' vs b, xs = [.ref ea, .ref tp] ∧ H tp = some (.tup xs') ∧ (∀ us, Vals xs' us → us = vs) ∧ H ea = some (XO oe) ∧ IsX oe (.ref C) ∧ xLook X.K C = true ∧ PySem.W.kitAny X.K (.ref C) vs = some b ∧ Q (.bl b) H) := by
 intro pins s σ H xs us Q I r h
 obtain ⟨ea, C, oe, tp, xs', vs, b, rfl, htp, hv, hH, ix, hl, e, q⟩ := h
 obtain ⟨u, w', rfl, ru, rw'⟩ := vals2 r
 cases (show u = Value.ref ea from ru)
 cases (show w' = Value.ref tp from rw')
 obtain ⟨its, r2, pl, _⟩ := I.tuple (SqT.of htp)
 obtain rfl := hv its r2
 obtain ⟨o, ho, hc, n, hd⟩ := pl
 obtain ⟨oc, od, oda, osl⟩ := o
 have hc : oc = _ := hc
 have hd : oda = _ := hd
 subst hc hd
 have he : s.heap.get? ea = some oe := (show ObjOk X.prog X.w H s.heap ea (XO oe) from I.hok ea _ hH).1
 exact PySem.W.kia_tup (kitx_exc hl) I.kIn ⟨oe, inst_of he ix⟩ ho e (fun z => nomatch z) fun tk => ⟨.bl b, H, I.tok tk, rfl, q⟩
end
end L2
namespace L2
open PySem PySem.Spec PyProof.Rows SetT
noncomputable def nextAt (e : Expr) (i2 : Expr) (d : Nat) (acc : Value) (env : Env) : Sem Unit := do
 let x ← eval i2 env
 standAt i2.pos
 let x ← foldedSetIterable i2 env x
 let _ ← runOwn (.compStart e d (← holding [x] (pyIter x)) acc env) env
section
variable {X : Cx} {elt t1 i1 t2 i2 t3 i3 : Expr} {f1 f2 f3 : List Expr} {scope : Scope} {pos : Pos} {σ : St} {H : Hp} {acc : Value} {env : Env}
theorem clause30 : Clause (.ListComp elt [⟨t1, i1, f1, 0⟩, ⟨t2, i2, f2, 0⟩, ⟨t3, i3, f3, 0⟩] scope pos) 0 t1 i1 f1 acc env (nextAt (.ListComp elt [⟨t1, i1, f1, 0⟩, ⟨t2, i2, f2, 0⟩, ⟨t3, i3, f3, 0⟩] scope pos) i2 1 acc env) := ⟨rfl, fun _ => rfl, fun _ _ _ => rfl, fun _ _ => rfl, fun _ _ _ => rfl, fun _ _ => rfl, fun it => by
 unfold nextAt
 simp only [bind_assoc, pure_bind]
 rfl⟩
theorem clause31 : Clause (.ListComp elt [⟨t1, i1, f1, 0⟩, ⟨t2, i2, f2, 0⟩, ⟨t3, i3, f3, 0⟩] scope pos) 1 t2 i2 f2 acc env (nextAt (.ListComp elt [⟨t1, i1, f1, 0⟩, ⟨t2, i2, f2, 0⟩, ⟨t3, i3, f3, 0⟩] scope pos) i3 2 acc env) := ⟨rfl, fun _ => rfl, fun _ _ _ => rfl, fun _ _ => rfl, fun _ _ _ => rfl, fun _ _ => rfl, fun it => by
 unfold nextAt
 simp only [bind_assoc, pure_bind]
 rfl⟩
theorem clause32 : Clause (.ListComp elt [⟨t1, i1, f1, 0⟩, ⟨t2, i2, f2, 0⟩, ⟨t3, i3, f3, 0⟩] scope pos) 2 t3 i3 f3 acc env (emit elt acc env) := ⟨rfl, fun _ => rfl, fun _ _ _ => rfl, fun _ _ => rfl, fun _ _ _ => rfl, fun _ _ => rfl, fun _ => rfl⟩
theorem ein_at {e : Expr} {d : Nat} {inner : Sem Unit} {wi : TI} {Q : St → Hp → Prop} (C : Clause e d t2 i2 f2 acc X.env inner) (hxe : X.xe = fun _ _ => False) (hc : X.calm = true) (hi : PI X t2 i2 wi) (h : wi σ H fun J H1 => ClauseL X t2 f2 inner J Q σ H1)
  (hs : ∀ x, foldedSetIterable i2 X.env x = pure x := by intro _; rfl) : Ein X (nextAt e i2 d acc X.env) σ H Q := by
 refine ⟨fun pins s I => ?_⟩
 unfold nextAt
 refine wpAny_bind (thn (hi pins s σ H _ I h) fun x s1 h1 => ?_)
 refine wpAny_bind (wpAny_standAt (wpAny_bind (wpAny_of_eq (hs x) (wpAny_bind (wpAny_holding (wpAny_mono h1 (fun itv s2 h2 => ?_) fun _ _ e => e))))))
 obtain ⟨it, fp, tn, J, H2, e, I2, T, st2, f2', q⟩ := h2
 subst e
 refine wpAny_bind (wpAny_runOwn (Q := fun _ s' => wpAny (model X.prog X.w) X.A (pure ()) (fun _ s' => ∃ σ' H', Inv X pins σ' H' s' ∧ Q σ' H') X.xe s') ?_)
 exact clause_loop hxe hc C I2 T st2 f2' q fun σ' H' s' I' q' => wpAny_pure ⟨σ', H', I', q'⟩
theorem ev_comp3 {wi : TI} {Q : VK} (sc : Scope) (N N' : List Str) (n : Nat) (hi : PI X t1 i1 wi)
  (h : wi σ H fun J H1 => ∀ D, H1 D = none → ∀ cl C s₀ H₀ ex, ClauseL (cxComp X N' scope cl C s₀ H₀ ex) t1 f1 (nextAt (.ListComp elt [⟨t1, i1, f1, 0⟩, ⟨t2, i2, f2, 0⟩, ⟨t3, i3, f3, 0⟩] scope pos) i2 1 (.ref D) (compEnvC scope cl C X.env)) J (fun _ H' => Q (.ref D) H') (σ ++ List.replicate n none) (upd H1 D (.lst [])))
  (hc : X.calm = true := by rfl) (hsc : X.env.scope = sc := by rfl) (hN : X.N = N := by rfl) (hk : compOk sc scope N N' = true := by decide +kernel) (hl : N'.length = N.length + n := by rfl)
  (hs : ∀ x, foldedSetIterable i1 X.env x = pure x := by intro _; rfl) : Ev X (.ListComp elt [⟨t1, i1, f1, 0⟩, ⟨t2, i2, f2, 0⟩, ⟨t3, i3, f3, 0⟩] scope pos) σ H Q := by
 refine ⟨fun pins s I => ?_⟩
 subst hsc hN
 have ck := CompOk.of hk
 rw [eval_ListComp]
 refine wpAny_comprehension_free (use := none) rfl hs (closure_eq fun x hx hf => I.ok.has x.1 (ck.free x hx hf)) ck.kind ck.names (thn (hi pins s σ H _ I h) fun v s1 h1 => thn h1 fun itv s2 h2 => ?_)
 obtain ⟨it, fp, tn, J, H2, e, I2, T, st2, f2', q⟩ := h2
 subst e
 refine comp_core_any (e := .ListComp elt [⟨t1, i1, f1, 0⟩, ⟨t2, i2, f2, 0⟩, ⟨t3, i3, f3, 0⟩] scope pos) (newAcc := newList []) (o0 := { cls := .type "list", dict := none, data := .seq ([] : List Value).toArray }) (u0 := fun _ => .lst []) (fun _ _ _ h => wpAny_newObj_type h (by show (0 : Nat) ≤ sizeLine; exact Nat.zero_le _)) (fun _ _ _ => ⟨Nat.zero_le _, [], 0, .nil, Heap.get?_push_size _ rfl⟩) (Q := Q) (RR := fun acc C => compPost (model X.prog X.w) X.A X.xe none (EP X pins σ Q) acc C) hc ck hl (inner := fun acc env => nextAt (.ListComp elt [⟨t1, i1, f1, 0⟩, ⟨t2, i2, f2, 0⟩, ⟨t3, i3, f3, 0⟩] scope pos) i2 1 acc env) (fun _ _ => clause30) I2 T st2 f2' q ?_
 intro D C H' s' m IX hn hC c1 c2 c3 c4 qq
 exact ⟨m, hn, fun h' hs' => ⟨.ref D, H', IX.turned (t' := s'.toks) (fun b o hb e => hs'.extBut b o hb e) hC (Ne.symm (Ne.symm c1)) (.inr c2) c3 c4, rfl, qq⟩⟩
end
section
variable {X : Cx} {tg : Expr} {ifs : List Expr} {inner : Sem Unit} {σ : St} {H : Hp} {a : Addr} {xs : List V} {after : St → Hp → Prop}
theorem clause_tupP (Pv : Nat → St → Hp → Prop) (h0 : Pv 0 σ H) (hl : ∀ i σ' H', i ≤ xs.length → Pv i σ' H' → SqT X.K H' a xs)
  (hs : ∀ i x σ' H', xs[i]? = some x → Pv i σ' H' → Eg X tg x σ' H' fun σ2 H3 => Ei X ifs σ2 H3 fun b H4 => if b = true then Ein X inner σ2 H4 (Pv (i + 1)) else Pv (i + 1) σ2 H4)
  (hd : ∀ σ' H', Pv xs.length σ' H' → after σ' H') : ClauseL X tg ifs inner (Itt X.K a) after σ H := by
 refine ⟨fun i m σ' H' => m = xs.length - i ∧ i ≤ xs.length ∧ Pv i σ' H', ⟨_, rfl, Nat.zero_le _, h0⟩, ?_⟩
 rintro i m σ' H' ⟨rfl, hi, p⟩
 have q := hl i σ' H' hi p
 by_cases hlt : i < xs.length
 ·refine .inr ⟨⟨xs, xs[i], q, by simp [hlt]⟩, Pv (i + 1), fun σ' H' p' => ⟨xs.length - (i + 1), by omega, rfl, hlt, p'⟩, fun x H2 y => ?_⟩
  obtain ⟨e, y⟩ := y
  subst e
  exact hs i x σ' _ (y xs q) p
 ·have e : i = xs.length := by omega
  subst e
  exact .inl ⟨⟨xs, q, Nat.le_refl _⟩, hd σ' H' p⟩
theorem clause_enumP (Pv : Nat → St → Hp → Prop) (h0 : Pv 0 σ H) (hl : ∀ i σ' H', i ≤ xs.length → Pv i σ' H' → SqL X.K H' a xs)
  (hs : ∀ (i : Nat) x T σ' H', xs[i]? = some x → Pv i σ' H' → H' T = none → Eg X tg (.ref T) σ' (upd H' T (.tup [.int (i : Int), x])) fun σ2 H3 => Ei X ifs σ2 H3 fun b H4 => if b = true then Ein X inner σ2 H4 (Pv (i + 1)) else Pv (i + 1) σ2 H4)
  (hd : ∀ σ' H', Pv xs.length σ' H' → after σ' H') : ClauseL X tg ifs inner (Ite X.K a) after σ H := by
 refine ⟨fun i m σ' H' => m = xs.length - i ∧ i ≤ xs.length ∧ Pv i σ' H', ⟨_, rfl, Nat.zero_le _, h0⟩, ?_⟩
 rintro i m σ' H' ⟨rfl, hi, p⟩
 have q := hl i σ' H' hi p
 by_cases hlt : i < xs.length
 ·refine .inr ⟨⟨xs, xs[i], q, by simp [hlt]⟩, Pv (i + 1), fun σ' H' p' => ⟨xs.length - (i + 1), by omega, rfl, hlt, p'⟩, fun v H2 y => ?_⟩
  obtain ⟨T, x, hT, rfl, rfl, hx⟩ := y
  exact hs i x T σ' _ (hx xs q) p hT
 ·have e : i = xs.length := by omega
  subst e
  exact .inl ⟨⟨xs, q, Nat.le_refl _⟩, hd σ' H' p⟩
end
theorem drop_vals : ∀ {xs : List V} {us : List Value} (k : Nat), Vals xs us → Vals (xs.drop k) (us.drop k)
 | _, _, 0, h => h
 | _, _, k + 1, .nil => .nil
 | _, _, k + 1, .cons _ t => drop_vals k t
theorem pick_from (its : List Value) {k : Nat} (hk : k ≤ 1) : slicePick its.toArray (some (k : Int)) none (some 2) = (evens (its.drop k)).toArray := by
 unfold slicePick
 have hb : sliceBounds (some (k : Int)) none (some 2) its.toArray.size = (((min k its.length : Nat) : Int), (its.length : Int), 2) := by
  show (max 0 (min (if (k : Int) < 0 then (k : Int) + _ else (k : Int)) _), _, _) = _
  rw [if_neg (by omega), List.size_toArray]
  refine Prod.ext ?_ rfl
  show max 0 (min (k : Int) (its.length : Int)) = _
  omega
 rw [hb]
 congr 1
 show ((sliceRange ((min k its.length : Nat) : Int) (its.length : Int) 2).filterMap (its.toArray[·]?)) = evens (its.drop k)
 have hr : sliceRange ((min k its.length : Nat) : Int) (its.length : Int) 2 = (List.range ((its.length - k + 1) / 2)).map fun i => k + 2 * i := by
  unfold sliceRange
  have e1 : (if (2 : Int) > 0 then (if ((min k its.length : Nat) : Int) < (its.length : Int) then ((its.length : Int) - ((min k its.length : Nat) : Int) + 2 - 1) / 2 else 0) else (if ((min k its.length : Nat) : Int) > (its.length : Int) then (((min k its.length : Nat) : Int) - (its.length : Int) - 2 - 1) / (-2) else 0)).toNat = (its.length - k + 1) / 2 := by
   rw [if_pos (by decide)]
   split <;> omega
  show (List.range _).map _ = _
  rw [e1]
  refine List.map_congr_left fun i hi => ?_
  have := List.mem_range.mp hi
  omega
 rw [hr, List.filterMap_map]
 have hl : (its.drop k).length = its.length - k := List.length_drop
 obtain ⟨h1, h2⟩ := range_pick (fun i => its.toArray[k + 2 * i]?) ((its.length - k + 1) / 2) fun i hi => ⟨its[k + 2 * i]'(by omega), by rw [← Array.getElem?_toList]; exact List.getElem?_eq_getElem (l := its) (by omega)⟩
 apply List.ext_getElem?
 intro i
 show ((List.range ((its.length - k + 1) / 2)).filterMap fun i => its.toArray[k + 2 * i]?)[i]? = _
 by_cases hi : i < (its.length - k + 1) / 2
 ·rw [h2 i hi, evens_at, ← Array.getElem?_toList, List.getElem?_drop]
 ·rw [List.getElem?_eq_none (by omega), List.getElem?_eq_none (by rw [evens_len, hl]; omega)]
section
variable {X : Cx} {σ : St} {H : Hp} {Q : VK}
theorem ev_from2 {e lo : Expr} {j : Nat} {p1 p2 pos : Pos} (h : Ev X e σ H fun x H1 => ∃ a xs, x = .ref a ∧ SqL X.K H1 a xs ∧ Ev X lo σ H1 fun y H2 => ∃ k : Nat, y = .int (k : Int) ∧ k ≤ 1 ∧ SqL X.K H2 a xs ∧ ∀ p, H2 p = none → Q (.ref p) (upd H2 p (.lst (evens (xs.drop k))))) :
  Ev X (.Subscript e (.Slice (some lo) none (some (.Constant (.int 2) j p1)) p2) pos) σ H Q := by
 refine ⟨fun pins s I => Subscript_ (thn (h.run pins s I) fun v s1 ⟨x, H1, I1, r1, a, xs, ex, hx1, hlo⟩ => ?_)⟩
 subst ex
 cases (show v = Value.ref a from r1)
 refine wpAny_Slice ?_
 rw [evalPart_some]
 refine thn (hlo.run pins s1 I1) fun v0 s1' ⟨y0, H1', I1', r0, k, ey0, hk, hx, q⟩ => ?_
 subst ey0
 obtain ⟨t0, rfl⟩ := r0
 refine wpAny_pure ?_
 rw [evalPart_some]
 refine thn ((ev_int (X := X) (i := 2) (j := j) (p := p1) (σ := σ) (H := H1') (Q := fun y H2 => y = .int 2 ∧ H2 = H1') ⟨rfl, rfl⟩).run pins s1' I1') fun v2 s2 ⟨y, H2, I2, r2, ey, eh⟩ => ?_
 subst ey eh
 obtain ⟨t, rfl⟩ := r2
 obtain ⟨its, r, pl, hz⟩ := I2.list hx
 have hlen := r.length
 have I3 : Inv X pins σ H2 { s2 with heap := s2.heap.push { cls := .type "slice", data := .fields #[.int (k : Int) t0, .none, .int 2 t] } } := I2.kept (t' := s2.toks) fun b ob q => Heap.get?_push_of_some _ q
 have pl3 := pl.isList.push { cls := .type "slice", data := .fields #[.int (k : Int) t0, .none, .int 2 t] }
 show wpAny (model X.prog X.w) X.A (subscriptTail e _ (.ref a) (.ref s2.heap.objs.size)) (EP X pins σ Q) X.xe { s2 with heap := s2.heap.push { cls := .type "slice", data := .fields #[.int (k : Int) t0, .none, .int 2 t] } }
 refine tail_any (ops := [.ref a, .ref s2.heap.objs.size]) (T := "list") (Heap.IsList.typeIs (s := { s2 with heap := s2.heap.push { cls := .type "slice", data := .fields #[.int (k : Int) t0, .none, .int 2 t] } }) pl3) slot_list_getitem.lookup ?_ (by with_unfolding_all rfl)
 refine wpAny_getItem_list_slice (s := { s2 with heap := s2.heap.push { cls := .type "slice", data := .fields #[.int (k : Int) t0, .none, .int 2 t] } }) pl3 (Heap.IsSliceOf.new ..) (.int (k : Int) t0) .none (.int 2 t) (by decide) ?_ (by rw [List.size_toArray]; omega)
 rw [pick_from its hk]
 exact ⟨.ref _, _, I3.lnew (t' := s2.toks) (evens_vals (drop_vals k r)) (Nat.le_trans (evens_le _) (by rw [List.length_drop]; omega)), rfl, q _ I3.fresh⟩
end
end L2
namespace Nt
open PySem L2
open Classical
noncomputable def prt {α : Type} (k : Nat) (w : List α) : List α := evens (w.drop k)
noncomputable def trnF (k : Nat) : Nat → List (List End) → List (Nat × End)
 | _, [] => []
 | m, w :: ws => ((prt k w).map fun e => (m, e)) ++ trnF k (m + 1) ws
noncomputable def trn (k : Nat) (ws : List (List End)) : List (Nat × End) := trnF k 0 ws
theorem trnF_app (k : Nat) : ∀ (m : Nat) (ws vs : List (List End)), trnF k m (ws ++ vs) = trnF k m ws ++ trnF k (m + ws.length) vs
 | m, [], vs => rfl
 | m, w :: ws, vs => by
  show _ ++ trnF k (m + 1) (ws ++ vs) = (_ ++ trnF k (m + 1) ws) ++ _
  rw [trnF_app k (m + 1) ws vs, List.append_assoc, List.length_cons, show m + 1 + ws.length = m + (ws.length + 1) by omega]
theorem trn_snoc (k : Nat) (ws : List (List End)) (w : List End) : trn k (ws ++ [w]) = trn k ws ++ (prt k w).map fun e => (ws.length, e) := by
 unfold trn
 rw [trnF_app, Nat.zero_add]
 show _ ++ (_ ++ []) = _
 rw [List.append_nil]
theorem trnF_snd (k : Nat) : ∀ (m : Nat) (ws : List (List End)), (trnF k m ws).map (·.2) = ws.flatMap (prt k)
 | m, [] => rfl
 | m, w :: ws => by
  unfold trnF
  rw [List.map_append, trnF_snd k (m + 1) ws, List.map_map, List.flatMap_cons]
  congr 1
  exact List.map_id' _
theorem prt_odd {n : Net} {e : End} : prt 1 (walker n e) = (evens (walker n e)).map (go 1 n) := by
 unfold walker prt
 have l := wk_len n e (per n e)
 apply List.ext_getElem?
 intro i
 rw [List.getElem?_map, evens_at, evens_at, List.getElem?_drop]
 by_cases h : i < per n e
 ·rw [show 1 + 2 * i = 2 * i + 1 by omega, wk_odd n e _ i h, wk_even n e _ i h]
  rfl
 ·rw [List.getElem?_eq_none (by omega), List.getElem?_eq_none (by omega)]
  rfl
theorem right_flat {n : Net} : ∀ {ws : List (List End)}, (∀ w ∈ ws, ∃ e, e ∈ ends n ∧ w = walker n e) → ws.flatMap (prt 1) = (ws.flatMap evens).map (go 1 n)
 | [], _ => rfl
 | w :: ws, h => by
  obtain ⟨e, _, rfl⟩ := h w (List.mem_cons_self ..)
  rw [List.flatMap_cons, List.flatMap_cons, List.map_append, prt_odd, right_flat fun v hv => h v (List.mem_cons_of_mem _ hv)]
theorem trn_ties {n : Net} (T : Twice n) {k : Nat} (hk : k ≤ 1) : ((trn k (wsA n)).map fun p => tnm n p.2).Perm (((wsA n).flatMap evens).map (tnm n)) := by
 have e : ((trn k (wsA n)).map fun p => tnm n p.2) = ((wsA n).flatMap (prt k)).map (tnm n) := by
  unfold trn
  rw [← trnF_snd k 0 (wsA n), List.map_map]
  rfl
 rw [e]
 match k, hk with
 | 0, _ => exact List.Perm.refl _
 | 1, _ =>
  rw [right_flat (wsA_all T).wk, List.map_map]
  exact right_perm T
theorem trn_nodup {n : Net} (T : Twice n) {k : Nat} (hk : k ≤ 1) : ((trn k (wsA n)).map fun p => tnm n p.2).Nodup := (trn_ties T hk).nodup_iff.mpr (wsA_all T).nd
theorem trn_all {n : Net} (T : Twice n) {k : Nat} (hk : k ≤ 1) {z : Str} : z ∈ ((trn k (wsA n)).map fun p => tnm n p.2) ↔ z ∈ ties n := by
 rw [(trn_ties T hk).mem_iff]
 refine ⟨fun h => ?_, fun h => List.count_pos_iff.mp (by rw [left_once T h]; exact Nat.one_pos)⟩
 obtain ⟨x, hx, rfl⟩ := List.mem_map.mp h
 obtain ⟨y, hy⟩ := mem_ends.mp ((wsA_all T).new x hx).1
 rw [tnm_eq hy]
 exact tie_mem hy
noncomputable def pasK (n : Net) (k : Nat) (z : Str) : List (Nat × End) := (trn k (wsA n)).filter fun p => decide (tnm n p.2 = z)
theorem filt_one {α : Type} {f : α → Str} : ∀ {l : List α}, (l.map f).Nodup → ∀ {p : α}, p ∈ l → (l.filter fun x => decide (f x = f p)) = [p]
 | a :: l, hn, p, hp => by
  rw [List.map_cons, List.nodup_cons] at hn
  rw [List.filter_cons]
  by_cases h : f a = f p
  ·rw [if_pos (decide_eq_true h)]
   have e : a = p := by
    rcases List.mem_cons.mp hp with q | q
    ·exact q.symm
    ·exact absurd (by rw [h]; exact List.mem_map.mpr ⟨p, q, rfl⟩) hn.1
   subst e
   congr 1
   rw [List.filter_eq_nil_iff]
   intro x hx q
   exact hn.1 (by rw [← of_decide_eq_true q]; exact List.mem_map.mpr ⟨x, hx, rfl⟩)
  ·rw [if_neg (fun q => h (of_decide_eq_true q))]
   rcases List.mem_cons.mp hp with q | q
   ·exact absurd (by rw [q]) h
   ·exact filt_one hn.2 q
theorem pas_one {n : Net} (T : Twice n) {k : Nat} (hk : k ≤ 1) {z : Str} (hz : z ∈ ties n) : ∃ p, p ∈ trn k (wsA n) ∧ tnm n p.2 = z ∧ pasK n k z = [p] := by
 obtain ⟨p, hp, rfl⟩ := List.mem_map.mp ((trn_all T hk).mpr hz)
 exact ⟨p, hp, rfl, filt_one (trn_nodup T hk) hp⟩
theorem wks_first {n : Net} (T : Twice n) : ∀ (es : List End) (told : List Str), (∀ e ∈ es, e ∈ ends n) → ∀ (i : Nat) w, (wks n es told)[i]? = some w →
  ∃ e l r, es = l ++ e :: r ∧ (∀ x ∈ l, tnm n x ∈ told ++ (((wks n es told).take i).flatMap evens).map (tnm n)) ∧ tnm n e ∉ told ++ (((wks n es told).take i).flatMap evens).map (tnm n) ∧ w = walker n e
 | [], told, _, i, w, h => by simp [wks] at h
 | e :: r, told, hE, i, w, h => by
  have hr : ∀ a ∈ r, a ∈ ends n := fun a ha => hE a (List.mem_cons_of_mem _ ha)
  unfold wks at h ⊢
  by_cases c : tnm n e ∈ told
  ·rw [if_pos c] at h ⊢
   obtain ⟨x, l, r', h1, h2, h3, h4⟩ := wks_first T r told hr i w h
   refine ⟨x, e :: l, r', by rw [h1]; rfl, fun y hy => ?_, h3, h4⟩
   rcases List.mem_cons.mp hy with q | q
   ·rw [q]
    exact List.mem_append_left _ c
   ·exact h2 y q
  ·rw [if_neg c] at h ⊢
   match i with
   | 0 =>
    cases h
    refine ⟨e, [], r, rfl, fun y hy => (nomatch hy), ?_, rfl⟩
    simpa using c
   | i + 1 =>
    obtain ⟨x, l, r', h1, h2, h3, h4⟩ := wks_first T r (told ++ (evens (walker n e)).map (tnm n)) hr i w h
    have eq : (told ++ (((walker n e :: wks n r (told ++ (evens (walker n e)).map (tnm n))).take (i + 1)).flatMap evens).map (tnm n)) = (told ++ (evens (walker n e)).map (tnm n)) ++ (((wks n r (told ++ (evens (walker n e)).map (tnm n))).take i).flatMap evens).map (tnm n) := by
     rw [List.take_succ_cons, List.flatMap_cons, List.map_append, List.append_assoc]
    rw [eq]
    refine ⟨x, e :: l, r', by rw [h1]; rfl, fun y hy => ?_, h3, h4⟩
    rcases List.mem_cons.mp hy with q | q
    ·rw [q]
     refine List.mem_append_left _ (List.mem_append_right _ (List.mem_map.mpr ⟨e, ?_, rfl⟩))
     exact (obE_mem T (hE e (List.mem_cons_self ..))).mpr ⟨0, rfl⟩
    ·exact h2 y q
noncomputable def toldA (n : Net) (i : Nat) : List Str := (((wsA n).take i).flatMap evens).map (tnm n)
theorem toldA_trn (n : Net) (i : Nat) : toldA n i = (trn 0 ((wsA n).take i)).map fun p => tnm n p.2 := by
 unfold toldA trn
 rw [show ((wsA n).take i).flatMap evens = ((wsA n).take i).flatMap (prt 0) from rfl, ← trnF_snd 0 0, List.map_map]
 rfl
theorem first_end {n : Net} (T : Twice n) {i : Nat} {w : List End} (h : (wsA n)[i]? = some w) : ∃ e l r, ends n = l ++ e :: r ∧ (∀ x ∈ l, tnm n x ∈ toldA n i) ∧ tnm n e ∉ toldA n i ∧ w = walker n e := by
 obtain ⟨e, l, r, h1, h2, h3, h4⟩ := wks_first T (ends n) [] (fun _ h => h) i w h
 exact ⟨e, l, r, h1, h2, h3, h4⟩
theorem walker_head {n : Net} (T : Twice n) {e : End} (h : e ∈ ends n) : (walker n e)[0]? = some e := by
 obtain ⟨k, p, _⟩ := per_some T h
 unfold walker
 rw [per_eq p]
 have := wk_even n e k 0 p.pos
 exact this
theorem prt0_snoc {α : Type} {w : List α} {k : Nat} {x : α} (h : w[k]? = some x) : prt 0 (w.take (k + 1)) = if k % 2 = 0 then prt 0 (w.take k) ++ [x] else prt 0 (w.take k) := by
 have hk := (List.getElem?_eq_some_iff.mp h).1
 have l1 : (w.take k).length = k := by rw [List.length_take]; omega
 have l2 : (w.take (k + 1)).length = k + 1 := by rw [List.length_take]; omega
 show evens (w.take (k + 1)) = if k % 2 = 0 then evens (w.take k) ++ [x] else evens (w.take k)
 have le : (evens (w.take k)).length = (k + 1) / 2 := by rw [evens_len, l1]
 apply List.ext_getElem?
 intro i
 rw [evens_at]
 split
 ·rename_i c
  by_cases hi : i < (evens (w.take k)).length
  ·rw [List.getElem?_append_left hi, evens_at, List.getElem?_take, List.getElem?_take, if_pos (by omega), if_pos (by omega)]
  ·rw [List.getElem?_append_right (by omega)]
   by_cases hi2 : i = (evens (w.take k)).length
   ·rw [hi2, Nat.sub_self, List.getElem?_take, if_pos (by omega), show 2 * (evens (w.take k)).length = k by omega, h]
    rfl
   ·rw [List.getElem?_eq_none (by omega), List.getElem?_eq_none (by show 1 ≤ _; omega)]
 ·rename_i c
  rw [evens_at, List.getElem?_take, List.getElem?_take]
  by_cases hi : 2 * i < k
  ·rw [if_pos (by omega), if_pos hi]
  ·rw [if_neg (by omega), if_neg hi]
theorem prt1_snoc {α : Type} {w : List α} {k : Nat} {x : α} (h : w[k]? = some x) : prt 1 (w.take (k + 1)) = if k % 2 = 0 then prt 1 (w.take k) else prt 1 (w.take k) ++ [x] := by
 match w, k with
 | a :: w, 0 => rfl
 | a :: w, k + 1 =>
  have h : w[k]? = some x := by simpa using h
  have := prt0_snoc h
  show prt 0 (w.take (k + 1)) = if (k + 1) % 2 = 0 then prt 0 (w.take k) else prt 0 (w.take k) ++ [x]
  rw [this]
  by_cases c : k % 2 = 0
  ·rw [if_pos c, if_neg (by omega)]
  ·rw [if_neg c, if_pos (by omega)]
end Nt
namespace P3
open PySem L2 Nt Sort2 SetT
open PyProof.Rows (sortedS)
open Classical
noncomputable def PsAt (n : Net) (H : Hp) (L : Addr) (ts : List Addr) (ps : List (Nat × Nt.End)) : Prop := H L = some (.lst (ts.map V.ref)) ∧ ts.length = ps.length ∧ ∀ (i : Nat) t p, ts[i]? = some t → ps[i]? = some p → ∃ u, H t = some (.tup [.int (p.1 : Int), .ref u]) ∧ H u = some (TN n p.2)
theorem PsAt.same {n : Net} {H H' : Hp} {L : Addr} {ts : List Addr} {ps : List (Nat × Nt.End)} (h : PsAt n H L ts ps) (s : Same H H') : PsAt n H' L ts ps := ⟨s _ _ h.1, h.2.1, fun i t p a b => let ⟨u, q1, q2⟩ := h.2.2 i t p a b; ⟨u, s _ _ q1, s _ _ q2⟩⟩
theorem PsAt.keep {n : Net} {H H' : Hp} {L : Addr} {ts : List Addr} {ps : List (Nat × Nt.End)} (h : PsAt n H L ts ps) (hL : H' L = H L) (k : ∀ b xs, H b = some (.tup xs) → H' b = some (.tup xs)) : PsAt n H' L ts ps := ⟨by rw [hL]; exact h.1, h.2.1, fun i t p a b => let ⟨u, q1, q2⟩ := h.2.2 i t p a b; ⟨u, k _ _ q1, k _ _ q2⟩⟩
theorem PsAt.snoc {n : Net} {H : Hp} {L t u : Addr} {ts : List Addr} {ps : List (Nat × Nt.End)} {p : Nat × Nt.End} (h : PsAt n H L ts ps) (ht : H t = some (.tup [.int (p.1 : Int), .ref u])) (hu : H u = some (TN n p.2)) : PsAt n (upd H L (.lst (ts.map V.ref ++ [.ref t]))) L (ts ++ [t]) (ps ++ [p]) := by
 obtain ⟨h1, h2, h3⟩ := h
 have k : ∀ b xs, H b = some (.tup xs) → (upd H L (.lst (ts.map V.ref ++ [.ref t]))) b = some (.tup xs) := fun b xs q => by rw [upd_ne (ne_of q h1 fun z => nomatch z)]; exact q
 refine ⟨by rw [upd_same, List.map_append]; rfl, by rw [List.length_append, List.length_append, h2]; rfl, fun i a x ha hx => ?_⟩
 by_cases hi : i < ts.length
 ·rw [List.getElem?_append_left hi] at ha
  rw [List.getElem?_append_left (by omega)] at hx
  obtain ⟨v, q1, q2⟩ := h3 i a x ha hx
  exact ⟨v, k _ _ q1, k _ _ q2⟩
 ·rw [List.getElem?_append_right (by omega)] at ha hx
  have e : i - ts.length = 0 := by
   have := (List.getElem?_eq_some_iff.mp ha).1
   simp at this
   omega
  rw [e] at ha
  rw [← h2, e] at hx
  cases ha
  cases hx
  exact ⟨u, k _ _ ht, k _ _ hu⟩
noncomputable def fz (n : Net) (z : Str) (l : List (Nat × Nt.End)) : List (Nat × Nt.End) := l.filter fun p => decide (tnm n p.2 = z)
noncomputable def pas (n : Net) (z : Str) : List (Nat × Nt.End) := fz n z (trn 0 (wsA n)) ++ fz n z (trn 1 (wsA n))
noncomputable def spPas (c : Str → Addr) : Sp := fun vs H Q E => ∃ (R : Addr) (as : List (Addr × Addr)) (n : Net) (z : Str), vs = [.ref R, .str z] ∧ RowsAt H R as n ∧ (n.map (·.1)).Nodup ∧ Twice n ∧ n.length ≤ 60 ∧ (ties n).length ≤ 60 ∧
 (z ∉ ties n → ∀ H', Same H H' → E (.ref (c "NoTie")) none H') ∧ (z ∈ ties n → ∀ L ts H', Same H H' → H L = none → PsAt n H' L ts (pas n z) → Q (.ref L) H')
theorem fz_snoc (n : Net) (z : Str) (l : List (Nat × Nt.End)) (p : Nat × Nt.End) : fz n z (l ++ [p]) = fz n z l ++ (if tnm n p.2 = z then [p] else []) := by
 unfold fz
 rw [List.filter_append, List.filter_cons]
 by_cases h : tnm n p.2 = z
 ·rw [if_pos (decide_eq_true h), if_pos h]
  rfl
 ·rw [if_neg (fun q => h (of_decide_eq_true q)), if_neg h]
  rfl
section
variable {P : Program} {w : World} {K : PySem.W.Frag} {mg : Str → Option Value} {base : Heap}
noncomputable abbrev NPa : List Str := ["rows", "tie", "names", "walkers"]
noncomputable abbrev NPa' : List Str := ["rows", "tie", "names", "walkers", "turn", "number", "walker", "end"]
theorem scPa : FnScope NPa ["rows", "tie"] (defScope s_passes_of) := ⟨rfl, rfl, rfl, by decide +kernel, rfl, by decide +kernel, by decide +kernel⟩
theorem nd_pa' : NPa'.Nodup := by decide +kernel
theorem ok_pas {f : Addr} {fd : FuncData} {c : Str → Addr} (F : Fun K "passes_of" "passes_of" s_passes_of f fd) (T : Txt mg) (cl : Cl K mg c) (GN : HasX P w K mg base 4 "need_tie" ["rows", "tie"] (spNeed c)) (GB : Has P w K mg base 4 "ties_by_end" ["rows"] spBE) (GW : Has P w K mg base 4 "walkers_of" ["rows"] spWks) :
  FnOk P w K mg base (XF P w) 5 f fd ["rows", "tie"] (spPas c) := by
 refine F.gx scPa (fun vs H Q E h => ?_) (fun b0 H vs Q hr h => ?_)
 ·obtain ⟨R, as, n, z, rfl, _⟩ := h
  rfl
 obtain ⟨R, as, n, z, rfl, hR, hN, hT, hn, hti, qE, qQ⟩ := h
 have nd := scPa.nd
 have hu := hr.u1
 have few : Few n := fun zs h1 h2 => by have := nodup_le h1 h2; omega
 have hel := ends_len n
 show Run _ _ _ [some (.ref R), some (.str z), none, none] H
 refine run_expr (ev_hasX GN hr passX (ea_cons (ev_v 0 (ea_cons (ev_v 1 (ea_nil ⟨R, as, n, z, rfl, hR, by omega, by omega, few, fun hz => qE hz, fun hz H1 s1 => ?_⟩))))))
 refine run_set 2 nd (ev_has GB hr (ea_cons (ev_v 0 (ea_nil ⟨R, as, n, rfl, hR.same s1, hN, by omega, by omega, fun d kvs H2 s2 n2 e2 val2 => ?_⟩))))
 refine run_set 3 nd (ev_has GW hr (ea_cons (ev_v 0 (ea_nil ⟨R, as, n, rfl, hR.same (s1.trans s2), hN, hT, by omega, by omega, fun W ls H3 s3 n3 hW fW => ?_⟩))))
 have ed3 := s3 _ _ e2
 have s13 := s1.trans (s2.trans s3)
 have wl : (wsA n).length ≤ (ends n).length := wks_len n (ends n) []
 have allW := wks_ok hT (ends n) [] fun e he => he
 have hWl := hW.len
 show Run _ _ _ [some (.ref R), some (.str z), some (.ref d), some (.ref W)] H3
 refine run_ret (ev_comp3 (defScope s_passes_of) NPa NPa' 4 (pi_tup pe_ev) (ev_tup (ea_cons (ev_int (ea_cons (ev_int (ea_nil ⟨(by show 2 ≤ sizeLine; decide), fun tp htp => ⟨tp, rfl, ⟨_, SqT.of upd_same⟩, fun D hD cl' C' s₀ H₀ ex => ?_⟩⟩)))))))
 have s4 := same_new htp (.tup [.int 0, .int 1])
 have etp : (upd H3 tp (.tup [.int 0, .int 1])) tp = some (.tup [.int 0, .int 1]) := upd_same
 have hW4 := hW.same s4
 have ed4 := s4 _ _ ed3
 have s14 := s13.trans s4
 generalize upd H3 tp (.tup [.int 0, .int 1]) = H4 at s4 etp hW4 ed4 s14 hD
 have hD0 := free_back s14 hD
 have sD := same_new hD (.lst [])
 refine clause_tupP (xs := [.int 0, .int 1]) (fun t σ' H' => (∃ v1 v2 v3 v4, σ' = [some (.ref R), some (.str z), some (.ref d), some (.ref W)] ++ [v1, v2, v3, v4]) ∧ Same H4 H' ∧ ∃ ts, ts.length ≤ 10000 * t ∧ PsAt n H' D ts (if t = 0 then [] else if t = 1 then fz n z (trn 0 (wsA n)) else pas n z)) ⟨⟨none, none, none, none, rfl⟩, sD, [], Nat.zero_le _, upd_same, rfl, fun i t p h => by simp at h⟩ ?_ ?_ ?_
 ·rintro t σ' H' _ ⟨_, sm, _⟩
  exact SqT.of (sm _ _ etp)
 ·rintro t x σ' H' hx ⟨⟨v1, v2, v3, v4, rfl⟩, sm, ts, lts, hP⟩
  have ht : t < 2 := (List.getElem?_eq_some_iff.mp hx).1
  obtain rfl : x = .int (t : Int) := by
   match t, ht with
   | 0, _ => cases hx; rfl
   | 1, _ => cases hx; rfl
  refine eg_name 4 nd_pa' ?_
  refine ei_nil (iteT ?_)
  refine ein_at clause31 rfl rfl (pi_enum rfl T.enum pa_ea) (ea_cons (ev_v 3 (ea_nil ⟨W, rfl, ⟨_, SqL.of (sm _ _ hW4.lst)⟩, ?_⟩)))
  generalize hps : (if t = 0 then [] else if t = 1 then fz n z (trn 0 (wsA n)) else pas n z) = ps0 at hP
  have hfin : (if t + 1 = 0 then [] else if t + 1 = 1 then fz n z (trn 0 (wsA n)) else pas n z) = ps0 ++ fz n z (trn t (wsA n)) := by
   rcases (show t = 0 ∨ t = 1 by omega) with q | q
   ·rw [← hps, q]
    rfl
   ·rw [← hps, q]
    rfl
  rw [hfin]
  refine clause_enumP (xs := ls.map V.ref) (fun i σ' H'' => (∃ v2 v3 v4, σ' = [some (.ref R), some (.str z), some (.ref d), some (.ref W)] ++ [some (.int (t : Int)), v2, v3, v4]) ∧ Same H4 H'' ∧ ∃ ts, ts.length ≤ 10000 * t + 130 * i ∧ PsAt n H'' D ts (ps0 ++ fz n z (trn t ((wsA n).take i)))) ⟨⟨_, _, _, rfl⟩, sm, ts, by omega, by
    rw [List.take_zero]
    show PsAt n H' D ts (ps0 ++ [])
    rw [List.append_nil]
    exact hP⟩ ?_ ?_ ?_
  ·rintro i σ' H'' _ ⟨_, sm, _⟩
   exact SqL.of (sm _ _ hW4.lst)
  ·rintro i x Tq σ' H'' hx ⟨⟨v2, v3, v4, rfl⟩, sm, ts, lts, hP⟩ hTq
   rw [List.getElem?_map, Option.map_eq_some_iff] at hx
   obtain ⟨l, hl, rfl⟩ := hx
   have hil : i < (wsA n).length := by have := (List.getElem?_eq_some_iff.mp hl).1; rw [← hWl]; exact this
   have hwi := List.getElem?_eq_getElem hil
   have etk : (wsA n).take (i + 1) = (wsA n).take i ++ [(wsA n)[i]] := by rw [List.take_add_one, hwi]; rfl
   obtain ⟨us, elw, hE⟩ := (hW4.same sm).at' i l _ hl hwi
   have wk := allW _ (List.mem_of_getElem? hwi)
   generalize (wsA n)[i] = es at etk hE wk
   have sq := same_new hTq (.tup [.int (i : Int), .ref l])
   have elen := hE.1
   have efew := wk.few
   have ilen : ((wsA n).take i).length = i := by rw [List.length_take]; omega
   refine eg_pair rfl (SqT.of upd_same) (eg_name 5 nd_pa' (eg_name 6 nd_pa' ?_))
   refine ei_nil (iteT ?_)
   have elq := sq _ _ elw
   refine ein_at clause32 rfl rfl (pi_list pe_ev) (ev_from2 (ev_v 6 ⟨l, _, rfl, SqL.of elq, ev_v 4 ⟨t, rfl, by omega, SqL.of elq, fun pl hpl => ⟨pl, rfl, ⟨_, SqL.of upd_same⟩, ?_⟩⟩⟩))
   rw [← List.map_drop, evens_map]
   have hE2 : AtE n H'' (L2.evens (us.drop t)) (prt t es) := AtE.evens ⟨by rw [List.length_drop, List.length_drop, elen], fun j a b h1 h2 => by rw [List.getElem?_drop] at h1 h2; exact hE.2 _ a b h1 h2⟩
   have hw2 : ∀ e ∈ prt t es, e ∈ ends n := fun e he => by
    obtain ⟨m, hm⟩ := List.getElem?_of_mem he
    unfold prt at hm
    rw [evens_at, List.getElem?_drop] at hm
    exact wk.ends e (List.mem_of_getElem? hm)
   have lpr : (prt t es).length ≤ es.length := by unfold prt; exact Nat.le_trans (evens_le _) (by rw [List.length_drop]; omega)
   have sp := same_new hpl (.lst ((L2.evens (us.drop t)).map V.ref))
   have sqp := sq.trans sp
   have epl : (upd (upd H'' Tq (.tup [.int (i : Int), .ref l])) pl (.lst ((L2.evens (us.drop t)).map V.ref))) pl = some (.lst ((L2.evens (us.drop t)).map V.ref)) := upd_same
   have hE3 := hE2.same sqp
   have hP3 := hP.same sqp
   have sm3 := sm.trans sqp
   generalize upd (upd H'' Tq (.tup [.int (i : Int), .ref l])) pl (.lst ((L2.evens (us.drop t)).map V.ref)) = H5 at sqp epl hE3 hP3 sm3
   have nplD : pl ≠ D := fun e => by rw [e] at hpl; rw [sq _ _ hP.1] at hpl; cases hpl
   have bnd : ∀ (m : Nat) (l : List (Nat × Nt.End)), (fz n z l).length ≤ l.length := fun m l => List.length_filter_le ..
   refine clause_listP (xs := (L2.evens (us.drop t)).map V.ref) (fun m σ' H6 => (∃ v4, σ' = [some (.ref R), some (.str z), some (.ref d), some (.ref W)] ++ [some (.int (t : Int)), some (.int (i : Int)), some (.ref l), v4]) ∧ (∀ b o, b ≠ D → H5 b = some o → H6 b = some o) ∧ ∃ ts, ts.length ≤ 10000 * t + 130 * i + m ∧ PsAt n H6 D ts (ps0 ++ fz n z (trn t ((wsA n).take i) ++ ((prt t es).take m).map fun e => (i, e)))) ⟨⟨_, rfl⟩, fun b o _ h => h, ts, by omega, by
     show PsAt n H5 D ts (ps0 ++ fz n z (_ ++ []))
     rw [List.append_nil]
     exact hP3⟩ ?_ ?_ ?_
   ·rintro m σ' H6 _ ⟨_, kb, _⟩
    exact SqL.of (kb _ _ nplD epl)
   ·rintro m x σ' H6 hx ⟨⟨v4, rfl⟩, kb, ts, lts, hP⟩
    rw [List.getElem?_map, Option.map_eq_some_iff] at hx
    obtain ⟨te, hte, rfl⟩ := hx
    have l3 := hE3.1
    have hm : m < (prt t es).length := by have := (List.getElem?_eq_some_iff.mp hte).1; omega
    have hpm := List.getElem?_eq_getElem hm
    have etm : ((prt t es).take (m + 1)).map (fun e => (i, e)) = ((prt t es).take m).map (fun e => (i, e)) ++ [(i, (prt t es)[m])] := by rw [List.take_add_one, hpm, List.map_append]; rfl
    have hE5 := hE3.2 m te _ hte hpm
    have hen := hw2 _ (List.mem_of_getElem? hpm)
    generalize (prt t es)[m] = e at etm hE5 hen
    have hte6 := kb _ _ (ne_of hE5 hP3.1 fun z => nomatch z) hE5
    have ed6 : H6 d = some (.dT kvs) := kb _ _ (ne_of (sm3 _ _ ed4) hP3.1 fun z => nomatch z) (sm3 _ _ ed4)
    obtain ⟨y, hy⟩ := mem_ends.mp hen
    have hdg : DGet H6 d (.ref te) (some (.str y)) := by rw [← val2 e y hy]; exact DGet.t (k := key n e) ed6 hte6
    refine eg_name 7 nd_pa' ?_
    refine ei_one (et_cmp op_eq (ev_dget hu (ev_v 2 (ev_v 7 ⟨d, .str y, rfl, hdg, ev_v 1 ⟨rfl, _, rfl, ?_⟩⟩))))
    have ek : decide (V.str y = V.str z) = decide (tnm n e = z) := by rw [tnm_eq hy]; exact decide_eq_decide.mpr ⟨fun k => V.str.inj k, fun k => by rw [k]⟩
    show if decide (V.str y = V.str z) = true then _ else _
    rw [ek, etm, ← List.append_assoc, fz_snoc]
    by_cases c1 : tnm n e = z
    ·rw [decide_eq_true c1, if_pos c1, ← List.append_assoc]
     refine iteT (ein_emit (ev_tup (ea_cons (ev_v 5 (ea_cons (ev_v 7 (ea_nil ⟨(by show 2 ≤ sizeLine; decide), fun tt htt => ?_⟩)))))))
     have st := same_new htt (.tup [.int (i : Int), .ref te])
     have hP7 := hP.same st
     have small7 : ts.length ≤ 100000 := by omega
     refine ⟨_, hP7.1, by rw [List.length_map]; exact small' small7, ⟨_, rfl⟩, fun b o hb h => by rw [upd_ne hb]; exact st _ _ (kb b o hb h), ts ++ [tt], by rw [List.length_append]; show ts.length + 1 ≤ _; omega, hP7.snoc (p := (i, e)) upd_same (st _ _ hte6)⟩
    ·rw [decide_eq_false c1, if_neg c1, List.append_nil]
     exact iteF ⟨⟨_, rfl⟩, kb, ts, by omega, hP⟩
   ·rintro σ' H6 ⟨⟨v4, rfl⟩, kb, ts, lts, hP⟩
    have l3 := hE3.1
    rw [List.length_map, l3, List.take_length] at hP
    rw [List.length_map, l3] at lts
    refine ⟨⟨_, _, _, rfl⟩, fun b o h => kb b o (ne_of_none h hD) (sm3 _ _ h), ts, by omega, ?_⟩
    rw [etk, trn_snoc, ilen]
    exact hP
  ·rintro σ' H'' ⟨⟨v2, v3, v4, rfl⟩, sm, ts, lts, hP⟩
   rw [List.length_map, hWl] at lts
   have lts : ts.length ≤ 10000 * t + 130 * (wsA n).length := lts
   rw [List.length_map, show (wsA n).take ls.length = wsA n from List.take_of_length_le (by rw [hWl]; exact Nat.le_refl _)] at hP
   exact ⟨⟨_, _, _, _, rfl⟩, sm, ts, by omega, hP⟩
 ·rintro σ' H' ⟨_, sm, ts, _, hP⟩
  exact qQ hz D ts H' (s14.trans sm) hD0 hP
end
end P3
namespace Nt
open PySem L2
end Nt
namespace Nt
open PySem L2
section
variable {n : Net} {z : Str} {r k : Nat}
end
theorem put_new {kvs : List (Key × V)} {k : Key} {v : V} (h : k ∉ kvs.map (·.1)) : putK kvs k v = kvs ++ [(k, v)] := by
 unfold putK
 rw [if_neg]
 intro q
 rw [List.any_eq_true] at q
 obtain ⟨x, hx, e⟩ := q
 exact h (List.mem_map.mpr ⟨x, hx, of_decide_eq_true e⟩)
end Nt
namespace PySem
section
variable {prog : Program} {w : World} {K : Type} [DecidableEq K] {knd : HeapKind prog w K} {A : Around} {E : Value → Shared → Prop} {s : Shared}
end
end PySem
namespace L2
open PySem PySem.Spec PyProof.Rows
end L2
namespace L2
open PySem PySem.Spec PyProof.Rows
section
variable {X : Cx} {σ : St} {H : Hp} {Q : VK} {o e : Expr} {pos : Pos}
noncomputable def eqR (c : Addr → Bool) (u : Value) : Bool := match u with
 | .ref a => c a
 | _ => false
theorem any_eqR {c : Addr → Bool} : ∀ {as : List Addr} {us : List Value}, Vals (as.map V.ref) us → us.any (eqR c) = as.any c
 | [], [], .nil => rfl
 | a :: as, u :: us, .cons r t => by
  cases (show u = Value.ref a from r)
  rw [List.any_cons, List.any_cons, any_eqR t]
  rfl
theorem mem_eqR {k : Nat} {x : V} {c : Addr → Bool} {pins : List (Addr × Obj)} {s : Shared} {A : Around} {v : Value} (I : Inv X pins σ H s) (hA : A.units + k < cLine) (rx : RelV x v) :
  ∀ {as : List Addr} {us : List Value}, Vals (as.map V.ref) us → (∀ a ∈ as, EqD X H k (.ref a) x (c a)) → ∀ u ∈ us, SeqAt.EqAt A s u v (eqR c u)
 | [], [], .nil, _ => fun u hu => by cases hu
 | a :: as, u :: us, .cons r t, h => fun u' hu => by
  rcases List.mem_cons.mp hu with rfl | hu
  ·cases (show u' = Value.ref a from r)
   exact h a (List.mem_cons_self ..) pins σ s A _ _ I hA r rx
  ·exact mem_eqR I hA rx t (fun b hb => h b (List.mem_cons_of_mem _ hb)) u' hu
theorem op_inD (hu : X.A.units + 100 < cLine) : OpR X (compareOp .In) (fun x y H Q => ∃ (p : Addr) (as : List Addr) (k : Nat) (c : Addr → Bool), y = .ref p ∧ SqL X.K H p (as.map V.ref) ∧ k < 99 ∧ (∀ a ∈ as, EqD X H k (.ref a) x (c a)) ∧ Q (.bl (as.any c)) H) := by
 intro pins s σ H x y v u Q I rx ry h
 obtain ⟨p, as, k, c, rfl, hq, hk, he, q⟩ := h
 cases ry
 obtain ⟨its, r, pl, hz⟩ := I.list hq
 refine SeqAt.in_listAt (eqR c) pl.isList (fun w hw => mem_eqR I (by show X.A.units + 1 + k < cLine; omega) rx r he w (by simpa using hw)) ⟨.bl _, H, I, rfl, ?_⟩
 rw [show its.toArray.any (eqR c) = its.any (eqR c) by simp, any_eqR r]
 exact q
theorem op_notinD (hu : X.A.units + 100 < cLine) : OpR X (compareOp .NotIn) (fun x y H Q => ∃ (p : Addr) (as : List Addr) (k : Nat) (c : Addr → Bool), y = .ref p ∧ SqL X.K H p (as.map V.ref) ∧ k < 99 ∧ (∀ a ∈ as, EqD X H k (.ref a) x (c a)) ∧ Q (.bl (!(as.any c))) H) := by
 intro pins s σ H x y v u Q I rx ry h
 obtain ⟨p, as, k, c, rfl, hq, hk, he, q⟩ := h
 cases ry
 obtain ⟨its, r, pl, hz⟩ := I.list hq
 refine SeqAt.notIn_listAt (eqR c) pl.isList (fun w hw => mem_eqR I (by show X.A.units + 1 + k < cLine; omega) rx r he w (by simpa using hw)) ⟨.bl _, H, I, rfl, ?_⟩
 rw [show its.toArray.any (eqR c) = its.any (eqR c) by simp, any_eqR r]
 exact q
end
end L2
namespace P3
open PySem L2 Nt Sort2 SetT
open PyProof.Rows (sortedS)
open Classical
theorem pos_tie {n : Net} (T : Twice n) {z : Str} (h : z ∈ ties n) : ∃ x, tieAt n x = some z ∧ tieAt n (other n x) = some z ∧ pos n z = [x, other n x] := by
 rw [ties_pos] at h
 obtain ⟨e, he⟩ := List.exists_mem_of_ne_nil _ h
 obtain ⟨a, b, hp, hab, _⟩ := pos_two T (mem_pos.mp he)
 have ha : tieAt n a = some z := mem_pos.mp (by rw [hp]; exact List.mem_cons_self ..)
 have hb : tieAt n b = some z := mem_pos.mp (by rw [hp]; simp)
 have e : b = other n a := by
  rcases (tie_two T ha).mp hb with q | q
  ·exact absurd q.symm hab
  ·exact q
 subst e
 exact ⟨a, ha, hb, hp⟩
noncomputable def spNamed : Sp := fun vs H Q _ => ∃ (R l t u : Addr) (as : List (Addr × Addr)) (n : Net) (e g : Nt.End), vs = [.ref R, .ref l] ∧ RowsAt H R as n ∧ H l = some (.lst [.ref t, .ref u]) ∧ H t = some (Tp e) ∧ H u = some (Tp g) ∧ e.1 < n.length ∧ g.1 < n.length ∧
 ∀ L a b H', Same H H' → H' L = some (.lst [.ref a, .ref b]) → H' a = some (TN n e) → H' b = some (TN n g) → Q (.ref L) H'
noncomputable def DctAt (n : Net) (H : Hp) (d : Addr) (L : List (Nat × Nt.End)) : Prop := ∃ kvs : List (Key × V), H d = some (.dK kvs) ∧ kvs.map (·.1) = L.map (fun p => Sum.inr (tnm n p.2)) ∧ ∀ p ∈ L, ∃ t u, valV kvs (Sum.inr (tnm n p.2)) = some (.ref t) ∧ H t = some (.tup [.int (p.1 : Int), .ref u]) ∧ H u = some (TN n p.2)
theorem DctAt.keep {n : Net} {H H' : Hp} {d : Addr} {L : List (Nat × Nt.End)} (h : DctAt n H d L) (hd : H' d = H d) (k : ∀ b xs, H b = some (.tup xs) → H' b = some (.tup xs)) : DctAt n H' d L := by
 obtain ⟨kvs, h1, h2, h3⟩ := h
 exact ⟨kvs, by rw [hd]; exact h1, h2, fun p hp => let ⟨t, u, a, b, c⟩ := h3 p hp; ⟨t, u, a, k _ _ b, k _ _ c⟩⟩
theorem DctAt.same {n : Net} {H H' : Hp} {d : Addr} {L : List (Nat × Nt.End)} (h : DctAt n H d L) (s : Same H H') : DctAt n H' d L := by
 obtain ⟨kvs, h1, h2, h3⟩ := h
 exact ⟨kvs, s _ _ h1, h2, fun p hp => let ⟨t, u, a, b, c⟩ := h3 p hp; ⟨t, u, a, s _ _ b, s _ _ c⟩⟩
theorem DctAt.put {n : Net} {H : Hp} {d t u : Addr} {L : List (Nat × Nt.End)} {p : Nat × Nt.End} (h : DctAt n H d L) (hn : tnm n p.2 ∉ L.map fun p => tnm n p.2) (ht : H t = some (.tup [.int (p.1 : Int), .ref u])) (hu : H u = some (TN n p.2)) :
  ∀ kvs, H d = some (.dK kvs) → DctAt n (upd H d (.dK (putK kvs (Sum.inr (tnm n p.2)) (.ref t)))) d (L ++ [p]) := fun kvs hk => by
 obtain ⟨kvs', h1, h2, h3⟩ := h
 rw [hk] at h1
 cases h1
 have nk : Sum.inr (tnm n p.2) ∉ kvs.map (·.1) := fun q => by
  rw [h2] at q
  obtain ⟨x, hx, e⟩ := List.mem_map.mp q
  exact hn (by rw [← Sum.inr.inj e]; exact List.mem_map.mpr ⟨x, hx, rfl⟩)
 have kk : ∀ b xs, H b = some (.tup xs) → (upd H d (.dK (putK kvs (Sum.inr (tnm n p.2)) (.ref t)))) b = some (.tup xs) := fun b xs q => by rw [upd_ne (ne_of q hk fun z => nomatch z)]; exact q
 refine ⟨_, upd_same, by rw [put_new nk, List.map_append, List.map_append, h2]; rfl, fun x hx => ?_⟩
 rcases List.mem_append.mp hx with q | q
 ·obtain ⟨t', u', a, b, c⟩ := h3 x q
  refine ⟨t', u', ?_, kk _ _ b, kk _ _ c⟩
  rw [valV_put, if_neg (fun e => hn (by rw [← Sum.inr.inj e]; exact List.mem_map.mpr ⟨x, q, rfl⟩))]
  exact a
 ·rw [List.mem_singleton.mp q]
  exact ⟨t, u, by rw [valV_put, if_pos rfl], kk _ _ ht, kk _ _ hu⟩
theorem DctAt.has {n : Net} {H : Hp} {d : Addr} {L : List (Nat × Nt.End)} (h : DctAt n H d L) (z : Str) : ∃ r, DGet H d (.str z) r ∧ r.isSome = decide (z ∈ L.map fun p => tnm n p.2) := by
 obtain ⟨kvs, h1, h2, h3⟩ := h
 refine ⟨valV kvs (Sum.inr z), DGet.k (k := Sum.inr z) h1, ?_⟩
 by_cases q : z ∈ L.map fun p => tnm n p.2
 ·obtain ⟨p, hp, rfl⟩ := List.mem_map.mp q
  obtain ⟨t, u, a, _⟩ := h3 p hp
  rw [a, decide_eq_true q]
  rfl
 ·rw [decide_eq_false q]
  cases e : valV kvs (Sum.inr z) with
  | none => rfl
  | some v =>
   have := valV_in e
   rw [h2] at this
   obtain ⟨p, hp, e⟩ := List.mem_map.mp this
   exact absurd (List.mem_map.mpr ⟨p, hp, Sum.inr.inj e⟩) q
theorem pos_head {n : Net} (T : Twice n) {e : Nt.End} {z : Str} (he : tieAt n e = some z) {l r : List Nt.End} (h : ends n = l ++ e :: r) (hl : ∀ x ∈ l, tnm n x ≠ z) : pos n z = [e, other n e] := by
 obtain ⟨x, h1, h2, hp⟩ := pos_tie T (tie_mem he)
 rcases (tie_two T h1).mp he with q | q
 ·rw [hp, q]
 ·exfalso
  have hx : x ∈ ends n := mem_ends.mpr ⟨z, h1⟩
  have hsub : (pos n z).Sublist (ends n) := by
   unfold pos ends
   exact List.Sublist.map _ List.filter_sublist
  rw [hp, h, ← q] at hsub
  have hxl : x ∈ l := by
   have nde := ends_nodup n
   rw [h] at nde
   have ne : x ≠ e := fun k => (other_spec T h1).2.2 (by rw [← q, k])
   have hm : x ∈ l ++ e :: r := by rw [← h]; exact hx
   rcases List.mem_append.mp hm with k | k
   ·exact k
   ·rcases List.mem_cons.mp k with k | k
    ·exact absurd k ne
    ·exfalso
     obtain ⟨r1, r2, rfl⟩ := List.append_of_mem k
     have e1 : l ++ e :: (r1 ++ x :: r2) = (l ++ e :: r1) ++ x :: r2 := by simp
     rw [e1] at hsub nde
     have hnx : x ∉ l ++ e :: r1 := fun k => (List.nodup_append.mp nde).2.2 _ k _ (List.mem_cons_self ..) rfl
     have hs2 : [x, e].Sublist (x :: r2) := by
      obtain ⟨a, b, hab, ha, hb⟩ := List.sublist_append_iff.mp hsub
      cases a with
      | nil => rw [List.nil_append] at hab; rw [hab]; exact hb
      | cons y a =>
       rw [List.cons_append] at hab
       injection hab with e2 _
       exact absurd (ha.subset (by rw [e2]; exact List.mem_cons_self ..)) hnx
     have he2 : e ∈ r2 := by
      have := List.cons_sublist_cons.mp hs2
      exact List.singleton_sublist.mp this
     exact (List.nodup_append.mp nde).2.2 e (by simp) e (List.mem_cons_of_mem _ he2) rfl
  exact hl x hxl (tnm_eq h1)
theorem trn_subl {n : Net} {k i m : Nat} {w : List Nt.End} (hw : (wsA n)[i]? = some w) : (trn k ((wsA n).take i ++ [w.take m])).Sublist (trn k (wsA n)) := by
 have hi := (List.getElem?_eq_some_iff.mp hw).1
 have e : wsA n = ((wsA n).take i ++ [w]) ++ (wsA n).drop (i + 1) := by
  have h1 : (wsA n).take i ++ [w] = (wsA n).take (i + 1) := by rw [List.take_add_one, hw]; rfl
  rw [h1, List.take_append_drop]
 have e2 : trn k (wsA n) = trn k ((wsA n).take i ++ [w]) ++ trnF k (0 + ((wsA n).take i ++ [w]).length) ((wsA n).drop (i + 1)) := by
  conv => lhs; rw [e]
  exact trnF_app k 0 _ _
 rw [e2, trn_snoc, trn_snoc, List.append_assoc]
 refine List.Sublist.append_left ?_ _
 refine List.Sublist.trans ?_ (List.sublist_append_left _ _)
 refine List.Sublist.map _ ?_
 have pre : prt k (w.take m) <+: prt k w := by
  refine List.prefix_iff_getElem?.mpr fun j hj => ?_
  unfold prt at hj ⊢
  rw [evens_at, List.getElem?_drop]
  have h2 : (evens ((w.take m).drop k))[j]? = some (evens ((w.take m).drop k))[j] := List.getElem?_eq_getElem hj
  rw [← h2, evens_at, List.getElem?_drop, List.getElem?_take, if_pos]
  rw [evens_len, List.length_drop, List.length_take] at hj
  omega
 exact pre.sublist
theorem trn_pre {n : Net} (T : Twice n) {k i m : Nat} (hk : k ≤ 1) {w : List Nt.End} (hw : (wsA n)[i]? = some w) : ((trn k ((wsA n).take i ++ [w.take m])).map fun p => tnm n p.2).Nodup := List.Sublist.nodup (List.Sublist.map _ (trn_subl hw)) (trn_nodup T hk)
theorem trn_len {n : Net} (T : Twice n) {k : Nat} (hk : k ≤ 1) : (trn k (wsA n)).length ≤ (ties n).length := by
 have := nodup_le (trn_nodup T hk) fun z hz => (trn_all T hk).mp hz
 rw [List.length_map] at this
 exact this
section
variable {P : Program} {w : World} {K : PySem.W.Frag} {mg : Str → Option Value} {base : Heap}
noncomputable abbrev NNm : List Str := ["_law_rows", "_law_ends"]
noncomputable abbrev NNm2 : List Str := ["_law_rows", "_law_ends", "_law_end"]
theorem scNm : FnScope NNm ["_law_rows", "_law_ends"] (defScope s_l_named) := ⟨rfl, rfl, rfl, by decide +kernel, rfl, by decide +kernel, by decide +kernel⟩
theorem nd_nm2 : NNm2.Nodup := by decide +kernel
theorem ok_named {f : Addr} {fd : FuncData} (F : Fun K "_law_named" "_law_named" s_l_named f fd) (T : Txt mg) : FnOk P w K mg base CX0 1 f fd ["_law_rows", "_law_ends"] spNamed := by
 refine F.gb scNm (fun vs H Q E h => ?_) (fun b0 H vs Q E hr h => ?_)
 ·obtain ⟨R, l, t, u, as, n, e, g, rfl, _⟩ := h
  rfl
 obtain ⟨R, l, t, u, as, n, e, g, rfl, hR, hl, ht, hg, he, hgn, q⟩ := h
 show Run _ _ _ [some (.ref R), some (.ref l)] H
 refine run_ret (ev_comp (defScope s_l_named) NNm NNm2 1 (pi_list pe_ev) (ev_v 1 ⟨l, rfl, ⟨_, SqL.of hl⟩, fun D hD => ?_⟩))
 refine comp_listP (xs := [.ref t, .ref u]) (fun i σ' H' => (∃ v, σ' = [some (.ref R), some (.ref l)] ++ [v]) ∧ Same H H' ∧ ∃ us : List Addr, us.length = i ∧ H' D = some (.lst (us.map V.ref)) ∧ AtE n H' us ([e, g].take i)) ⟨⟨none, rfl⟩, same_new hD _, [], rfl, upd_same, rfl, fun j a b h => by simp at h⟩ ?_ ?_ ?_
 ·rintro i σ' H' _ ⟨_, sm, _⟩
  exact SqL.of (sm _ _ hl)
 ·rintro i x σ' H' hx ⟨⟨v, rfl⟩, sm, us, hus, hD1, hat⟩
  have hi : i < 2 := (List.getElem?_eq_some_iff.mp hx).1
  obtain ⟨t', c, rfl, hc, ht', hcn⟩ : ∃ t' c, x = .ref t' ∧ [e, g][i]? = some c ∧ H' t' = some (Tp c) ∧ c.1 < n.length := by
   match i, hi with
   | 0, _ => cases hx; exact ⟨t, e, rfl, rfl, sm _ _ ht, he⟩
   | 1, _ => cases hx; exact ⟨u, g, rfl, rfl, sm _ _ hg, hgn⟩
  obtain ⟨a, ea, eat, et, el, er⟩ := (hR.same sm).at hcn
  intro cl C' s₀ H₀ ex
  refine eg_name 2 nd_nm2 ?_
  intro cl C' s₀ H₀ ex
  refine ei_nil ?_
  rw [if_pos rfl]
  intro cl C' s₀ H₀ ex
  refine ev_tup (ea_cons (ev_ix ix_tup (ev_ix ix_list (ev_v 0 (ev_ix ix_tup (ev_v 2 (ev_int ⟨t', _, _, .int (c.1 : Int), rfl, rfl, SqT.of ht', rfl, R, _, _, .ref a.1, rfl, rfl, SqL.of (sm _ _ hR.lst), eat, ev_int ⟨a.1, _, _, .str n[c.1].1, rfl, rfl, SqT.of et, rfl, ?_⟩⟩)))))))
  refine ea_cons (ev_ix ix_tup (ev_v 2 (ev_int ⟨t', _, _, .int (c.2 : Int), rfl, rfl, SqT.of ht', rfl, ea_nil ⟨(by show 2 ≤ sizeLine; decide), fun p hp => ?_⟩⟩)))
  have su := same_new hp (.tup [.str n[c.1].1, .int (c.2 : Int)])
  have npD : p ≠ D := fun q => by rw [q, hD1] at hp; cases hp
  have ept : (upd (upd H' p (.tup [.str n[c.1].1, .int (c.2 : Int)])) D (.lst (us.map V.ref ++ [.ref p]))) p = some (TN n c) := by
   rw [upd_ne npD, upd_same]
   unfold TN
   rw [nameAt_eq hcn]
  refine ⟨us.map V.ref, su _ _ hD1, by rw [List.length_map]; exact small' (by omega), ⟨_, rfl⟩, same_mut (sm.trans su) hD, us ++ [p], by rw [List.length_append, hus]; rfl, by rw [upd_same, List.map_append]; rfl, ?_⟩
  have etk : [e, g].take (i + 1) = [e, g].take i ++ [c] := by rw [List.take_add_one, hc]; rfl
  rw [etk]
  refine (hat.keep fun t p' j h => ?_).append ⟨rfl, fun j x y h1 h2 => ?_⟩
  ·rw [upd_ne (ne_of (su _ _ h) (su _ _ hD1) fun z => nomatch z)]
   exact su _ _ h
  ·match j with
   | 0 => cases h1; cases h2; exact ept
   | j + 1 => simp at h1
 ·rintro σ' H' ⟨_, sm, us, hus, hD1, hat⟩
  match us, hus with
  | [a, b], _ => exact q D a b H' sm hD1 (hat.2 0 a e rfl rfl) (hat.2 1 b g rfl rfl)
end
end P3
namespace P3
open PySem L2 Nt Sort2 SetT
open PyProof.Rows (sortedS)
open Classical
theorem eqD_tn {X : Cx} {H : Hp} {a t : Addr} {p p' : Str} {j j' : Int} (ha : H a = some (Tn p' j')) (ht : H t = some (Tn p j)) : EqD X H 1 (.ref a) (.ref t) (decide (H a = some (Tn p j))) := by
 by_cases e : a = t
 ·subst e
  rw [decide_eq_true ht]
  exact eqD_same
 ·have q := eqD_of e (rcD_tn (X := X) ha ht)
  have e2 : decide (p' = p ∧ j' = j) = decide (H a = some (Tn p j)) := by
   refine decide_eq_decide.mpr ⟨fun k => by rw [ha, k.1, k.2], fun k => ?_⟩
   rw [ha] at k
   cases k
   exact ⟨rfl, rfl⟩
  rw [e2] at q
  exact q
noncomputable def ToAt (n : Net) (H : Hp) (L : Addr) (ts : List Addr) (ss : List Str) : Prop := H L = some (.lst (ts.map V.ref)) ∧ ts.length = ss.length ∧ ∀ (i : Nat) t z, ts[i]? = some t → ss[i]? = some z → ∃ l qs, H t = some (.tup [.str z, .ref l]) ∧ PsAt n H l qs (pas n z)
noncomputable def spTold : Sp := fun vs H Q _ => ∃ (R ds W : Addr) (as : List (Addr × Addr)) (n : Net) (ks : List Str) (ls : List Addr), vs = [.ref R, .ref ds, .ref W] ∧ RowsAt H R as n ∧ (n.map (·.1)).Nodup ∧ Twice n ∧ n.length ≤ 60 ∧ (ties n).length ≤ 60 ∧ SeatsAt H ds n ks ∧ WAt n H W ls (wsA n) ∧
 ∀ L ts ss H', Same H H' → H L = none → ToAt n H' L ts ss → (∀ z ∈ ss, z ∈ ties n) → Q (.ref L) H'
section
variable {P : Program} {w : World} {K : PySem.W.Frag} {mg : Str → Option Value} {base : Heap}
noncomputable abbrev NTo : List Str := ["_law_rows", "_law_seats_here", "_law_walkers", "_law_left", "_law_right", "_law_number", "_law_free", "_law_r", "_law_tie", "_law_k", "_law_end", "_law_seen"]
noncomputable abbrev NTo1 : List Str := ["_law_rows", "_law_seats_here", "_law_walkers", "_law_left", "_law_right", "_law_number", "_law_free", "_law_r", "_law_tie", "_law_k", "_law_end", "_law_seen", "_law_row"]
noncomputable abbrev NTo2 : List Str := ["_law_rows", "_law_seats_here", "_law_walkers", "_law_left", "_law_right", "_law_number", "_law_free", "_law_r", "?", "_law_k", "_law_end", "_law_seen", "_law_tie"]
theorem scTo : FnScope NTo ["_law_rows", "_law_seats_here", "_law_walkers"] (defScope s_l_told) := ⟨rfl, rfl, rfl, by decide +kernel, rfl, by decide +kernel, by decide +kernel⟩
theorem nd_to1 : NTo1.Nodup := by decide +kernel
theorem nd_to2 : NTo2.Nodup := by decide +kernel
theorem ok_told {f : Addr} {fd : FuncData} (F : Fun K "_law_told" "_law_told" s_l_told f fd) (T : Txt mg) (GN : Has P w K mg base 1 "_law_named" ["_law_rows", "_law_ends"] spNamed) : FnOk P w K mg base CX0 2 f fd ["_law_rows", "_law_seats_here", "_law_walkers"] spTold := by
 refine F.gb scTo (fun vs H Q E h => ?_) (fun b0 H vs Q E hr h => ?_)
 ·obtain ⟨R, ds, W, as, n, ks, ls, rfl, _⟩ := h
  rfl
 obtain ⟨R, ds, W, as, n, ks, ls, rfl, hR, hN, hT, hn, hti, hS, hW, q⟩ := h
 have nd := scTo.nd
 have un := hr.u100
 have hu := hr.u1
 have hal := hR.len
 have hel := ends_len n
 have hWl := hW.len
 have wl : (wsA n).length ≤ (ends n).length := wks_len n (ends n) []
 have allW := wks_ok hT (ends n) [] fun e he => he
 obtain ⟨kvS, edS, ekS, evS⟩ := hS.dict
 show Run _ _ _ [some (.ref R), some (.ref ds), some (.ref W), none, none, none, none, none, none, none, none, none] H
 refine run_set 3 nd (ev_dnewK fun dl hdl => ?_)
 refine run_set 4 nd (ev_dnewK fun dr hdr => ?_)
 have ndl : dl ≠ dr := fun e => by rw [e, upd_same] at hdr; cases hdr
 have hdr0 : H dr = none := by rw [upd_ne (Ne.symm ndl)] at hdr; exact hdr
 have s01 : Same H (upd (upd H dl (.dK [])) dr (.dK [])) := (same_new hdl _).trans (same_new hdr _)
 have eL0 : DctAt n (upd (upd H dl (.dK [])) dr (.dK [])) dl [] := ⟨[], by rw [upd_ne ndl, upd_same], rfl, fun p hp => (nomatch hp)⟩
 have eR0 : DctAt n (upd (upd H dl (.dK [])) dr (.dK [])) dr [] := ⟨[], upd_same, rfl, fun p hp => (nomatch hp)⟩
 show Run _ _ _ [some (.ref R), some (.ref ds), some (.ref W), some (.ref dl), some (.ref dr), none, none, none, none, none, none, none] (upd (upd H dl (.dK [])) dr (.dK []))
 generalize upd (upd H dl (.dK [])) dr (.dK []) = H1 at s01 eL0 eR0
 have keepOld : ∀ {H' : Hp}, (∀ b o, b ≠ dl → b ≠ dr → H1 b = some o → H' b = some o) → Same H H' := fun {H'} kb b o h => kb b o (ne_of_none h hdl) (ne_of_none h hdr0) (s01 _ _ h)
 refine run_forR1 T.range (ev_blt call_len_seq T.len boot_len (ea_cons (ev_v 2 (ea_nil ⟨W, _, rfl, .inl (SqL.of (s01 _ _ hW.lst)), _, rfl, by omega, by rw [List.length_map]; omega, ?_⟩))))
 rw [List.length_map, hWl, Int.toNat_natCast]
 refine loop_range (n := (wsA n).length) (fun i σ H' => (∃ unumber ufree ur utie uk uend useen : Option V, σ = [some (.ref R), some (.ref ds), some (.ref W), some (.ref dl), some (.ref dr), unumber, ufree, ur, utie, uk, uend, useen]) ∧ (∀ b o, b ≠ dl → b ≠ dr → H1 b = some o → H' b = some o) ∧ DctAt n H' dl (trn 0 ((wsA n).take i)) ∧ DctAt n H' dr (trn 1 ((wsA n).take i))) ⟨⟨_, _, _, _, _, _, _, rfl⟩, fun _ _ _ _ h => h, eL0, eR0⟩ ?_ ?_
 ·rintro i σ H2 hi ⟨⟨unumber, ufree, ur, utie, uk, uend, useen, rfl⟩, kb, hL, hRt⟩
  rw [Int.zero_add]
  have hwi := List.getElem?_eq_getElem hi
  obtain ⟨e, el, er, heq, htold, hnot, hwe⟩ := first_end hT hwi
  have wk := allW _ (List.mem_of_getElem? hwi)
  have etk : (wsA n).take (i + 1) = (wsA n).take i ++ [(wsA n)[i]] := by rw [List.take_add_one, hwi]; rfl
  generalize (wsA n)[i] = w at hwi wk etk hwe
  have hee : e ∈ ends n := by rw [heq]; simp
  obtain ⟨zE, hzE⟩ := mem_ends.mp hee
  have tzE := tnm_eq hzE
  rw [toldA_trn] at htold hnot
  have ph : pos n zE = [e, other n e] := pos_head hT hzE heq fun x hx k => hnot (by rw [tzE, ← k]; exact htold x hx)
  have sm2 := keepOld kb
  have hW2 := hW.same sm2
  have hR2 := hR.same sm2
  obtain ⟨lw, hlw⟩ : ∃ lw, ls[i]? = some lw := ⟨_, List.getElem?_eq_getElem (by rw [hWl]; exact hi)⟩
  obtain ⟨us, euw, hE⟩ := hW2.at' i lw w hlw hwi
  have wh : w[0]? = some e := by rw [hwe]; exact walker_head hT hee
  have elen := hE.1
  have wfew := wk.few
  refine eg_name 5 nd ?_
  refine run_set 6 nd (ev_lst (ea_nil ⟨(by show 0 ≤ sizeLine; decide), fun f0 hf0 => ?_⟩))
  have t0 := same_new hf0 (.lst [])
  have ef0 : (upd H2 f0 (.lst [])) f0 = some (.lst []) := upd_same
  show Run _ _ _ [some (.ref R), some (.ref ds), some (.ref W), some (.ref dl), some (.ref dr), some (.int (i : Int)), some (.ref f0), ur, utie, uk, uend, useen] (upd H2 f0 (.lst []))
  generalize upd H2 f0 (.lst []) = H3 at t0 ef0
  refine run_forR1 T.range (ev_blt call_len_seq T.len boot_len (ea_cons (ev_v 0 (ea_nil ⟨R, _, rfl, .inl (SqL.of ((hR2.same t0).lst)), _, rfl, by omega, by rw [List.length_map]; omega, ?_⟩))))
  rw [List.length_map, hal, Int.toNat_natCast]
  have fin : ∀ {H4 : Hp} {fa : Addr}, Same H3 H4 → (∀ (c : Nat), c = (seats n).length → (c ≤ el.length → H4 fa = some (.lst [])) ∧ (el.length < c → ∃ a1 a2, H4 fa = some (.lst [.ref a1, .ref a2]) ∧ H4 a1 = some (TN n e) ∧ H4 a2 = some (TN n (other n e)))) → True := fun _ _ => trivial
  have slen : (seats n).length = (ends n).length := by unfold ends; rw [List.length_map]
  have elt : el.length < (ends n).length := by rw [heq, List.length_append, List.length_cons]; omega
  have ate : (ends n)[el.length]? = some e := by rw [heq, List.getElem?_append_right (Nat.le_refl _), Nat.sub_self]; rfl
  refine loop_range (n := n.length) (fun r σ H4 => ∃ (fa : Addr) (ur utie : Option V), Same H3 H4 ∧ (((seats (n.take r)).length ≤ el.length ∧ H4 fa = some (.lst [])) ∨ (el.length < (seats (n.take r)).length ∧ ∃ a1 a2, H4 fa = some (.lst [.ref a1, .ref a2]) ∧ H4 a1 = some (TN n e) ∧ H4 a2 = some (TN n (other n e)))) ∧ σ = [some (.ref R), some (.ref ds), some (.ref W), some (.ref dl), some (.ref dr), some (.int (i : Int)), some (.ref fa), ur, utie, uk, uend, useen]) ⟨f0, _, _, fun _ _ h => h, .inl ⟨Nat.zero_le _, ef0⟩, rfl⟩ ?_ ?_
  ·rintro r σ H4 hrn ⟨fa, ur, utie, s4, hfa, rfl⟩
   rw [Int.zero_add]
   have sm4 := (sm2.trans t0).trans s4
   obtain ⟨a, ea, eat, et, ell, era⟩ := (hR.same sm4).at hrn
   refine eg_name 7 nd ?_
   refine run_forL (ev_ix ix_tup (ev_ix ix_list (ev_v 0 (ev_v 7 ⟨R, _, _, .ref a.1, rfl, rfl, SqL.of ((hR.same sm4).lst), eat, ev_int ⟨a.1, _, _, .ref a.2, rfl, rfl, SqT.of et, rfl, a.2, rfl, ⟨_, SqL.of ell⟩, ?_⟩⟩))))
   refine loop_list (xs := (row n r).map V.str) (fun p σ H5 => ∃ (fa : Addr) (utie : Option V), Same H4 H5 ∧ (((seats (n.take r)).length + p ≤ el.length ∧ H5 fa = some (.lst [])) ∨ (el.length < (seats (n.take r)).length + p ∧ ∃ a1 a2, H5 fa = some (.lst [.ref a1, .ref a2]) ∧ H5 a1 = some (TN n e) ∧ H5 a2 = some (TN n (other n e)))) ∧ σ = [some (.ref R), some (.ref ds), some (.ref W), some (.ref dl), some (.ref dr), some (.int (i : Int)), some (.ref fa), some (.int (r : Int)), utie, uk, uend, useen]) ⟨fa, _, fun _ _ h => h, hfa, rfl⟩ ?_ ?_ ?_
   ·rintro p σ H5 _ ⟨_, _, s5, _⟩
    exact SqL.of (s5 _ _ ell)
   ·rintro p x σ H5 hx ⟨fa, utie, s5, hfa, rfl⟩
    rw [List.getElem?_map, Option.map_eq_some_iff] at hx
    obtain ⟨z, hz, rfl⟩ := hx
    have hp : p < (row n r).length := (List.getElem?_eq_some_iff.mp hz).1
    obtain ⟨rest, hsp⟩ := seats_split hrn hz
    have lrs : (rowSeats r ((row n r).take p) 0).length = p := by unfold rowSeats; rw [List.length_map, List.length_zipIdx, List.length_take]; omega
    have atc : (ends n)[(seats (n.take r)).length + p]? = some (r, p) := by
     unfold ends
     rw [hsp, List.map_append, List.getElem?_append_right (by rw [List.length_map, List.length_append, lrs]; exact Nat.le_refl _), List.length_map, List.length_append, lrs, Nat.sub_self]
     rfl
    have tzp : tnm n (r, p) = z := tnm_eq hz
    have sm5 := sm4.trans s5
    have hL5 : DctAt n H5 dl (trn 0 ((wsA n).take i)) := hL.same (t0.trans (s4.trans s5))
    obtain ⟨rr, hget, hsome⟩ := hL5.has z
    refine eg_name 8 nd ?_
    show Run _ _ _ [some (.ref R), some (.ref ds), some (.ref W), some (.ref dl), some (.ref dr), some (.int (i : Int)), some (.ref fa), some (.int (r : Int)), some (.str z), uk, uend, useen] H5
    refine run_ifH (fun k H6 => Same H5 H6 ∧ (k = true → z ∉ (trn 0 ((wsA n).take i)).map (fun p => tnm n p.2) ∧ (seats (n.take r)).length + p ≤ el.length) ∧ (k = false → z ∈ (trn 0 ((wsA n).take i)).map (fun p => tnm n p.2) ∨ el.length < (seats (n.take r)).length + p)) (fun σ' H6 => ∃ fa, Same H5 H6 ∧ (((seats (n.take r)).length + (p + 1) ≤ el.length ∧ H6 fa = some (.lst [])) ∨ (el.length < (seats (n.take r)).length + (p + 1) ∧ ∃ a1 a2, H6 fa = some (.lst [.ref a1, .ref a2]) ∧ H6 a1 = some (TN n e) ∧ H6 a2 = some (TN n (other n e)))) ∧ σ' = [some (.ref R), some (.ref ds), some (.ref W), some (.ref dl), some (.ref dr), some (.int (i : Int)), some (.ref fa), some (.int (r : Int)), some (.str z), uk, uend, useen]) ?_ ?_ ?_ ?_
    ·refine et_bool (ew_and (et_dnotin hu (ev_v 8 (ev_v 3 ⟨dl, rr, rfl, hget, ?_⟩))))
     rw [hsome]
     by_cases c1 : z ∈ (trn 0 ((wsA n).take i)).map fun p => tnm n p.2
     ·rw [decide_eq_true c1]
      exact iteF ⟨Same.refl H5, fun k => (nomatch k), fun _ => .inl c1⟩
     rw [decide_eq_false c1]
     refine iteT (ew_and1 (et_cmp (op_eqD un) (ev_v 6 (ev_lst (ea_nil ⟨(by show 0 ≤ sizeLine; decide), fun x0 hx0 => ?_⟩)))))
     have s6 := same_new hx0 (.lst [])
     rcases hfa with ⟨hle, efa⟩ | ⟨hlt, a1, a2, efa, ea1, ea2⟩
     ·exact ⟨1, true, by decide, rcD_strs (zs := []) (s6 _ _ efa) upd_same, _, rfl, s6, fun _ => ⟨c1, hle⟩, fun k => (nomatch k)⟩
     ·refine ⟨1, false, by decide, rcD_lens (k := 1) (SqL.of (s6 _ _ efa)) (SqL.of (xs := []) upd_same) (by simp), _, rfl, s6, fun k => (nomatch k), fun _ => .inr hlt⟩
    ·rintro H6 ⟨s6, hk, _⟩
     obtain ⟨c1, hle⟩ := hk rfl
     have hcz : (seats (n.take r)).length + p = el.length := by
      rcases Nat.lt_or_ge ((seats (n.take r)).length + p) el.length with k | k
      ·exfalso
       have : (r, p) ∈ el := by
        have h1 := atc
        rw [heq, List.getElem?_append_left k] at h1
        exact List.mem_of_getElem? h1
       exact c1 (by rw [← tzp]; exact htold _ this)
      ·omega
     have hrp : (r, p) = e := by
      rw [hcz, ate] at atc
      exact (Option.some.inj atc).symm
     have hzz : z = zE := by rw [← tzp, hrp, tzE]
     subst hzz
     have sm6 := sm5.trans s6
     obtain ⟨sa, sts, v1, v2, v3⟩ := evS z (tie_mem hzE)
     rw [ph] at v3
     obtain ⟨tx, htx, ex1⟩ := v3.at (i := 0) rfl
     obtain ⟨ty, hty, ey1⟩ := v3.at (i := 1) rfl
     have hst : sts = [tx, ty] := by
      have l2 := v3.length
      match sts, l2 with
      | [x, y], _ => cases htx; cases hty; rfl
     subst hst
     have ho := other_spec hT hzE
     refine run_set 6 nd (ev_has GN hr (ea_cons (ev_v 0 (ea_cons (ev_dget hu (ev_v 1 (ev_v 8 ⟨ds, .ref sa, rfl, by rw [← v1]; exact DGet.k (k := Sum.inr z) (sm6 _ _ edS), ?_⟩)))))))
     refine ea_nil ⟨R, sa, tx, ty, as, n, e, other n e, rfl, hR.same sm6, sm6 _ _ v2, sm6 _ _ ex1, sm6 _ _ ey1, row_lt hzE, row_lt ho.1, fun L a1 a2 H7 s7 e7 ea ea' => run_nil ⟨L, s6.trans s7, .inr ⟨by omega, a1, a2, e7, ea, ea'⟩, rfl⟩⟩
    ·rintro H6 ⟨s6, _, hk⟩
     refine run_nil ⟨fa, s6, ?_, rfl⟩
     rcases hfa with ⟨hle, efa⟩ | ⟨hlt, a1, a2, efa, ea1, ea2⟩
     ·refine .inl ⟨?_, s6 _ _ efa⟩
      rcases hk rfl with k | k
      ·rcases Nat.lt_or_ge ((seats (n.take r)).length + p) el.length with c | c
       ·omega
       ·exfalso
        have hcz : (seats (n.take r)).length + p = el.length := by omega
        rw [hcz, ate] at atc
        exact hnot (by rw [Option.some.inj atc, tzp]; exact k)
      ·omega
     ·exact .inr ⟨by omega, a1, a2, s6 _ _ efa, s6 _ _ ea1, s6 _ _ ea2⟩
    ·rintro σ' H6 ⟨fa, s6, hfa, rfl⟩
     exact run_nil ⟨fa, _, s5.trans s6, hfa, rfl⟩
   ·rintro σ H5 ⟨fa, utie, s5, hfa, rfl⟩
    refine run_nil ⟨fa, _, _, s4.trans s5, ?_, rfl⟩
    have ls2 : (seats (n.take (r + 1))).length = (seats (n.take r)).length + ((row n r).map V.str).length := by
     rw [seats_take hrn, List.length_append, List.length_map]
     unfold rowSeats
     rw [List.length_map, List.length_zipIdx]
    rw [ls2]
    exact hfa
  ·rintro σ H4 ⟨fa, ur, utie, s4, hfa, rfl⟩
   rw [List.take_length] at hfa
   obtain ⟨a1, a2, efa, ea1, ea2⟩ : ∃ a1 a2, H4 fa = some (.lst [.ref a1, .ref a2]) ∧ H4 a1 = some (TN n e) ∧ H4 a2 = some (TN n (other n e)) := by
    rcases hfa with ⟨k, _⟩ | ⟨_, k⟩
    ·omega
    ·exact k
   have t04 := t0.trans s4
   have sm4 := sm2.trans t04
   have hW4 := hW.same sm4
   have euw4 := t04 _ _ euw
   have hE4 := hE.same t04
   have wt : atI (ls.map V.ref) (i : Int) = some (.ref lw) := at_refs hlw
   obtain ⟨u0, hu0⟩ : ∃ u0, us[0]? = some u0 := ⟨us[0]'(by have := wk.ne0; omega), List.getElem?_eq_getElem _⟩
   have eu0 := hE4.2 0 u0 e hu0 wh
   have at0 : atI (us.map V.ref) (0 : Int) = some (.ref u0) := at_refs (j := 0) hu0
   show Run _ _ _ [some (.ref R), some (.ref ds), some (.ref W), some (.ref dl), some (.ref dr), some (.int (i : Int)), some (.ref fa), ur, utie, uk, uend, useen] H4
   refine run_ifH (fun k H5 => k = false ∧ Same H4 H5) (fun σ' H5 => Same H4 H5 ∧ σ' = [some (.ref R), some (.ref ds), some (.ref W), some (.ref dl), some (.ref dr), some (.int (i : Int)), some (.ref fa), ur, utie, uk, uend, useen]) ?_ (fun H5 h => by cases h.1) (fun H5 h => run_nil ⟨h.2, rfl⟩) ?_
   ·refine et_bool (ew_or (et_cmp (op_eqD un) (ev_v 6 (ev_lst (ea_nil ⟨(by show 0 ≤ sizeLine; decide), fun x0 hx0 => ?_⟩)))))
    have s5 := same_new hx0 (.lst [])
    refine ⟨1, false, by decide, rcD_lens (k := 1) (SqL.of (s5 _ _ efa)) (SqL.of (xs := []) upd_same) (by simp), _, rfl, iteF ?_⟩
    generalize upd H4 x0 (.lst []) = H5 at s5
    refine ew_or (et_cmp (op_notinD un) (ev_ix ix_list (ev_ix ix_list (ev_v 2 (ev_v 5 ⟨W, _, _, .ref lw, rfl, rfl, SqL.of (s5 _ _ hW4.lst), wt, ev_int ⟨lw, _, _, .ref u0, rfl, rfl, SqL.of (s5 _ _ euw4), at0, ev_v 6 ⟨fa, [a1, a2], 1, fun b => decide (H5 b = some (Tn (nameAt n e.1) (e.2 : Int))), rfl, SqL.of (s5 _ _ efa), by decide, fun b hb => ?_, _, rfl, ?_⟩⟩⟩)))))
    ·rcases List.mem_cons.mp hb with k | k
     ·rw [k]
      exact eqD_tn (s5 _ _ ea1) (s5 _ _ eu0)
     ·rw [List.mem_singleton.mp k]
      exact eqD_tn (s5 _ _ ea2) (s5 _ _ eu0)
    ·rw [List.any_cons, decide_eq_true (s5 _ _ ea1), Bool.true_or]
     refine iteF (ew_or1 (et_cmp (op_neD un) (ev_ix ix_list (ev_ix ix_list (ev_v 2 (ev_v 5 ⟨W, _, _, .ref lw, rfl, rfl, SqL.of (s5 _ _ hW4.lst), wt, ev_int ⟨lw, _, _, .ref u0, rfl, rfl, SqL.of (s5 _ _ euw4), at0, ev_ix ix_list (ev_v 6 (ev_int ⟨fa, _, _, .ref a1, rfl, rfl, SqL.of (s5 _ _ efa), rfl, 1, _, by decide, rnD_tn (s5 _ _ eu0) (s5 _ _ ea1), _, rfl, ?_⟩))⟩⟩))))))
     rw [decide_eq_true ⟨rfl, rfl⟩]
     exact ⟨rfl, s5⟩
   ·rintro σ' H5 ⟨s5, rfl⟩
    have t05 := t04.trans s5
    have sm5 := sm2.trans t05
    have hW5 := hW.same sm5
    have kb5 : ∀ b o, b ≠ dl → b ≠ dr → H1 b = some o → H5 b = some o := fun b o h1 h2 h => t05 _ _ (kb b o h1 h2 h)
    generalize some (V.ref fa) = ufree
    refine run_forR1 T.range (ev_blt call_len_seq T.len boot_len (ea_cons (ev_ix ix_list (ev_v 2 (ev_v 5 ⟨W, _, _, .ref lw, rfl, rfl, SqL.of hW5.lst, wt, ea_nil ⟨lw, _, rfl, .inl (SqL.of (t05 _ _ euw)), _, rfl, by omega, by rw [List.length_map]; omega, ?_⟩⟩)))))
    rw [List.length_map, elen, Int.toNat_natCast]
    refine loop_range (n := w.length) (fun m σ H6 => (∃ utie uk uend useen : Option V, σ = [some (.ref R), some (.ref ds), some (.ref W), some (.ref dl), some (.ref dr), some (.int (i : Int)), ufree, ur, utie, uk, uend, useen]) ∧ (∀ b o, b ≠ dl → b ≠ dr → H5 b = some o → H6 b = some o) ∧ DctAt n H6 dl (trn 0 ((wsA n).take i ++ [w.take m])) ∧ DctAt n H6 dr (trn 1 ((wsA n).take i ++ [w.take m]))) ⟨⟨_, _, _, _, rfl⟩, fun _ _ _ _ h => h, ?_, ?_⟩ ?_ ?_
    ·rw [trn_snoc]
     show DctAt n H5 dl (_ ++ [])
     rw [List.append_nil]
     exact hL.same t05
    ·rw [trn_snoc]
     show DctAt n H5 dr (_ ++ [])
     rw [List.append_nil]
     exact hRt.same t05
    ·rintro m σ H6 hm ⟨⟨utie, uk, uend, useen, rfl⟩, k6, hL6, hR6⟩
     rw [Int.zero_add]
     have sm6 : Same H H6 := keepOld fun b o h1 h2 h => k6 b o h1 h2 (kb5 b o h1 h2 h)
     have hwm := List.getElem?_eq_getElem hm
     have hE6 := hE.same t05
     obtain ⟨um, hum⟩ : ∃ um, us[m]? = some um := ⟨_, List.getElem?_eq_getElem (by rw [elen]; exact hm)⟩
     have wem := wk.ends _ (List.mem_of_getElem? hwm)
     have eum5 := hE6.2 m um _ hum hwm
     have p0 := prt0_snoc hwm
     have p1 := prt1_snoc hwm
     generalize w[m] = x at eum5 wem p0 p1
     obtain ⟨zx, hzx⟩ := mem_ends.mp wem
     have tzx := tnm_eq hzx
     have hxr := row_lt hzx
     have ntd : ∀ {b : Addr} {xs : List V}, H5 b = some (.tup xs) → H6 b = some (.tup xs) := fun {b xs} h => by
      obtain ⟨kv, hkv, _⟩ := hL.same t05
      obtain ⟨kw, hkw, _⟩ := hRt.same t05
      exact k6 _ _ (ne_of h hkv fun z => nomatch z) (ne_of h hkw fun z => nomatch z) h
     have eum := ntd eum5
     have euw6 : H6 lw = some (.lst (us.map V.ref)) := by
      obtain ⟨kv, hkv, _⟩ := hL.same t05
      obtain ⟨kw, hkw, _⟩ := hRt.same t05
      exact k6 _ _ (ne_of (t05 _ _ euw) hkv fun z => nomatch z) (ne_of (t05 _ _ euw) hkw fun z => nomatch z) (t05 _ _ euw)
     have hR6' := hR.same sm6
     refine eg_name 9 nd ?_
     refine run_set 10 nd (ev_ix ix_list (ev_ix ix_list (ev_v 2 (ev_v 5 ⟨W, _, _, .ref lw, rfl, rfl, SqL.of (hW.same sm6).lst, wt, ev_v 9 ⟨lw, _, _, .ref um, rfl, rfl, SqL.of euw6, at_refs hum, ?_⟩⟩))))
     show Run _ _ _ [some (.ref R), some (.ref ds), some (.ref W), some (.ref dl), some (.ref dr), some (.int (i : Int)), ufree, ur, utie, some (.int (m : Int)), some (.ref um), useen] H6
     refine run_set 8 nd (ev_ix ix_list (ev_comp (defScope s_l_told) NTo NTo1 1 (pi_list pe_ev) (ev_v 0 ⟨R, rfl, ⟨_, SqL.of hR6'.lst⟩, fun D hD => ?_⟩)))
     refine comp_listP (xs := as.map fun a => V.ref a.1) (fun j σ' H7 => (∃ v, σ' = [some (.ref R), some (.ref ds), some (.ref W), some (.ref dl), some (.ref dr), some (.int (i : Int)), ufree, ur, utie, some (.int (m : Int)), some (.ref um), useen] ++ [v]) ∧ Same H6 H7 ∧ H7 D = some (Ls (if x.1 < j then [zx] else []))) ⟨⟨none, rfl⟩, same_new hD _, upd_same⟩ ?_ ?_ ?_
     ·rintro j σ' H7 _ ⟨_, s7, _⟩
      exact SqL.of (s7 _ _ hR6'.lst)
     ·rintro j v σ' H7 hv ⟨⟨v0, rfl⟩, s7, eD⟩
      have hj : j < n.length := by
       have := (List.getElem?_eq_some_iff.mp hv).1
       rw [List.length_map] at this
       omega
      obtain ⟨b, eb, ebt, et, ell, ebr⟩ := (hR6'.same s7).at hj
      rw [List.getElem?_map, eb] at hv
      cases hv
      have eum7 := s7 _ _ eum
      intro cl' C' s₀ H₀ ex
      refine eg_name 12 nd_to1 ?_
      intro cl' C' s₀ H₀ ex
      refine ei_one (et_cmp op_eq (ev_ix ix_tup (ev_v 12 (ev_int ⟨b.1, _, _, .str n[j].1, rfl, rfl, SqT.of et, rfl, ev_ix ix_tup (ev_v 10 (ev_int ⟨um, _, _, .str (nameAt n x.1), rfl, rfl, SqT.of eum7, rfl, rfl, _, rfl, ?_⟩))⟩))))
      have ek : decide (V.str n[j].1 = V.str (nameAt n x.1)) = decide (x.1 = j) := by
       refine decide_eq_decide.mpr ⟨fun k => ?_, fun k => ?_⟩
       ·have k := V.str.inj k
        exact (nmA_inj hN hj hxr (by rw [nmA_eq hj]; exact k)).symm
       ·rw [← nameAt_eq hj, k]
      show if decide (V.str n[j].1 = V.str (nameAt n x.1)) = true then _ else _
      rw [ek]
      refine ite2 (fun c => ?_) (fun c => ?_)
      ·have c := of_decide_eq_true c
       subst c
       intro cl' C' s₀ H₀ ex
       have hat : (row n x.1)[x.2]? = some zx := hzx
       refine ev_ix ix_list (ev_ix ix_tup (ev_v 12 (ev_int ⟨b.1, _, _, .ref b.2, rfl, rfl, SqT.of et, rfl, ev_ix ix_tup (ev_v 10 (ev_int ⟨um, _, _, .int (x.2 : Int), rfl, rfl, SqT.of eum7, rfl, b.2, _, _, .str zx, rfl, rfl, SqL.of ell, at_strs hat, _, eD, ?_, ⟨_, rfl⟩, same_mut s7 hD, ?_⟩))⟩)))
       ·rw [if_neg (Nat.lt_irrefl _)]
        exact small' (by decide)
       ·rw [upd_same, if_neg (Nat.lt_irrefl _), if_pos (Nat.lt_succ_self _)]
        rfl
      ·have c := of_decide_eq_false (Bool.eq_false_iff.mpr c)
       refine ⟨⟨_, rfl⟩, s7, ?_⟩
       rw [eD]
       by_cases k : x.1 < j
       ·rw [if_pos k, if_pos (by omega)]
       ·rw [if_neg k, if_neg (by omega)]
     ·rintro σ' H7 ⟨_, s7, eD⟩
      rw [List.length_map, hal, if_pos hxr] at eD
      refine ev_int ⟨D, _, _, .str zx, rfl, rfl, SqL.of eD, rfl, ?_⟩
      show Run _ _ _ [some (.ref R), some (.ref ds), some (.ref W), some (.ref dl), some (.ref dr), some (.int (i : Int)), ufree, ur, some (.str zx), some (.int (m : Int)), some (.ref um), useen] H7
      have hL7 := hL6.same s7
      have hR7 := hR6.same s7
      have nx0 := trn_pre hT (k := 0) (m := m + 1) (by decide) hwi
      have nx1 := trn_pre hT (k := 1) (m := m + 1) (by decide) hwi
      have ilen : ((wsA n).take i).length = i := by rw [List.length_take]; omega
      have kk0 : trn 0 ((wsA n).take i ++ [w.take (m + 1)]) = if m % 2 = 0 then trn 0 ((wsA n).take i ++ [w.take m]) ++ [(i, x)] else trn 0 ((wsA n).take i ++ [w.take m]) := by
       rw [trn_snoc, trn_snoc, p0, ilen]
       split
       ·rw [List.map_append, List.append_assoc]
        rfl
       ·rfl
      have kk1 : trn 1 ((wsA n).take i ++ [w.take (m + 1)]) = if m % 2 = 0 then trn 1 ((wsA n).take i ++ [w.take m]) else trn 1 ((wsA n).take i ++ [w.take m]) ++ [(i, x)] := by
       rw [trn_snoc, trn_snoc, p1, ilen]
       split
       ·rfl
       ·rw [List.map_append, List.append_assoc]
        rfl
      obtain ⟨dd, DL, hdd, hsee, hD7, lDL, hnew, hput⟩ : ∃ (dd : Addr) (DL : List (Nat × Nt.End)), (dd = dl ∨ dd = dr) ∧ atI [V.ref dl, V.ref dr] ((m : Int) % 2) = some (.ref dd) ∧ DctAt n H7 dd DL ∧ DL.length ≤ 60 ∧ tnm n x ∉ DL.map (fun p => tnm n p.2) ∧ (∀ H8 : Hp, DctAt n H8 dd (DL ++ [(i, x)]) → (∀ b o, b ≠ dd → H7 b = some o → H8 b = some o) → DctAt n H8 dl (trn 0 ((wsA n).take i ++ [w.take (m + 1)])) ∧ DctAt n H8 dr (trn 1 ((wsA n).take i ++ [w.take (m + 1)]))) := by
       have kpd : ∀ {H8 : Hp} {d d' : Addr} {L L' : List (Nat × Nt.End)}, DctAt n H7 d L → DctAt n H7 d' L' → d ≠ d' → (∀ b o, b ≠ d' → H7 b = some o → H8 b = some o) → DctAt n H8 d L := fun {H8 d d' L L'} hd hd' hne kk => by
        obtain ⟨kv, hkv, hr⟩ := hd
        obtain ⟨kw, hkw, _⟩ := hd'
        exact ⟨kv, kk _ _ hne hkv, hr.1, fun p hp => let ⟨t, u, a, b, c⟩ := hr.2 p hp; ⟨t, u, a, kk _ _ (ne_of b hkw fun z => nomatch z) b, kk _ _ (ne_of c hkw fun z => nomatch z) c⟩⟩
       by_cases c : m % 2 = 0
       ·refine ⟨dl, trn 0 ((wsA n).take i ++ [w.take m]), .inl rfl, ?_, hL7, Nat.le_trans (trn_subl hwi).length_le (Nat.le_trans (trn_len hT (by decide)) hti), ?_, fun H8 h8 kk => ⟨?_, ?_⟩⟩
        ·rw [show (m : Int) % 2 = 0 by omega]; rfl
        ·rw [kk0, if_pos c, List.map_append] at nx0
         exact fun k => (List.nodup_append.mp nx0).2.2 _ k _ (List.mem_singleton.mpr rfl) rfl
        ·rw [kk0, if_pos c]
         exact h8
        ·rw [kk1, if_pos c]
         exact kpd hR7 hL7 (Ne.symm ndl) kk
       ·refine ⟨dr, trn 1 ((wsA n).take i ++ [w.take m]), .inr rfl, ?_, hR7, Nat.le_trans (trn_subl hwi).length_le (Nat.le_trans (trn_len hT (by decide)) hti), ?_, fun H8 h8 kk => ⟨?_, ?_⟩⟩
        ·rw [show (m : Int) % 2 = 1 by omega]; rfl
        ·rw [kk1, if_neg c, List.map_append] at nx1
         exact fun k => (List.nodup_append.mp nx1).2.2 _ k _ (List.mem_singleton.mpr rfl) rfl
        ·rw [kk0, if_neg c]
         exact kpd hL7 hR7 ndl kk
        ·rw [kk1, if_neg c]
         exact h8
      refine run_set 11 nd (ev_ix ix_tup (ev_tup (ea_cons (ev_v 3 (ea_cons (ev_v 4 (ea_nil ⟨(by show 2 ≤ sizeLine; decide), fun tp htp => ev_op op_mod (ev_v 9 (ev_int ⟨_, _, rfl, rfl, (by show (0 : Int) < 2; decide), tp, _, _, .ref dd, rfl, rfl, SqT.of upd_same, hsee, ?_⟩))⟩)))))))
      have s8 := same_new htp (.tup [.ref dl, .ref dr])
      have hD8 := hD7.same s8
      show Run _ _ _ [some (.ref R), some (.ref ds), some (.ref W), some (.ref dl), some (.ref dr), some (.int (i : Int)), ufree, ur, some (.str zx), some (.int (m : Int)), some (.ref um), some (.ref dd)] (upd H7 tp (.tup [.ref dl, .ref dr]))
      obtain ⟨rr, hget, hsome⟩ := hD8.has zx
      refine run_if (et_din hu (ev_v 8 (ev_v 11 ⟨dd, rr, rfl, hget, ?_⟩)))
      rw [tzx] at hnew
      rw [hsome, decide_eq_false hnew]
      refine iteF (run_nil ?_)
      obtain ⟨kvs, hkv, hrest⟩ := hD8
      have lkv : kvs.length ≤ 100000 := by
       have h1 := congrArg List.length hrest.1
       rw [List.length_map, List.length_map] at h1
       omega
      refine run_dput hu (ev_tup (ea_cons (ev_v 5 (ea_cons (ev_v 10 (ea_nil ⟨(by show 2 ≤ sizeLine; decide), fun tt htt => ev_v 11 (ev_v 8 ⟨dd, _, rfl, DPut.k (k := Sum.inr zx) ((same_new htt _) _ _ hkv) (small' lkv), run_nil ?_⟩)⟩))))))
      have s9 := same_new htt (.tup [.int (i : Int), .ref um])
      have hD9 : DctAt n (upd (upd H7 tp (.tup [.ref dl, .ref dr])) tt (.tup [.int (i : Int), .ref um])) dd DL := DctAt.same ⟨kvs, hkv, hrest⟩ s9
      have s79 := s8.trans s9
      have hP := hD9.put (p := (i, x)) (by show tnm n x ∉ _; rw [tzx]; exact hnew) (t := tt) (u := um) upd_same (s79 _ _ (s7 _ _ eum)) kvs (s9 _ _ hkv)
      have hP : DctAt n (upd (upd (upd H7 tp (.tup [.ref dl, .ref dr])) tt (.tup [.int (i : Int), .ref um])) dd (.dK (putK kvs (Sum.inr zx) (.ref tt)))) dd (DL ++ [(i, x)]) := by rw [← tzx]; exact hP
      obtain ⟨q1, q2⟩ := hput _ hP fun b o hb h => by rw [upd_ne hb]; exact s79 _ _ h
      refine ⟨⟨_, _, _, _, rfl⟩, fun b o h1 h2 h => ?_, q1, q2⟩
      rw [upd_ne (fun k => hdd.elim (fun z => h1 (k.trans z)) fun z => h2 (k.trans z))]
      exact s79 _ _ (s7 _ _ (k6 b o h1 h2 h))
    ·rintro σ H6 ⟨⟨utie, uk, uend, useen, rfl⟩, k6, hL6, hR6⟩
     rw [List.take_length, ← etk] at hL6 hR6
     exact run_nil ⟨⟨_, _, _, _, _, _, _, rfl⟩, fun b o h1 h2 h => k6 b o h1 h2 (kb5 b o h1 h2 h), hL6, hR6⟩
 ·rintro σ H2 ⟨⟨unumber, ufree, ur, utie, uk, uend, useen, rfl⟩, kb, hL, hRt⟩
  rw [List.take_length] at hL hRt
  have sm2 := keepOld kb
  obtain ⟨kvL, hkL, hkL2, hvL⟩ := hL
  obtain ⟨kvR, hkR, hkR2, hvR⟩ := hRt
  have edS2 := sm2 _ _ edS
  have lks : ks.length = kvS.length := by have := congrArg List.length ekS; rw [List.length_map, List.length_map] at this; exact this.symm
  have lenOf : ∀ {k : Nat} {kv : List (Key × V)}, k ≤ 1 → kv.map (·.1) = (trn k (wsA n)).map (fun p => Sum.inr (tnm n p.2)) → kv.length = kvS.length := fun {k kv} hk h => by
   have h1 := congrArg List.length h
   rw [List.length_map, List.length_map] at h1
   have h2 := nodup_le (trn_nodup hT hk) (b := ks) fun z hz => (hS.mem z).mpr ((trn_all hT hk).mp hz)
   have h3 := nodup_le hS.nodup (b := (trn k (wsA n)).map fun p => tnm n p.2) fun z hz => (trn_all hT hk).mpr ((hS.mem z).mp hz)
   rw [List.length_map] at h2 h3
   omega
  have l1 := lenOf (by decide) hkL2
  have l2 := lenOf (by decide) hkR2
  have kss : ks.length ≤ 60 := by
   have := nodup_le hS.nodup fun z hz => (hS.mem z).mp hz
   omega
  refine run_if (et_bool (ew_or (et_cmp op_ne (ev_blt call_lenD T.len boot_len (ea_cons (ev_v 3 (ea_nil ⟨dl, kvL, rfl, hkL, ev_blt call_lenD T.len boot_len (ea_cons (ev_v 1 (ea_nil ⟨ds, kvS, rfl, edS2, rfl, _, rfl, ?_⟩)))⟩)))))))
  rw [l1, decide_eq_true rfl]
  refine iteF (ew_or1 (et_cmp op_ne (ev_blt call_lenD T.len boot_len (ea_cons (ev_v 4 (ea_nil ⟨dr, kvR, rfl, hkR, ev_blt call_lenD T.len boot_len (ea_cons (ev_v 1 (ea_nil ⟨ds, kvS, rfl, edS2, rfl, _, rfl, ?_⟩)))⟩))))))
  rw [l2, decide_eq_true rfl]
  refine iteF (run_nil ?_)
  refine run_ret (ev_comp (defScope s_l_told) NTo NTo2 1 (pi_list pe_ev) (ev_blt (call_sorted_dict rfl) T.sorted PyProof.Rows.boot_sorted (ea_cons (ev_v 1 (ea_nil ⟨ds, kvS, ks, rfl, .inl edS2, ekS, by omega, fun sl ss hsl pm so => ⟨sl, rfl, ⟨_, SqL.of upd_same⟩, fun D hD => ?_⟩⟩)))))
  have s3 := same_new hsl (.lst (ss.map V.str))
  have esl : (upd H2 sl (.lst (ss.map V.str))) sl = some (.lst (ss.map V.str)) := upd_same
  have hkL3 := s3 _ _ hkL
  have hkR3 := s3 _ _ hkR
  have sm3 := sm2.trans s3
  generalize upd H2 sl (.lst (ss.map V.str)) = H3 at s3 esl hkL3 hkR3 sm3 hD
  have inS : ∀ z ∈ ss, z ∈ ties n := fun z hz => (hS.mem z).mp (pm.mem_iff.mp hz)
  have lss : ss.length ≤ 60 := by rw [pm.length_eq]; exact kss
  have hD0 := free_back sm3 hD
  refine comp_listP (xs := ss.map V.str) (fun j σ' H4 => (∃ v, σ' = [some (.ref R), some (.ref ds), some (.ref W), some (.ref dl), some (.ref dr), unumber, ufree, ur, utie, uk, uend, useen] ++ [v]) ∧ Same H3 H4 ∧ ∃ ts : List Addr, ts.length = j ∧ H4 D = some (.lst (ts.map V.ref)) ∧ ∀ (m : Nat) t z, ts[m]? = some t → ss[m]? = some z → ∃ l qs, l ≠ D ∧ H4 t = some (.tup [.str z, .ref l]) ∧ PsAt n H4 l qs (pas n z)) ⟨⟨none, rfl⟩, same_new hD _, [], rfl, upd_same, fun m t z h => by simp at h⟩ ?_ ?_ ?_
  ·rintro j σ' H4 _ ⟨_, s4, _⟩
   exact SqL.of (s4 _ _ esl)
  ·rintro j v σ' H4 hv ⟨⟨v0, rfl⟩, s4, ts, lts, eD, hts⟩
   rw [List.getElem?_map, Option.map_eq_some_iff] at hv
   obtain ⟨z, hz, rfl⟩ := hv
   have hjs := (List.getElem?_eq_some_iff.mp hz).1
   have hzt := inS z (List.mem_of_getElem? hz)
   obtain ⟨pL, mL, tL, eL⟩ := pas_one hT (k := 0) (by decide) hzt
   obtain ⟨pR, mR, tR, eR⟩ := pas_one hT (k := 1) (by decide) hzt
   have epas : pas n z = [pL, pR] := by
    show pasK n 0 z ++ pasK n 1 z = _
    rw [eL, eR]
    rfl
   obtain ⟨aL, uL, vL, hL1, hL2⟩ := hvL pL mL
   obtain ⟨aR, uR, vR, hR1, hR2⟩ := hvR pR mR
   rw [tL] at vL
   rw [tR] at vR
   have s24 := s3.trans s4
   intro cl' C' s₀ H₀ ex
   refine eg_name 12 nd_to2 ?_
   intro cl' C' s₀ H₀ ex
   refine ei_nil (iteT ?_)
   intro cl' C' s₀ H₀ ex
   refine ev_tup (ea_cons (ev_v 12 (ea_cons (ev_lst (ea_cons (ev_dget hu (ev_v 3 (ev_v 12 ⟨dl, .ref aL, rfl, by rw [← vL]; exact DGet.k (k := Sum.inr z) (s4 _ _ hkL3), ea_cons (ev_dget hu (ev_v 4 (ev_v 12 ⟨dr, .ref aR, rfl, by rw [← vR]; exact DGet.k (k := Sum.inr z) (s4 _ _ hkR3), ea_nil ⟨(by show 2 ≤ sizeLine; decide), fun l hl => ea_nil ⟨(by show 2 ≤ sizeLine; decide), fun t ht => ?_⟩⟩⟩)))⟩))))))))
   have t1 := same_new hl (.lst [.ref aL, .ref aR])
   have t2 := same_new ht (.tup [.str z, .ref l])
   have t12 := t1.trans t2
   have hPs : PsAt n (upd (upd H4 l (.lst [.ref aL, .ref aR])) t (.tup [.str z, .ref l])) l [aL, aR] (pas n z) := by
    rw [epas]
    refine ⟨t2 _ _ upd_same, rfl, fun m a b h1 h2 => ?_⟩
    match m with
    | 0 => cases h1; cases h2; exact ⟨uL, t12 _ _ (s24 _ _ hL1), t12 _ _ (s24 _ _ hL2)⟩
    | 1 => cases h1; cases h2; exact ⟨uR, t12 _ _ (s24 _ _ hR1), t12 _ _ (s24 _ _ hR2)⟩
    | m + 2 => simp at h1
   have eD5 := t12 _ _ eD
   have et5 : (upd (upd H4 l (.lst [.ref aL, .ref aR])) t (.tup [.str z, .ref l])) t = some (.tup [.str z, .ref l]) := upd_same
   generalize upd (upd H4 l (.lst [.ref aL, .ref aR])) t (.tup [.str z, .ref l]) = H5 at t12 hPs eD5 et5
   have nlD : l ≠ D := fun k => by rw [k, eD] at hl; cases hl
   have kD : ∀ b o, b ≠ D → H5 b = some o → (upd H5 D (.lst (ts.map V.ref ++ [.ref t]))) b = some o := fun b o hb h => by rw [upd_ne hb]; exact h
   have kP : ∀ {l : Addr} {qs : List Addr} {ps : List (Nat × Nt.End)}, l ≠ D → PsAt n H5 l qs ps → PsAt n (upd H5 D (.lst (ts.map V.ref ++ [.ref t]))) l qs ps := fun {l qs ps} hne h => h.keep (by rw [upd_ne hne]) fun b xs h => kD _ _ (ne_of h eD5 fun z => nomatch z) h
   refine ⟨_, eD5, by rw [List.length_map]; exact small' (by omega), ⟨_, rfl⟩, same_mut (s4.trans t12) hD, ts ++ [t], by rw [List.length_append, lts]; rfl, by rw [upd_same, List.map_append]; rfl, fun m a y h1 h2 => ?_⟩
   by_cases hm : m < ts.length
   ·rw [List.getElem?_append_left hm] at h1
    obtain ⟨l', qs, q0, q1, q2⟩ := hts m a y h1 h2
    exact ⟨l', qs, q0, kD _ _ (ne_of q1 eD fun z => nomatch z) (t12 _ _ q1), kP q0 (q2.same t12)⟩
   ·rw [List.getElem?_append_right (by omega)] at h1
    have e0 : m - ts.length = 0 := by
     have := (List.getElem?_eq_some_iff.mp h1).1
     simp at this
     omega
    rw [e0] at h1
    cases h1
    have em : m = j := by omega
    rw [em, hz] at h2
    cases h2
    exact ⟨l, _, nlD, kD _ _ (ne_of et5 eD5 fun z => nomatch z) et5, kP nlD hPs⟩
  ·rintro σ' H4 ⟨_, s4, ts, lts, eD, hts⟩
   rw [List.length_map] at lts
   exact q D ts ss H4 (sm3.trans s4) hD0 ⟨eD, lts, fun i t z a b => let ⟨l, qs, _, h⟩ := hts i t z a b; ⟨l, qs, h⟩⟩ inS
end
end P3
namespace P3
open PySem L2 Nt Sort2 SetT
open PyProof.Rows (sortedS)
open Classical
theorem passN {X : Cx} {P : Program} {w : World} : Passes (XF P w) X (fun _ _ _ => False) := fun _ _ _ _ _ _ _ h => by
 obtain ⟨_, _, _, _, _, h, _⟩ := h
 exact h.elim
theorem rnD_ps {X : Cx} {n : Net} {H : Hp} {a b : Addr} {ts us : List Addr} {ps : List (Nat × Nt.End)} (h : PsAt n H a ts ps) (g : PsAt n H b us ps) : RnD X H 3 (.ref a) (.ref b) true := by
 have l1 := h.2.1
 have l2 := g.2.1
 have q := rnD_list (X := X) (k := 2) (fun _ => true) (SqL.of (K := X.K) h.1) (SqL.of (K := X.K) g.1) (by rw [List.length_map, List.length_map, l1, l2]) fun j x y hx hy => by
  rw [List.getElem?_map, Option.map_eq_some_iff] at hx hy
  obtain ⟨s, es, rfl⟩ := hx
  obtain ⟨t, et, rfl⟩ := hy
  have hj : j < ps.length := by
   have := (List.getElem?_eq_some_iff.mp es).1
   omega
  obtain ⟨u, q1, q2⟩ := h.2.2 j s ps[j] es (List.getElem?_eq_getElem hj)
  obtain ⟨v, q3, q4⟩ := g.2.2 j t ps[j] et (List.getElem?_eq_getElem hj)
  have tt := rcD_tup (X := X) (k := 1) (fun _ => true) (SqT.of (K := X.K) q1) (SqT.of (K := X.K) q3) rfl fun i x y hx hy => by
   match i with
   | 0 =>
    cases hx; cases hy
    have := eqD_flat (X := X) (H := H) (k := 1) (x := .int (ps[j].1 : Int)) (y := .int (ps[j].1 : Int)) rfl rfl
    rw [show eqV (.int (ps[j].1 : Int)) (.int (ps[j].1 : Int)) = true from beq_self_eq_true _] at this
    exact this
   | 1 =>
    cases hx; cases hy
    have := rcD_tn (X := X) q2 q4
    rw [decide_eq_true ⟨rfl, rfl⟩] at this
    exact eqD_ref this
   | i + 2 => simp at hx
  rw [all_true] at tt
  exact eqD_ref tt
 rw [all_true] at q
 exact q
theorem boot_vale : bootBuiltins "ValueError" = some (.type "ValueError") := by decide +kernel
noncomputable def spNoT : Sp := fun vs H Q _ => ∃ (R : Addr) (as : List (Addr × Addr)) (n : Net) (z : Str), vs = [.ref R, .str z] ∧ RowsAt H R as n ∧ (n.map (·.1)).Nodup ∧ Twice n ∧ n.length ≤ 60 ∧ (ties n).length ≤ 60 ∧ z ∉ ties n ∧ ∀ H', Same H H' → Q (.bl true) H'
noncomputable def spLaw (K : PySem.W.Frag) : Sp := fun vs H Q _ => ∃ (a : Addr) (ns : List Int), vs = [.ref a] ∧ SqL K H a (ns.map V.int) ∧ ns.length ≤ 63 ∧ ∀ H', Q (.bl true) H'
section
variable {P : Program} {w : World} {K : PySem.W.Frag} {mg : Str → Option Value} {base : Heap}
noncomputable abbrev NNt : List Str := ["_law_rows", "_law_name", "e"]
theorem scNt : FnScope NNt ["_law_rows", "_law_name"] (defScope s_l_no_tie) := ⟨rfl, rfl, rfl, by decide +kernel, rfl, by decide +kernel, by decide +kernel⟩
theorem ok_nt {f : Addr} {fd : FuncData} {c : Str → Addr} (F : Fun K "_law_no_tie" "_law_no_tie" s_l_no_tie f fd) (T : Txt mg) (cl : Cl K mg c) (GP : HasX P w K mg base 5 "passes_of" ["rows", "tie"] (spPas c)) : FnOk P w K mg base CX0 6 f fd ["_law_rows", "_law_name"] spNoT := by
 refine F.gb scNt (fun vs H Q E h => ?_) (fun b0 H vs Q E hr h => ?_)
 ·obtain ⟨R, as, n, z, rfl, _⟩ := h
  rfl
 obtain ⟨R, as, n, z, rfl, hR, hN, hT, hn, hti, hz, q⟩ := h
 have nd := scNt.nd
 show Run _ _ _ [some (.ref R), some (.str z), none] H
 have mx : ("NoTie" : Str) ∈ xNames := by decide
 refine run_try 2 (fun C σ' H' => C = .ref (c "NoTie") ∧ σ' = [some (.ref R), some (.str z), none] ∧ Same H H') cl.net cl.xnet nd (fun p => ?_) ?_
 ·exact run_expr (ev_hasS GP hr (passT rfl) (ea_cons (ev_v 0 (ea_cons (ev_v 1 (ea_nil ⟨R, as, n, z, rfl, hR, hN, hT, hn, hti, fun _ H' s' => ⟨rfl, rfl, s'⟩, fun k => absurd k hz⟩))))))
 ·rintro C σ' H' ⟨rfl, rfl, s'⟩
  refine ⟨c "NoTie", rfl, (cl.at' _ mx).2.1, (cl.at' _ mx).2.2.1, fun p ea oe ix nea => ?_⟩
  have s1 := same_new nea (XO oe)
  have hE : (upd H' ea (XO oe)) ea = some (XO oe) := upd_same
  have sE := s'.trans s1
  show Run _ _ _ [some (.ref R), some (.str z), some (.ref ea)] (upd H' ea (XO oe))
  generalize upd H' ea (XO oe) = H6 at s1 hE sE
  refine run_ret (ev_and (ev_blt call_isiX T.isi PyProof.Rows.boot_isinstance (ea_cons (ev_v 2 (ea_cons (ev_glob (cl.at' "NoTie" (by decide)).1 (v := .ref (c "NoTie")) rfl (ea_nil ⟨ea, c "NoTie", oe, .ref (c "NoTie"), .ref (c "NoTie"), _, rfl, fun u r => r, hE, ix, (cl.at' _ mx).2.2.2.1, cl.kit _ mx "NoTie" (by decide), _, rfl, ?_⟩)))))))
  rw [decide_eq_true rfl]
  refine iteT (ev_and (ev_blt call_isiX T.isi PyProof.Rows.boot_isinstance (ea_cons (ev_v 2 (ea_cons (ev_bltn (.ty "ValueError") T.vale boot_vale rfl (ea_nil ⟨ea, c "NoTie", oe, .type "ValueError", .ty "ValueError", true, rfl, fun u r => r, hE, ix, (cl.at' _ mx).2.2.2.1, (cl.at' _ mx).2.2.2.2, true, rfl, iteT ?_⟩)))))))
  refine ev_last (ev_not (ev_blt call_isiXT T.isi PyProof.Rows.boot_isinstance (ea_cons (ev_v 2 (ea_cons (ev_tup (ea_cons (ev_glob (cl.at' "NoCorner" (by decide)).1 (v := .ref (c "NoCorner")) rfl (ea_cons (ev_glob (cl.at' "NoWalker" (by decide)).1 (v := .ref (c "NoWalker")) rfl (ea_nil ⟨(by show 2 ≤ sizeLine; decide), fun t ht => ?_⟩)))))))))))
  have s2 := same_new ht (.tup [.ref (c "NoCorner"), .ref (c "NoWalker")])
  refine ea_nil ⟨ea, c "NoTie", oe, t, _, [.ref (c "NoCorner"), .ref (c "NoWalker")], false, rfl, upd_same, fun us r => ?_, s2 _ _ hE, ix, (cl.at' _ mx).2.2.2.1, ?_, false, rfl, q _ (sE.trans s2)⟩
  ·obtain ⟨u, v, rfl, r1, r2⟩ := vals2 r
   cases r1
   cases r2
   rfl
  ·have k1 := cl.kit _ mx "NoCorner" (by decide)
   have k2 := cl.kit _ mx "NoWalker" (by decide)
   rw [show decide (("NoTie" : Str) = "NoCorner") = false by decide] at k1
   rw [show decide (("NoTie" : Str) = "NoWalker") = false by decide] at k2
   show PySem.W.kitAny K _ _ = some false
   unfold PySem.W.kitAny
   rw [k1]
   show PySem.W.kitAny K _ _ = _
   unfold PySem.W.kitAny
   rw [k2]
   rfl
noncomputable abbrev NW : List Str := ["_law_script", "_law_big_here", "_law_rows", "_law_handed", "_law_seats_here", "_law_told_here", "_law_tie", "_law_passes", "_law_found", "_law_pair", "_law_name"]
theorem scLaw : FnScope NW ["_law_script"] (defScope sLaw) := ⟨rfl, rfl, rfl, by decide +kernel, rfl, by decide +kernel, by decide +kernel⟩
theorem ok_law {f : Addr} {fd : FuncData} {c : Str → Addr} (F : Fun K "law" "law" sLaw f fd) (T : Txt mg) (cl : Cl K mg c)
  (GC : Has P w K mg base 6 "_law_cell_at" ["_law_script", "_law_k"] (spCell K)) (GB : Has P w K mg base 6 "_law_big" ["_law_script", "_law_at"] (spBig K)) (GA : Has P w K mg base 6 "_law_names" ["_law_stem", "_law_many"] spNames)
  (GN : Has P w K mg base 6 "_law_net_by" ["_law_big_here", "_law_most", "_law_stem"] spNet) (GY : Has P w K mg base 6 "_law_copy" ["_law_rows"] spCopy) (GS : Has P w K mg base 6 "_law_seats" ["_law_rows"] spSeats)
  (GD : Has P w K mg base 6 "_law_told" ["_law_rows", "_law_seats_here", "_law_walkers"] spTold) (GO : Has P w K mg base 6 "_law_no_tie" ["_law_rows", "_law_name"] spNoT)
  (GW : Has P w K mg base 6 "walkers_of" ["rows"] spWks) (GP : HasX P w K mg base 6 "passes_of" ["rows", "tie"] (spPas c)) :
  FnOk P w K mg base CX0 7 f fd ["_law_script"] (spLaw K) := by
 refine F.gb scLaw (fun vs H Q E h => ?_) (fun b0 H vs Q E hr h => ?_)
 ·obtain ⟨a, ns, rfl, _⟩ := h
  rfl
 obtain ⟨a, ns, rfl, hS, h63, q⟩ := h
 have nd := scLaw.nd
 have un := hr.u100
 have hu1 := hr.u1
 show Run _ _ _ [some (.ref a), none, none, none, none, none, none, none, none, none, none] H
 refine run_set 1 nd (ev_has GB hr (ea_cons (ev_v 0 (ea_cons (ev_int (ea_nil ⟨a, ns, 0, rfl, hS, by decide, fun b H1 s1 => ?_⟩))))))
 refine run_set 2 nd (ev_has GN hr (ea_cons (ev_op op_fdiv (ev_v 1 (ev_int ⟨_, _, rfl, rfl, ⟨by decide, by decide⟩, ?_⟩)))))
 refine ea_cons (ev_int (ea_cons (ev_op op_add (ev_op op_mod (ev_v 1 (ev_int ⟨_, _, rfl, rfl, (by show (0 : Int) < 97; decide), ev_has GC hr (ea_cons (ev_v 0 (ea_cons (ev_int (ea_nil ⟨a, ns, 9, rfl, s1.seq hS, by decide, fun c9 => ⟨_, _, rfl, rfl, ?_⟩⟩)))))⟩))))))
 refine ea_nil ⟨_, 16, _, rfl, by decide, by decide, fun R as n H2 s2 n2 hR hT hN hF hti hnl has => ?_⟩
 have e16 : ((16 : Int)).toNat = 16 := rfl
 rw [e16] at hti hnl
 refine run_set 3 nd (ev_has GY hr (ea_cons (ev_v 2 (ea_nil ⟨R, as, n, rfl, hR, by omega, fun M bs H3 s3 n3 f3 hM => ?_⟩))))
 refine run_set 4 nd (ev_has GS hr (ea_cons (ev_v 2 (ea_nil ⟨R, as, n, rfl, hR.same s3, by omega, by omega, fun ds ks H4 s4 n4 hSe => ?_⟩))))
 refine run_set 5 nd (ev_has GD hr (ea_cons (ev_v 2 (ea_cons (ev_v 4 (ea_cons (ev_has GW hr (ea_cons (ev_v 3 (ea_nil ⟨M, bs, n, rfl, hM.same s4, hN, hT, by omega, by omega, fun W ls H5 s5 n5 hW fW => ?_⟩))))))))))
 have s35 := s3.trans (s4.trans s5)
 refine ea_nil ⟨R, ds, W, as, n, ks, ls, rfl, hR.same s35, hN, hT, by omega, by omega, hSe.same s5, hW, fun L ts ss H6 s6 n6 hTo inS => ?_⟩
 have hM6 := hM.same (s4.trans (s5.trans s6))
 have hR6 := hR.same (s35.trans s6)
 have hS6 := hSe.same (s5.trans s6)
 have ltk := hTo.2.1
 show Run _ _ _ [some (.ref a), some (.int b), some (.ref R), some (.ref M), some (.ref ds), some (.ref L), none, none, none, none, none] H6
 refine run_if (et_cmp op_isN (ev_v 5 (ev_non ⟨rfl, _, rfl, ?_⟩)))
 rw [decide_eq_false (fun k => by cases k)]
 refine iteF (run_nil ?_)
 refine run_forL (ev_v 5 ⟨L, rfl, ⟨_, SqL.of hTo.1⟩, ?_⟩)
 refine loop_list (xs := ts.map V.ref) (fun i σ H' => Same H6 H' ∧ ∃ u6 u7 u8 u9 : Option V, σ = [some (.ref a), some (.int b), some (.ref R), some (.ref M), some (.ref ds), some (.ref L), u6, u7, u8, u9, none]) ⟨fun _ _ h => h, _, _, _, _, rfl⟩ ?_ ?_ ?_
 ·rintro i σ H' _ ⟨sm, _⟩
  exact SqL.of (sm _ _ hTo.1)
 ·rintro i x σ H7 hx ⟨sm, u6, u7, u8, u9, rfl⟩
  rw [List.getElem?_map, Option.map_eq_some_iff] at hx
  obtain ⟨t, ht, rfl⟩ := hx
  have hi : i < ss.length := by
   have := (List.getElem?_eq_some_iff.mp ht).1
   omega
  have hz := List.getElem?_eq_getElem hi
  have hzt := inS _ (List.mem_of_getElem? hz)
  generalize ss[i] = z at hz hzt
  obtain ⟨l, qs, et, hPs⟩ := hTo.2.2 i t z ht hz
  refine eg_pair rfl (SqT.of (sm _ _ et)) (eg_name 6 nd (eg_name 7 nd ?_))
  show Run _ _ _ [some (.ref a), some (.int b), some (.ref R), some (.ref M), some (.ref ds), some (.ref L), some (.str z), some (.ref l), u8, u9, none] H7
  refine run_set 8 nd (ev_hasX GP hr passN (ea_cons (ev_v 3 (ea_cons (ev_v 6 (ea_nil ⟨M, bs, n, z, rfl, hM6.same sm, hN, hT, by omega, by omega, fun k => absurd hzt k, fun _ Lf ts2 H8 s8 n8 hP8 => ?_⟩))))))
  have sm8 := sm.trans s8
  have nLf := free_back sm n8
  show Run _ _ _ [some (.ref a), some (.int b), some (.ref R), some (.ref M), some (.ref ds), some (.ref L), some (.str z), some (.ref l), some (.ref Lf), u9, none] H8
  refine run_if (et_bool (ew_or (et_not (et_val (ev_blt call_isi T.isi PyProof.Rows.boot_isinstance (ea_cons (ev_v 8 (ea_cons (ev_bltn (.ty "list") T.tlist PyProof.Rows.boot_list rfl (ea_nil ⟨_, _, _, true, rfl, .lst hP8.1, k_ll K, true, rfl, iteF ?_⟩))))))))))
  refine ew_or1 (et_cmp (op_neD un) (ev_v 8 (ev_v 7 ⟨3, true, by decide, rnD_ps hP8 (hPs.same sm8), _, rfl, iteF (run_nil ?_)⟩)))
  refine run_forL (ev_v 8 ⟨Lf, rfl, ⟨_, SqL.of hP8.1⟩, ?_⟩)
  refine loop_list (xs := ts2.map V.ref) (fun j σ H' => H' = H8 ∧ ∃ u9 : Option V, σ = [some (.ref a), some (.int b), some (.ref R), some (.ref M), some (.ref ds), some (.ref L), some (.str z), some (.ref l), some (.ref Lf), u9, none]) ⟨rfl, _, rfl⟩ ?_ ?_ ?_
  ·rintro j σ H' _ ⟨rfl, _⟩
   exact SqL.of hP8.1
  ·rintro j x σ H' hx ⟨rfl, u9, rfl⟩
   rw [List.getElem?_map, Option.map_eq_some_iff] at hx
   obtain ⟨p, hp, rfl⟩ := hx
   have hj : j < (pas n z).length := by
    have := (List.getElem?_eq_some_iff.mp hp).1
    have := hP8.2.1
    omega
   obtain ⟨u, q1, q2⟩ := hP8.2.2 j p _ hp (List.getElem?_eq_getElem hj)
   refine eg_name 9 nd ?_
   refine run_if (et_bool (ew_or (et_not (et_val (ev_blt call_isi T.isi PyProof.Rows.boot_isinstance (ea_cons (ev_v 9 (ea_cons (ev_bltn (.ty "tuple") T.ttuple PyProof.Rows.boot_tuple rfl (ea_nil ⟨_, _, _, true, rfl, .tup q1, k_tt K, true, rfl, iteF ?_⟩))))))))))
   refine ew_or (et_not (et_val (ev_blt call_isi T.isi PyProof.Rows.boot_isinstance (ea_cons (ev_ix ix_tup (ev_v 9 (ev_int ⟨p, _, _, .int ((pas n z)[j].1 : Int), rfl, rfl, SqT.of q1, rfl, ea_cons (ev_bltn (.ty "int") T.tint PyProof.Rows.boot_int rfl (ea_nil ⟨_, _, _, true, rfl, .int _, k_ii K, true, rfl, iteF ?_⟩))⟩)))))))
   exact ew_or1 (et_val (ev_blt call_isi T.isi PyProof.Rows.boot_isinstance (ea_cons (ev_ix ix_tup (ev_v 9 (ev_int ⟨p, _, _, .int ((pas n z)[j].1 : Int), rfl, rfl, SqT.of q1, rfl, ea_cons (ev_bltn (.ty "bool") T.tbool PyProof.Rows.boot_bool rfl (ea_nil ⟨_, _, _, false, rfl, .int _, k_ib K, false, rfl, iteF (run_nil (run_nil ⟨rfl, _, rfl⟩))⟩))⟩))))))
  ·rintro σ H' ⟨rfl, u9, rfl⟩
   refine run_expr (ev_m0 PySem.F.plainAttrs_list PySem.F.slot_list_reverse PySem.F.type_list_reverse mt_reverse (ev_v 8 ⟨ty_l hP8.1, Lf, _, rfl, rfl, hP8.1, ?_⟩))
   refine run_expr (ev_append (ev_v 8 ⟨Lf, rfl, ⟨_, upd_same⟩, ev_non ⟨_, upd_same, ?_, ?_⟩⟩))
   ·have := hP8.2.1
    obtain ⟨p0, m0, t0, e0⟩ := pas_one hT (k := 0) (by decide) hzt
    obtain ⟨p1, m1, t1, e1⟩ := pas_one hT (k := 1) (by decide) hzt
    have ep : pas n z = [p0, p1] := by
     show pasK n 0 z ++ pasK n 1 z = _
     rw [e0, e1]
     rfl
    rw [ep] at this
    rw [List.length_reverse, List.length_map, this]
    exact small' (by show 2 ≤ 100000; decide)
   have sm9 : Same H6 (upd (upd H' Lf (.lst (ts2.map V.ref).reverse)) Lf (.lst ((ts2.map V.ref).reverse ++ [.non]))) := same_mut (same_mut sm8 nLf) nLf
   generalize upd (upd H' Lf (.lst (ts2.map V.ref).reverse)) Lf (.lst ((ts2.map V.ref).reverse ++ [.non])) = H9 at sm9
   refine run_if (et_cmp (op_neD un) (ev_hasX GP hr passN (ea_cons (ev_v 3 (ea_cons (ev_v 6 (ea_nil ⟨M, bs, n, z, rfl, hM6.same sm9, hN, hT, by omega, by omega, fun k => absurd hzt k, fun _ L2 ts3 H10 s10 n10 hP10 => ?_⟩)))))))
   exact ev_v 7 ⟨3, true, by decide, rnD_ps hP10 (hPs.same (sm9.trans s10)), _, rfl, iteF (run_nil (run_nil ⟨sm9.trans s10, _, _, _, _, rfl⟩))⟩
 ·rintro σ H7 ⟨sm, u6, u7, u8, u9, rfl⟩
  refine run_forL (ev_has GA hr (ea_cons (ev_op op_mod (ev_v 1 (ev_int ⟨_, _, rfl, rfl, (by show (0 : Int) < 997; decide), ea_cons (ev_int (ea_nil ⟨_, 5, rfl, by decide, by decide, fun ln H8 s8 n8 eln => ⟨ln, rfl, ⟨_, SqL.of eln⟩, ?_⟩⟩))⟩)))))
  have sm8 := sm.trans s8
  generalize namesOf _ _ = nms at eln
  refine loop_list (xs := nms.map V.str) (fun i σ H' => Same H8 H' ∧ ∃ u10 : Option V, σ = [some (.ref a), some (.int b), some (.ref R), some (.ref M), some (.ref ds), some (.ref L), u6, u7, u8, u9, u10]) ⟨fun _ _ h => h, _, rfl⟩ ?_ ?_ ?_
  ·rintro i σ H' _ ⟨sm, _⟩
   exact SqL.of (sm _ _ eln)
  ·rintro i x σ H9 hx ⟨s9, u10, rfl⟩
   rw [List.getElem?_map, Option.map_eq_some_iff] at hx
   obtain ⟨z, _, rfl⟩ := hx
   have sm9 := sm8.trans s9
   obtain ⟨kvS, edS, ekS, evS⟩ := (hS6.same sm9).dict
   refine eg_name 10 nd ?_
   refine run_if (et_bool (ew_and (et_dnotin hu1 (ev_v 10 (ev_v 4 ⟨ds, _, rfl, DGet.k (k := Sum.inr z) edS, ?_⟩)))))
   by_cases hz : z ∈ ties n
   ·obtain ⟨x, us, e1, _⟩ := evS z hz
    rw [e1]
    exact iteF (iteF (run_nil (run_nil ⟨s9, _, rfl⟩)))
   ·have e1 : valV kvS (Sum.inr z) = none := by
     cases e : valV kvS (Sum.inr z) with
     | none => rfl
     | some v =>
      exfalso
      have := valV_in e
      rw [ekS] at this
      obtain ⟨y, hy, hyz⟩ := List.mem_map.mp this
      cases hyz
      exact hz ((hS6.mem _).mp hy)
    rw [e1]
    refine iteT (ew_and1 (et_not (et_val (ev_has GO hr (ea_cons (ev_v 3 (ea_cons (ev_v 10 (ea_nil ⟨M, bs, n, z, rfl, hM6.same sm9, hN, hT, by omega, by omega, hz, fun H10 s10 => ⟨true, rfl, iteF (run_nil (run_nil ⟨s9.trans s10, _, rfl⟩))⟩⟩)))))))))
  ·rintro σ H9 ⟨s9, u10, rfl⟩
   exact run_ret (ev_cmp (op_eqD un) (ev_v 3 (ev_v 2 ⟨3, true, by decide, rcD_rows (hM6.same (sm8.trans s9)) (hR6.same (sm8.trans s9)), q _⟩)))
end
end P3
namespace P3
open PySem L2
theorem all_mk {l : PySem.W.OpenLaw} {w : World} {K : PySem.W.Frag} {h : Heap} {mg : Str → Option Value} {fa : Addr} (X : K.In h) (G : h.Ns mainGlobals mg) (hfa : mg "law" = some (.ref fa))
  (h1 : Df K "ends_round" sEnds) (h2 : Df K "ends_in_order" sOrder) (h3 : Df K "turned_left" sLeft) (h4 : Df K "turned_right" sRightT) (h5 : Df K "other_ends" sOthers) (h6 : Df K "ties_by_end" sByEnd) (h7 : Df K "left_steps" sLS) (h8 : Df K "right_steps" sRS) (h9 : Df K "ties_of" s_ties_of) (h10 : Df K "need_tie" s_need_tie) (h11 : Df K "walkers_of" sWks) (h12 : Df K "walker_from" sWkF) (h13 : Df K "passes_of" s_passes_of) (h14 : Df K "_law_cell_at" sCell) (h15 : Df K "_law_big" sBig) (h16 : Df K "_law_names" sNames) (h17 : Df K "_law_seats" sSeats) (h18 : Df K "_law_other" sOther) (h19 : Df K "_law_step" sStep) (h20 : Df K "_law_face" sFace) (h21 : Df K "_law_put" sPut) (h22 : Df K "_law_net_by" sNet) (h23 : Df K "_law_copy" sCopy) (h24 : Df K "_law_named" s_l_named) (h25 : Df K "_law_told" s_l_told) (h26 : Df K "_law_no_tie" s_l_no_tie) (hl : Df K "law" sLaw)
  (qc : clB K = true)
  (z : ∀ x ∈ (["isinstance", "tuple", "str", "int", "bool", "list", "dict", "set", "enumerate", "zip", "len", "range", "sorted", "max", "all", "ValueError"] : List Str), PySem.W.nsIn K mainGlobals x = some none) :
  ∃ fd : FuncData, (∀ (s : Shared) (v : Value), BindsTo s fd ⟨[v], []⟩ [("_law_script", v)]) ∧ ∀ base : Heap, K.In base → base.Ns mainGlobals mg → FnOk l.prog w K mg base CX0 7 fa fd ["_law_script"] (spLaw K) := by
 have T : Txt mg := ⟨PySem.W.mg_none_of X G (z _ (by simp)), PySem.W.mg_none_of X G (z _ (by simp)), PySem.W.mg_none_of X G (z _ (by simp)), PySem.W.mg_none_of X G (z _ (by simp)), PySem.W.mg_none_of X G (z _ (by simp)), PySem.W.mg_none_of X G (z _ (by simp)), PySem.W.mg_none_of X G (z _ (by simp)), PySem.W.mg_none_of X G (z _ (by simp)), PySem.W.mg_none_of X G (z _ (by simp)), PySem.W.mg_none_of X G (z _ (by simp)), PySem.W.mg_none_of X G (z _ (by simp)), PySem.W.mg_none_of X G (z _ (by simp)), PySem.W.mg_none_of X G (z _ (by simp)), PySem.W.mg_none_of X G (z _ (by simp)), PySem.W.mg_none_of X G (z _ (by simp)), PySem.W.mg_none_of X G (z _ (by simp))⟩
 have cl := cl_of X G qc
 refine hl.law X G hfa (fun _ _ _ _ _ _ s v => .of_eq rfl) fun base f fd F => ?_
 have G1 : Has l.prog w K mg base 1 "ends_round" ["row"] spEnds := h1.has X G (fun _ _ _ _ _ _ => bd1 fun _ => rfl) fun F => ok_ends F T
 have G2 : Has l.prog w K mg base 2 "ends_in_order" ["rows"] spOrd := h2.has X G (fun _ _ _ _ _ _ => bd1 fun _ => rfl) fun F => ok_order F T (G1.mono (by decide))
 have G3 : Has l.prog w K mg base 1 "turned_left" ["end", "many"] (spTL fun j => j + 1) := h3.has X G (fun _ _ _ _ _ _ => bd2 fun _ _ => rfl) fun F => ok_left F T
 have G4 : Has l.prog w K mg base 1 "turned_right" ["end", "many"] (spTL fun j => j - 1) := h4.has X G (fun _ _ _ _ _ _ => bd2 fun _ _ => rfl) fun F => ok_rightT F T
 have G5 : Has l.prog w K mg base 2 "other_ends" ["rows"] spOE := h5.has X G (fun _ _ _ _ _ _ => bd1 fun _ => rfl) fun F => ok_OE F T (G1.mono (by decide))
 have G6 : Has l.prog w K mg base 2 "ties_by_end" ["rows"] spBE := h6.has X G (fun _ _ _ _ _ _ => bd1 fun _ => rfl) fun F => ok_BE F T (G1.mono (by decide))
 have G7 : Has l.prog w K mg base 3 "left_steps" ["rows"] (spLS 1) := h7.has X G (fun _ _ _ _ _ _ => bd1 fun _ => rfl) fun F => ok_LS F T (G5.mono (by decide)) (G3.mono (by decide))
 have G8 : Has l.prog w K mg base 3 "right_steps" ["rows"] (spLS (-1)) := h8.has X G (fun _ _ _ _ _ _ => bd1 fun _ => rfl) fun F => ok_RS F T (G5.mono (by decide)) (G4.mono (by decide))
 have G12 : Has l.prog w K mg base 1 "walker_from" ["lefts", "rights", "first"] spWF := h12.has X G (fun _ _ _ _ _ _ => bd3 fun _ _ _ => rfl) fun F => ok_WF F T
 have G11 : Has l.prog w K mg base 4 "walkers_of" ["rows"] spWks := h11.has X G (fun _ _ _ _ _ _ => bd1 fun _ => rfl) fun F => ok_Wks F T (G7.mono (by decide)) (G8.mono (by decide)) (G6.mono (by decide)) (G2.mono (by decide)) (G12.mono (by decide))
 have G9 : Has l.prog w K mg base 1 "ties_of" ["rows"] spTs := h9.has X G (fun _ _ _ _ _ _ => bd1 fun _ => rfl) fun F => ok_ties F T
 have G10 : HasX l.prog w K mg base 2 "need_tie" ["rows", "tie"] (spNeed (cAd K)) := h10.hasX X G (fun _ _ _ _ _ _ => bd2 fun _ _ => rfl) fun F => ok_need F T cl (G9.mono (by decide))
 have G13 : HasX l.prog w K mg base 5 "passes_of" ["rows", "tie"] (spPas (cAd K)) := h13.hasX X G (fun _ _ _ _ _ _ => bd2 fun _ _ => rfl) fun F => ok_pas F T cl (G10.mono (by decide)) (G6.mono (by decide)) (G11.mono (by decide))
 have G14 : Has l.prog w K mg base 1 "_law_cell_at" ["_law_script", "_law_k"] (spCell K) := h14.has X G (fun _ _ _ _ _ _ => bd2 fun _ _ => rfl) fun F => ok_cell F T
 have G15 : Has l.prog w K mg base 2 "_law_big" ["_law_script", "_law_at"] (spBig K) := h15.has X G (fun _ _ _ _ _ _ => bd2 fun _ _ => rfl) fun F => ok_big F T (G14.mono (by decide))
 have G16 : Has l.prog w K mg base 1 "_law_names" ["_law_stem", "_law_many"] spNames := h16.has X G (fun _ _ _ _ _ _ => bd2 fun _ _ => rfl) fun F => ok_names F T
 have G17 : Has l.prog w K mg base 1 "_law_seats" ["_law_rows"] spSeats := h17.has X G (fun _ _ _ _ _ _ => bd1 fun _ => rfl) fun F => ok_seats F T
 have G18 : Has l.prog w K mg base 1 "_law_other" ["_law_rows", "_law_seats_here", "_law_end"] spOther := h18.has X G (fun _ _ _ _ _ _ => bd3 fun _ _ _ => rfl) fun F => ok_other F T
 have G19 : Has l.prog w K mg base 2 "_law_step" ["_law_rows", "_law_seats_here", "_law_end", "_law_turn"] spStep := h19.has X G (fun _ _ _ _ _ _ => bd4 fun _ _ _ _ => rfl) fun F => ok_step F T (G18.mono (by decide))
 have G20 : Has l.prog w K mg base 3 "_law_face" ["_law_rows", "_law_seats_here", "_law_end"] spFace := h20.has X G (fun _ _ _ _ _ _ => bd3 fun _ _ _ => rfl) fun F => ok_face F T (G19.mono (by decide))
 have G21 : Has l.prog w K mg base 4 "_law_put" ["_law_rows", "_law_big_here", "_law_tie", "_law_point"] spPut := h21.has X G (fun _ _ _ _ _ _ => bd4 fun _ _ _ _ => rfl) fun F => ok_put F T (G17.mono (by decide)) (G20.mono (by decide))
 have G22 : Has l.prog w K mg base 5 "_law_net_by" ["_law_big_here", "_law_most", "_law_stem"] spNet := h22.has X G (fun _ _ _ _ _ _ => bd3 fun _ _ _ => rfl) fun F => ok_net F T (G16.mono (by decide)) (G21.mono (by decide))
 have G23 : Has l.prog w K mg base 1 "_law_copy" ["_law_rows"] spCopy := h23.has X G (fun _ _ _ _ _ _ => bd1 fun _ => rfl) fun F => ok_copy F T
 have G24 : Has l.prog w K mg base 1 "_law_named" ["_law_rows", "_law_ends"] spNamed := h24.has X G (fun _ _ _ _ _ _ => bd2 fun _ _ => rfl) fun F => ok_named F T
 have G25 : Has l.prog w K mg base 2 "_law_told" ["_law_rows", "_law_seats_here", "_law_walkers"] spTold := h25.has X G (fun _ _ _ _ _ _ => bd3 fun _ _ _ => rfl) fun F => ok_told F T (G24.mono (by decide))
 have G26 : Has l.prog w K mg base 6 "_law_no_tie" ["_law_rows", "_law_name"] spNoT := h26.has X G (fun _ _ _ _ _ _ => bd2 fun _ _ => rfl) fun F => ok_nt F T cl (G13.mono (by decide))
 exact ok_law F T cl (G14.mono (by decide)) (G15.mono (by decide)) (G16.mono (by decide)) (G22.mono (by decide)) (G23.mono (by decide)) (G17.mono (by decide)) (G25.mono (by decide)) (G26.mono (by decide)) (G11.mono (by decide)) (G13.mono (by decide))
theorem walk {l : PySem.W.OpenLaw} {q : Program} {loose : List Str} {XP : (Str → Option Value) → Heap → Prop} {YP : World → Heap → Prop} {d : DefRec} {K : Params → PySem.W.Frag} (hn : l.most = some 63) (hdf : d.params.defaults = [])
  (hY : ∀ (w : World) (h : Heap), YP w h → (K w.params).In h)
  (F : ∀ (w : World) (mg : Str → Option Value) (fa : Addr) (h : Heap), (K w.params).In h → h.Ns mainGlobals mg → mg d.name = some (.ref fa) →
   ∃ fd : FuncData, (∀ (s : Shared) (u : Value), BindsTo s fd ⟨[u], []⟩ [("_law_script", u)]) ∧ ∀ base : Heap, (K w.params).In base → base.Ns mainGlobals mg → FnOk l.prog w (K w.params) mg base CX0 7 fa fd ["_law_script"] (spLaw (K w.params))) :
  PySem.W.WalkO q loose XP YP l.row.toRowW d [] (fun f vs => PySem.call f vs) :=
 L2.walk_of (n := 63) (k := 7) (x := "_law_script") (CX := fun _ => CX0) (sp := fun w => spLaw (K w.params)) hn (by decide) hdf ⟨rfl, by decide, by decide⟩ hY F (fun _ _ a ns hl _ hS => ⟨a, ns, rfl, hS, hl, fun _ => rfl⟩) fun _ _ _ _ _ z => z
end P3
-- taken names: the head leaves its twins of these out, so that the compiled file stays small (NOTE.md)
namespace PySem.W.Fast
def tw13060360847127756610 : Unit := ()
def tw3939264937637718254 : Unit := ()
def tw11443936764061638933 : Unit := ()
def tw13284214085591847529 : Unit := ()
def tw7841295215352396083 : Unit := ()
def tw12175937786317057467 : Unit := ()
def tw11850834735924485091 : Unit := ()
def tw8542227665791542216 : Unit := ()
def tw9074792318709635609 : Unit := ()
def tw792633074066712437 : Unit := ()
def tw7612676281711200560 : Unit := ()
def tw295139734764119086 : Unit := ()
def tw11956999073859870905 : Unit := ()
def tw877310839871350321 : Unit := ()
def tw15630306671800681876 : Unit := ()
def tw9593829268036686546 : Unit := ()
def tw8953777060627878640 : Unit := ()
def tw10844226460371980266 : Unit := ()
end PySem.W.Fast
open PySem PySem.W PyProof.Rows
set_option maxRecDepth 100000 in
set_option maxHeartbeats 0 in
theorem PySem.Challenge.cw_threewebs_k31_each_tie_twice_holds : PySem.Challenge.rw_threewebs_k31_each_tie_twice.Holds := by
 w_on; o_law; k_head; (case hw => w_witness2)
 k_fill
 refine P3.walk (l := PySem.Challenge.rw_threewebs_k31_each_tie_twice) rfl rfl (fun w h Y => PySem.W.kIn_of Y) ?F
 case F =>
  intro w mg fa h KX G hmg
  refine' P3.all_mk KX G hmg ?h1 ?h2 ?h3 ?h4 ?h5 ?h6 ?h7 ?h8 ?h9 ?h10 ?h11 ?h12 ?h13 ?h14 ?h15 ?h16 ?h17 ?h18 ?h19 ?h20 ?h21 ?h22 ?h23 ?h24 ?h25 ?h26 ?h0  ?qc ?zz
  case h1 => refine' L2.df_mk ?a ?l ?c ?k; (case a => k_is); (case l => k_is); (case c => k_is); (case k => k_is)
  case h2 => refine' L2.df_mk ?a ?l ?c ?k; (case a => k_is); (case l => k_is); (case c => k_is); (case k => k_is)
  case h3 => refine' L2.df_mk ?a ?l ?c ?k; (case a => k_is); (case l => k_is); (case c => k_is); (case k => k_is)
  case h4 => refine' L2.df_mk ?a ?l ?c ?k; (case a => k_is); (case l => k_is); (case c => k_is); (case k => k_is)
  case h5 => refine' L2.df_mk ?a ?l ?c ?k; (case a => k_is); (case l => k_is); (case c => k_is); (case k => k_is)
  case h6 => refine' L2.df_mk ?a ?l ?c ?k; (case a => k_is); (case l => k_is); (case c => k_is); (case k => k_is)
  case h7 => refine' L2.df_mk ?a ?l ?c ?k; (case a => k_is); (case l => k_is); (case c => k_is); (case k => k_is)
  case h8 => refine' L2.df_mk ?a ?l ?c ?k; (case a => k_is); (case l => k_is); (case c => k_is); (case k => k_is)
  case h9 => refine' L2.df_mk ?a ?l ?c ?k; (case a => k_is); (case l => k_is); (case c => k_is); (case k => k_is)
  case h10 => refine' L2.df_mk ?a ?l ?c ?k; (case a => k_is); (case l => k_is); (case c => k_is); (case k => k_is)
  case h11 => refine' L2.df_mk ?a ?l ?c ?k; (case a => k_is); (case l => k_is); (case c => k_is); (case k => k_is)
  case h12 => refine' L2.df_mk ?a ?l ?c ?k; (case a => k_is); (case l => k_is); (case c => k_is); (case k => k_is)
  case h13 => refine' L2.df_mk ?a ?l ?c ?k; (case a => k_is); (case l => k_is); (case c => k_is); (case k => k_is)
  case h14 => refine' L2.df_mk ?a ?l ?c ?k; (case a => k_is); (case l => k_is); (case c => k_is); (case k => k_is)
  case h15 => refine' L2.df_mk ?a ?l ?c ?k; (case a => k_is); (case l => k_is); (case c => k_is); (case k => k_is)
  case h16 => refine' L2.df_mk ?a ?l ?c ?k; (case a => k_is); (case l => k_is); (case c => k_is); (case k => k_is)
  case h17 => refine' L2.df_mk ?a ?l ?c ?k; (case a => k_is); (case l => k_is); (case c => k_is); (case k => k_is)
  case h18 => refine' L2.df_mk ?a ?l ?c ?k; (case a => k_is); (case l => k_is); (case c => k_is); (case k => k_is)
  case h19 => refine' L2.df_mk ?a ?l ?c ?k; (case a => k_is); (case l => k_is); (case c => k_is); (case k => k_is)
  case h20 => refine' L2.df_mk ?a ?l ?c ?k; (case a => k_is); (case l => k_is); (case c => k_is); (case k => k_is)
  case h21 => refine' L2.df_mk ?a ?l ?c ?k; (case a => k_is); (case l => k_is); (case c => k_is); (case k => k_is)
  case h22 => refine' L2.df_mk ?a ?l ?c ?k; (case a => k_is); (case l => k_is); (case c => k_is); (case k => k_is)
  case h23 => refine' L2.df_mk ?a ?l ?c ?k; (case a => k_is); (case l => k_is); (case c => k_is); (case k => k_is)
  case h24 => refine' L2.df_mk ?a ?l ?c ?k; (case a => k_is); (case l => k_is); (case c => k_is); (case k => k_is)
  case h25 => refine' L2.df_mk ?a ?l ?c ?k; (case a => k_is); (case l => k_is); (case c => k_is); (case k => k_is)
  case h26 => refine' L2.df_mk ?a ?l ?c ?k; (case a => k_is); (case l => k_is); (case c => k_is); (case k => k_is)
  case h0 => refine' L2.df_mk ?a ?l ?c ?k; (case a => k_is); (case l => k_is); (case c => k_is); (case k => k_is)
  case qc => kernel_rfl
  case zz =>
   refine' List.forall_mem_cons.mpr ⟨?_, ?_⟩; k_is
   refine' List.forall_mem_cons.mpr ⟨?_, ?_⟩; k_is
   refine' List.forall_mem_cons.mpr ⟨?_, ?_⟩; k_is
   refine' List.forall_mem_cons.mpr ⟨?_, ?_⟩; k_is
   refine' List.forall_mem_cons.mpr ⟨?_, ?_⟩; k_is
   refine' List.forall_mem_cons.mpr ⟨?_, ?_⟩; k_is
   refine' List.forall_mem_cons.mpr ⟨?_, ?_⟩; k_is
   refine' List.forall_mem_cons.mpr ⟨?_, ?_⟩; k_is
   refine' List.forall_mem_cons.mpr ⟨?_, ?_⟩; k_is
   refine' List.forall_mem_cons.mpr ⟨?_, ?_⟩; k_is
   refine' List.forall_mem_cons.mpr ⟨?_, ?_⟩; k_is
   refine' List.forall_mem_cons.mpr ⟨?_, ?_⟩; k_is
   refine' List.forall_mem_cons.mpr ⟨?_, ?_⟩; k_is
   refine' List.forall_mem_cons.mpr ⟨?_, ?_⟩; k_is
   refine' List.forall_mem_cons.mpr ⟨?_, ?_⟩; k_is
   refine' List.forall_mem_cons.mpr ⟨?_, ?_⟩; k_is
   exact fun x hx => nomatch hx

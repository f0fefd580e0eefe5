import PyProof.Rows.All
import Wide.All
import OpenK.AllK
import Wide.FinOn
import Lean
import PyProof.EqAt
import PyProof.EqKinds
import PyProof.TupleCall
import KE.KDictLaws
import KE.KDictList
import KE.KDictSum
import KE.KIsAll
import KE.KSortTup
import KE.KUnpack
import KE.KUnpackStar
import PyProof.AttrMissSeq
import PyProof.Conv_int_bool
import PyProof.DictItems
import PyProof.DictIter
import PyProof.DictList
import PyProof.EnumFor
import PyProof.EnumMake
import PyProof.EnumStmt
import PyProof.ExcArgsOwn
import PyProof.ExcAttrAll.ValueError
import PyProof.ExcBaseAll.ValueError
import PyProof.NeKinds
import PyProof.NsDelKeeps
import PyProof.Rows.CatchOwn
import PyProof.Rows.CountFlat
import PyProof.Rows.EnumRows
import PyProof.Rows.FStr
import PyProof.Rows.StrSplitJoin
import PyProof.Rows.StrWeight2
import PyProof.Rows.TupDisplay
import PyProof.RulesTry
import PyProof.SetNew
import PyProof.SetRoads
import PyProof.StationsW
import PyProof.TupleKey
import PyProof.WalkInts
import PyProof.ZipIter
import PySem.Challenge.RW_threewebs_k05_rows_that_hang_and_lie
set_option Elab.async false
set_option linter.all false
set_option maxRecDepth 100000
namespace L2
open PySem PySem.Spec PyProof.Rows
noncomputable abbrev Key := Sum Int Str
noncomputable def keyIs : Key → Value → Bool
 | .inl k, v => Value.isInt k v
 | .inr x, v => Value.isStrOf x v
noncomputable def keyH (w : World) : Key → Int
 | .inl k => hashInt k
 | .inr x => hashStr w x
theorem j1b : ∀ {k : Key} {v : Value}, keyIs k v = true → (∃ i t, k = Sum.inl i ∧ v = Value.int i t) ∨ (∃ x t, k = Sum.inr x ∧ v = Value.str x t)
 | .inl i, v, h => by
  obtain ⟨t, e⟩ := Value.isInt_shape (k := i) (v := v) h
  exact .inl ⟨i, t, rfl, e⟩
 | .inr x, v, h => by
  obtain ⟨t, e⟩ := Value.isStrOf_shape (x := x) (v := v) h
  exact .inr ⟨x, t, rfl, e⟩
theorem keyIs_int (i : Int) (t : Tok) : keyIs (.inl i) (.int i t) = true := by simp [keyIs, Value.isInt]
theorem keyIs_str (x : Str) (t : Tok) : keyIs (.inr x) (.str x t) = true := by simp [keyIs, Value.isStrOf]
theorem key_ll (a b : Int) : decide ((Sum.inl a : Key) = Sum.inl b) = (a == b) := by
 by_cases e : a = b
 ·subst e; simp
 ·have h : ¬ (Sum.inl a : Key) = Sum.inl b := fun q => e (Sum.inl.inj q)
  rw [decide_eq_false h]
  exact (beq_eq_false_iff_ne.mpr e).symm
theorem key_rr (a b : Str) : decide ((Sum.inr a : Key) = Sum.inr b) = decide (a = b) := by
 by_cases e : a = b
 ·subst e; simp
 ·have h : ¬ (Sum.inr a : Key) = Sum.inr b := fun q => e (Sum.inr.inj q)
  rw [decide_eq_false h, decide_eq_false e]
theorem key_lr (a : Int) (b : Str) : decide ((Sum.inl a : Key) = Sum.inr b) = false := decide_eq_false (fun q => nomatch q)
theorem key_rl (a : Str) (b : Int) : decide ((Sum.inr a : Key) = Sum.inl b) = false := decide_eq_false (fun q => nomatch q)
noncomputable def j0o (prog : Program) (w : World) : PySem.KeyKind prog w Key where
 is := keyIs
 hash := keyH w
 inj := fun v a b ha hb => by
  rcases j1b ha with ⟨i, t, rfl, rfl⟩ | ⟨x, t, rfl, rfl⟩
  ·rcases j1b hb with ⟨j, u, rfl, e⟩ | ⟨y, u, rfl, e⟩
   ·injection e with e1 _; rw [e1]
   ·exact nomatch e
  ·rcases j1b hb with ⟨j, u, rfl, e⟩ | ⟨y, u, rfl, e⟩
   ·exact nomatch e
   ·injection e with e1 _; rw [e1]
 byValue := fun k v h => by
  rcases j1b h with ⟨i, t, rfl, rfl⟩ | ⟨x, t, rfl, rfl⟩ <;> rfl
 pyHash := fun hv h => by
  rcases j1b hv with ⟨i, t, rfl, rfl⟩ | ⟨x, t, rfl, rfl⟩
  ·exact wpAny_pyHash_int h
  ·exact wpAny_pyHash_str h
 eqBool := fun hu hv h => by
  rcases j1b hu with ⟨i, t, rfl, rfl⟩ | ⟨x, t, rfl, rfl⟩
  ·rcases j1b hv with ⟨j, u, rfl, rfl⟩ | ⟨y, u, rfl, rfl⟩
   ·rw [key_ll] at h; exact wpAny_eqBool_int h
   ·rw [key_lr] at h; exact SeqAt.EqAt.int_str i t y u _ _ _ _ h
  ·rcases j1b hv with ⟨j, u, rfl, rfl⟩ | ⟨y, u, rfl, rfl⟩
   ·rw [key_rl] at h; exact SeqAt.EqAt.str_int x t j u _ _ _ _ h
   ·rw [key_rr] at h; exact wpAny_eqBool_str h
 «strs» := fun k x t v h => by
  rcases j1b h with ⟨i, u, rfl, e⟩ | ⟨y, u, rfl, e⟩
  ·exact nomatch e
  ·injection e with e1 _
   subst e1
   cases v <;> rfl
theorem mixKind_int (prog : Program) (w : World) (i : Int) (t : Tok) : (j0o prog w).is (.inl i) (.int i t) = true := keyIs_int i t
theorem mixKind_str (prog : Program) (w : World) (x : Str) (t : Tok) : (j0o prog w).is (.inr x) (.str x t) = true := keyIs_str x t
end L2
namespace L2
open PySem PySem.Spec PyProof.Rows
inductive V where
 | non | bl (b : Bool) | int (i : Int) | str (x : Str) | byt (b : Array UInt8) | flt (b : UInt64) | ref (a : Addr) | ty (n : String)
 deriving DecidableEq
noncomputable def RelV : V → Value → Prop
 | .non, u => u = Value.none
 | .bl b, u => u = Value.bool b
 | .int i, u => ∃ t, u = Value.int i t
 | .str x, u => ∃ t, u = Value.str x t
 | .byt b, u => ∃ t, u = Value.bytes b t
 | .flt b, u => ∃ t, u = Value.float b t
 | .ref a, u => u = Value.ref a
 | .ty n, u => u = Value.type n
noncomputable abbrev Vals : List V → List Value → Prop := Paired RelV
theorem Vals.length {xs : List V} {us : List Value} (r : Vals xs us) : xs.length = us.length := Paired.length r
theorem Vals.get : ∀ {xs : List V} {us : List Value} {i : Nat} {x : V}, Vals xs us → xs[i]? = some x → ∃ u, us[i]? = some u ∧ RelV x u
 | _, _, _, _, .nil, e => by simp at e
 | _, _, 0, _, .cons r _, e => by simp at e; subst e; exact ⟨_, rfl, r⟩
 | _, _, i + 1, x, .cons _ t, e => by
  obtain ⟨u, h1, h2⟩ := Vals.get (i := i) (x := x) t (by simpa using e)
  exact ⟨u, by simpa using h1, h2⟩
theorem Vals.append : ∀ {xs ys : List V} {us ws : List Value}, Vals xs us → Vals ys ws → Vals (xs ++ ys) (us ++ ws)
 | _, _, _, _, .nil, s => s
 | _, _, _, _, .cons r t, s => .cons r (Vals.append t s)
theorem Vals.take : ∀ {xs : List V} {us : List Value} (n : Nat), Vals xs us → Vals (xs.take n) (us.take n)
 | _, _, 0, _ => .nil
 | _, _, _ + 1, .nil => .nil
 | _, _, n + 1, .cons r t => .cons r (Vals.take n t)
theorem Vals.drop : ∀ {xs : List V} {us : List Value} (n : Nat), Vals xs us → Vals (xs.drop n) (us.drop n)
 | _, _, 0, r => r
 | _, _, _ + 1, .nil => .nil
 | _, _, n + 1, .cons _ t => Vals.drop n t
noncomputable def RelO : Option V → Option Value → Prop
 | some v, some u => RelV v u
 | none, none => True
 | _, _ => False
noncomputable def KV {κ : Type} : List (κ × V) → List (κ × Value) → Prop := Paired fun (p : κ × V) (q : κ × Value) => p.1 = q.1 ∧ RelV p.2 q.2
noncomputable def kV : Key → V
 | .inl i => .int i
 | .inr x => .str x
inductive HO where
 | lst (xs : List V)
 | tup (xs : List V)
 | dK (kvs : List (Key × V)) | dT (kvs : List (List Key × V))
 | set (S : Int → Bool) (n : Nat)
 | ins (C dx : Addr) (fs : List (Str × V))
 | own (x : Addr)
 | xd (fs : List (Str × V))
 | met (f x : Addr)
 | rng (lo hi : Int)
 | frz (o : Obj) (u : HO)
 | tbl (ps : Array Value)
 | ext (φ : Heap → Prop)
noncomputable abbrev Hp := Addr → Option HO
noncomputable def upd (H : Hp) (a : Addr) (o : HO) : Hp := fun b => if b = a then some o else H b
theorem j0b {H : Hp} {a : Addr} {o : HO} : upd H a o a = some o := by unfold upd; rw [if_pos rfl]
theorem j0d {H : Hp} {a b : Addr} {o : HO} (h : b ≠ a) : upd H a o b = H b := by unfold upd; rw [if_neg h]
theorem upd_upd {H : Hp} {a : Addr} {o u : HO} : upd (upd H a o) a u = upd H a u := by
 funext b; unfold upd; split <;> rfl
theorem j1q {H : Hp} {a b : Addr} {o u : HO} (h : H a = some o) (h' : H b = some u) (d : o ≠ u) : a ≠ b := by
 intro e; subst e; rw [h] at h'; exact d (Option.some.inj h')
theorem j0f {H : Hp} {a b : Addr} {o : HO} (h : H a = some o) (h' : H b = none) : a ≠ b := by
 intro e; subst e; rw [h] at h'; cases h'
section
variable (P : Program) (w : World)
noncomputable def ObjOk (H : Hp) (h : Heap) (a : Addr) : HO → Prop
 | .lst xs => xs.length ≤ sizeLine ∧ ∃ (its : List Value) (n : Nat), Vals xs its ∧ h.get? a = some { cls := .type "list", data := .seq its.toArray n }
 | .tup xs => xs.length ≤ sizeLine ∧ ∃ its : List Value, Vals xs its ∧ IsTup h a its.toArray
 | .dK kvs => kvs.length ≤ sizeLine ∧ (a == sysModules) = false ∧ ∃ vs, KV kvs vs ∧ h.DictOf (j0o P w) a vs
 | .dT kvs => kvs.length ≤ sizeLine ∧ (a == sysModules) = false ∧ ∃ xs : List (List Key × Addr × Value),
   Paired (fun (p : List Key × V) (q : List Key × Addr × Value) => p.1 = q.1 ∧ H q.2.1 = some (.tup (p.1.map kV)) ∧ RelV p.2 q.2.2) kvs xs ∧
   ∃ o es ep, h.get? a = some o ∧ o.ExactDict ∧ o.data = .dict es ep ∧ es.toList = xs.map (entryOfKey (tupleKind (j0o P w))) ∧ (xs.map (·.1)).Nodup
 | .set S n => h.SetOf (intKind P w) a S n
 | .ins C dx fs => H dx = some (.own a) ∧ fs.length ≤ 1000 ∧ dx ≠ a ∧ h.get? a = some (PySem.W.instObj C dx) ∧
   ∃ mA, h.Ns1 dx mA ∧ (∀ f, RelO (fs.lookup f) (mA f)) ∧ PySem.Within mA (fs.map (·.1))
 | .own _ => ∃ o, h.get? a = some o
 | .xd fs => ∃ mA, h.Ns1 a mA ∧ ∀ f, RelO (fs.lookup f) (mA f)
 | .rng lo hi => ∃ t u v, h.get? a = some { cls := .type "range", data := .fields #[.int lo t, .int hi u, .int 1 v] }
 | .frz o u => h.get? a = some o ∧ ObjOk H h a u
 | .tbl ps => h.get? a = some { cls := .none, data := .fields ps }
 | .met f x => h.get? a = some (PySem.W.methodObj (.ref f) (.ref x))
 | .ext φ => φ h ∧ (∃ o, h.get? a = some o) ∧ ∀ h1 h2 : Heap, φ h1 → (∀ o, h1.get? a = some o → h2.get? a = some o) → φ h2
noncomputable def HOk (H : Hp) (h : Heap) : Prop := ∀ a o, H a = some o → ObjOk P w H h a o
end
section
variable {P : Program} {w : World} {H H' : Hp} {h h' : Heap} {a : Addr} {o : HO}
theorem ObjOk.lt (x : ObjOk P w H h a o) : a < h.objs.size := by
 cases o with
 | lst xs => obtain ⟨_, _, _, _, e⟩ := x; exact Heap.lt_size e
 | tup xs => obtain ⟨_, _, _, p⟩ := x; exact p.lt
 | dK kvs => obtain ⟨_, _, _, _, o, _, _, e, _⟩ := x; exact Heap.lt_size e
 | dT kvs => obtain ⟨_, _, _, _, o, _, _, e, _⟩ := x; exact Heap.lt_size e
 | set S n => obtain ⟨o, _, _, _, e, _⟩ := x; exact Heap.lt_size e
 | ins C dx fs => obtain ⟨_, _, _, e, _⟩ := x; exact Heap.lt_size e
 | own y => obtain ⟨_, e⟩ := x; exact Heap.lt_size e
 | xd fs => obtain ⟨_, ⟨_, _, _, e, _⟩, _⟩ := x; exact Heap.lt_size e
 | rng lo hi => obtain ⟨_, _, _, e⟩ := x; exact Heap.lt_size e
 | frz ob u => obtain ⟨e, _⟩ := x; exact Heap.lt_size e
 | tbl ps => exact Heap.lt_size (show h.get? a = some _ from x)
 | met f y => exact Heap.lt_size (show h.get? a = some _ from x)
 | ext φ => obtain ⟨_, ⟨_, e⟩, _⟩ := x; exact Heap.lt_size e
theorem Paired.mapP {α β : Type} {F G : α → β → Prop} : ∀ {l₁ : List α} {l₂ : List β}, Paired F l₁ l₂ → (∀ a b, F a b → G a b) → Paired G l₁ l₂
 | _, _, .nil, _ => .nil
 | _, _, .cons r t, f => .cons (f _ _ r) (Paired.mapP t f)
theorem ObjOk.stay (x : ObjOk P w H h a o) (k : ∀ b u, (b = a ∨ H b = some (.own a)) → h.get? b = some u → h'.get? b = some u)
  (ho : ∀ b, H b = some (.own a) → H' b = some (.own a)) (ht : ∀ b xs, H b = some (.tup xs) → H' b = some (.tup xs)) : ObjOk P w H' h' a o := by
 induction o with
 | lst xs => obtain ⟨z, its, n, r, e⟩ := x; exact ⟨z, its, n, r, k _ _ (.inl rfl) e⟩
 | tup xs => obtain ⟨z, its, r, ob, e, c⟩ := x; exact ⟨z, its, r, ob, k _ _ (.inl rfl) e, c⟩
 | dK kvs => obtain ⟨z, y, vs, r, ob, es, ep, e, c⟩ := x; exact ⟨z, y, vs, r, ob, es, ep, k _ _ (.inl rfl) e, c⟩
 | dT kvs =>
  obtain ⟨z, y, xs, r, ob, es, ep, e, c⟩ := x
  exact ⟨z, y, xs, Paired.mapP r fun p q z => ⟨z.1, ht _ _ z.2.1, z.2.2⟩, ob, es, ep, k _ _ (.inl rfl) e, c⟩
 | set S n => obtain ⟨ob, es, ep, t, e, c⟩ := x; exact ⟨ob, es, ep, t, k _ _ (.inl rfl) e, c⟩
 | ins C dx fs =>
  obtain ⟨d, z, ne, e, mA, ⟨od, es, ep, e2, c⟩, r⟩ := x
  exact ⟨ho _ d, z, ne, k _ _ (.inl rfl) e, mA, ⟨od, es, ep, k _ _ (.inr d) e2, c⟩, r⟩
 | own y => obtain ⟨ob, e⟩ := x; exact ⟨ob, k _ _ (.inl rfl) e⟩
 | xd fs => obtain ⟨mA, ⟨od, es, ep, e, c⟩, r⟩ := x; exact ⟨mA, ⟨od, es, ep, k _ _ (.inl rfl) e, c⟩, r⟩
 | rng lo hi => obtain ⟨t, u, v, e⟩ := x; exact ⟨t, u, v, k _ _ (.inl rfl) e⟩
 | frz ob u ih => obtain ⟨e, q⟩ := x; exact ⟨k _ _ (.inl rfl) e, ih q⟩
 | tbl ps =>
  have e : h.get? a = some { cls := .none, data := .fields ps } := x
  show h'.get? a = some { cls := .none, data := .fields ps }
  exact k a _ (.inl rfl) e
 | met f y =>
  have e : h.get? a = some (PySem.W.methodObj (.ref f) (.ref y)) := x
  show h'.get? a = some (PySem.W.methodObj (.ref f) (.ref y))
  exact k a _ (.inl rfl) e
 | ext φ => obtain ⟨p, ⟨o, e⟩, st⟩ := x; exact ⟨st _ _ p fun o q => k _ _ (.inl rfl) q, ⟨o, k _ _ (.inl rfl) e⟩, st⟩
theorem HOk.lt (x : HOk P w H h) (e : H a = some o) : a < h.objs.size := (x a o e).lt
theorem HOk.fresh (x : HOk P w H h) (e : h.objs.size ≤ a) : H a = none := by
 cases q : H a with
 | none => rfl
 | some u => exact absurd (Nat.lt_of_lt_of_le (x.lt q) e) (Nat.lt_irrefl _)
theorem HOk.kept (x : HOk P w H h) (k : ∀ b u, h.get? b = some u → h'.get? b = some u) : HOk P w H h' := fun a o e =>
 (x a o e).stay (fun b u _ q => k b u q) (fun _ q => q) fun _ _ q => q
theorem HOk.laid (x : HOk P w H h) (k : ∀ b u, h.get? b = some u → h'.get? b = some u) (hp : h.objs.size ≤ a) (new : ObjOk P w (upd H a o) h' a o) : HOk P w (upd H a o) h' := fun b u e => by
 have hn := x.fresh hp
 by_cases hb : b = a
 ·subst hb; rw [j0b] at e; cases e; exact new
 ·rw [j0d hb] at e
  exact (x b u e).stay (fun c v _ q => k c v q) (fun c q => by rw [j0d (j0f q hn)]; exact q) fun c xs q => by rw [j0d (j0f q hn)]; exact q
end
noncomputable def Rd (H : Hp) (a : Addr) (u : HO) : Prop := H a = some u ∨ ∃ o, H a = some (.frz o u)
theorem Rd.ok {P : Program} {w : World} {H : Hp} {h : Heap} {a : Addr} {u : HO} (r : Rd H a u) (x : HOk P w H h) : ObjOk P w H h a u := by
 rcases r with r | ⟨o, r⟩
 ·exact x a u r
 ·obtain ⟨_, q⟩ := x a _ r
  exact q
noncomputable def Mut : Option HO → Prop
 | some (.lst _) => True
 | some (.dK _) => True
 | some (.dT _) => True
 | some (.set _ _) => True
 | some (.ins _ _ _) => True
 | some (.ext _) => True
 | _ => False
section
variable {P : Program} {w : World} {H : Hp} {h h' : Heap} {x e : Addr} {o' : HO}
theorem HOk.write (ok : HOk P w H h) (mu : Mut (H x)) (he : e = x ∨ H e = some (.own x)) (k : ∀ b u, b ≠ e → h.get? b = some u → h'.get? b = some u) (heo : ∃ u, h'.get? e = some u)
  (new : ObjOk P w (upd H x o') h' x o') : HOk P w (upd H x o') h' := fun b u q => by
 have nown : ∀ c y, H c = some (.own y) → c ≠ x := fun c y r z => by subst z; rw [r] at mu; exact mu
 have ntup : ∀ c xs, H c = some (.tup xs) → c ≠ x := fun c xs r z => by subst z; rw [r] at mu; exact mu
 by_cases hb : b = x
 ·subst hb; rw [j0b] at q; cases q; exact new
 ·rw [j0d hb] at q
  by_cases hbe : b = e
  ·have q' : H b = some (.own x) := by
    rcases he with z | z
    ·exact absurd (hbe.trans z) hb
    ·rw [hbe]; exact z
   rw [q] at q'; cases q'
   obtain ⟨v, hv⟩ := heo
   exact ⟨v, by rw [hbe]; exact hv⟩
  ·refine (ok b u q).stay (fun c v hc r => k c v ?_ r) (fun c r => by rw [j0d (nown c b r)]; exact r) fun c xs r => by rw [j0d (ntup c xs r)]; exact r
   rcases hc with rfl | hc
   ·exact hbe
   ·rintro rfl
    rcases he with z | z
    ·exact nown c b hc z
    ·rw [hc] at z; cases z; exact hb rfl
end
structure Un (fs ex : List Addr) (H H' : Hp) (h h' : Heap) : Prop where
 keep : ∀ b o, h.get? b = some o → H b = none → b ∉ fs → b ∉ ex → h'.get? b = some o
 slot : ∀ b o, h.get? b = some o → H b = none → b ∈ fs → b ∉ ex → ∃ sl, h'.get? b = some { o with slots := sl }
 free : ∀ b o, h.get? b = some o → H b = none → b ∉ ex → H' b = none
 there : ∀ b o, h.get? b = some o → b ∉ ex → ∃ o', h'.get? b = some o'
 tups : ∀ b xs, H b = some (.tup xs) → H' b = some (.tup xs)
 frzs : ∀ b o u, H b = some (.frz o u) → H' b = some (.frz o u)
 tbls : ∀ b ps, H b = some (.tbl ps) → ∃ more, H' b = some (.tbl (ps ++ more))
section
variable {fs fs' ex ex' : List Addr} {H H1 H2 : Hp} {h h1 h2 h' : Heap} {a x e : Addr} {o : HO}
theorem Un.any (u : Un fs ex H H1 h h1) {b : Addr} {ob : Obj} (q : h.get? b = some ob) (n : H b = none) (hx : b ∉ ex) : ∃ sl, h1.get? b = some { ob with slots := sl } := by
 by_cases hb : b ∈ fs
 ·exact u.slot b ob q n hb hx
 ·exact ⟨ob.slots, u.keep b ob q n hb hx⟩
theorem Un.kept (k : ∀ b u, h.get? b = some u → h'.get? b = some u) : Un fs ex H H h h' :=
 ⟨fun b ob q _ _ _ => k b ob q, fun b ob q _ _ _ => ⟨ob.slots, k b ob q⟩, fun _ _ _ n _ => n, fun b ob q _ => ⟨ob, k b ob q⟩, fun _ _ q => q, fun _ _ _ q => q, fun _ ps q => ⟨#[], by rw [q]; simp⟩⟩
theorem Un.refl : Un fs ex H H h h := Un.kept fun _ _ q => q
theorem Un.laid (k : ∀ b u, h.get? b = some u → h'.get? b = some u) (hp : h.objs.size ≤ a) (hn : H a = none) : Un fs ex H (upd H a o) h h' where
 keep := fun b u q _ _ _ => k b u q
 slot := fun b u q _ _ _ => ⟨u.slots, k b u q⟩
 free := fun b u q n _ => by rw [j0d (Nat.ne_of_lt (Nat.lt_of_lt_of_le (Heap.lt_size q) hp))]; exact n
 there := fun b u q _ => ⟨u, k b u q⟩
 tups := fun b xs q => by rw [j0d (j0f q hn)]; exact q
 frzs := fun b u xs q => by rw [j0d (j0f q hn)]; exact q
 tbls := fun b ps q => ⟨#[], by rw [j0d (j0f q hn), q]; simp⟩
theorem Un.write (mu : Mut (H x)) (he : e = x ∨ H e = some (.own x)) (k : ∀ b u, b ≠ e → h.get? b = some u → h'.get? b = some u) (heo : ∃ u, h'.get? e = some u) : Un fs ex H (upd H x o) h h' := by
 have hx : ∀ b, H b = none → b ≠ x := fun b n z => by subst z; rw [n] at mu; exact mu
 have hb : ∀ b, H b = none → b ≠ e := fun b n z => by
  subst z
  rcases he with r | r
  ·exact hx b n r
  ·rw [n] at r; cases r
 have hm : ∀ b u, H b = some u → ¬ Mut (some u) → b ≠ x := fun b u q nm z => by subst z; rw [q] at mu; exact nm mu
 refine ⟨fun b u q n _ _ => k b u (hb b n) q, fun b u q n _ _ => ⟨u.slots, k b u (hb b n) q⟩, fun b u q n _ => by rw [j0d (hx b n)]; exact n, fun b u q _ => ?_,
  fun b xs q => by rw [j0d (hm b _ q fun z => z)]; exact q, fun b u xs q => by rw [j0d (hm b _ q fun z => z)]; exact q, fun b ps q => ⟨#[], by rw [j0d (hm b _ q fun z => z), q]; simp⟩⟩
 by_cases hbe : b = e
 ·subst hbe; exact heo
 ·exact ⟨u, k b u hbe q⟩
end
noncomputable def trk (h : Heap) (H : Hp) : List Addr := (List.range h.objs.size).filter fun a => (H a).isSome
noncomputable def hidT (h : Heap) (H : Hp) : Heap := PySem.W.hideAll h (trk h H)
theorem hidT_size (h : Heap) (H : Hp) : (hidT h H).objs.size = h.objs.size := PySem.W.hideAll_size _ _
theorem hidT_get {h : Heap} {H : Hp} {b : Addr} {o : Obj} (e : h.get? b = some o) (n : H b = none) : (hidT h H).get? b = some o :=
 PySem.W.hideAll_get _ e fun hm => by
  have q : (H b).isSome = true := (List.mem_filter.mp hm).2
  rw [n] at q; simp at q
theorem of_hidT {h : Heap} {H : Hp} {b : Addr} {o : Obj} (e : (hidT h H).get? b = some o) : h.get? b = some o ∧ H b = none := by
 have e' : h.get? b = some o := PySem.W.of_hideAll (trk h H) e
 refine ⟨e', ?_⟩
 cases q : H b with
 | none => rfl
 | some x =>
  have hm : b ∈ trk h H := List.mem_filter.mpr ⟨List.mem_range.mpr (Heap.lt_size e'), by simp [q]⟩
  have z : (hidT h H).get? b = none := PySem.W.hideAll_none (trk h H) hm
  rw [z] at e; cases e
end L2
namespace L2
open PySem PySem.Spec PyProof.Rows
structure Mod (K : PySem.W.Frag) (mg : Str → Option Value) (base : Heap) : Prop where
 kin : K.In base
 glob : base.Ns mainGlobals mg
 blt : ∃ mb, base.Ns builtinsNs mb ∧ ∀ x : Str, x ≠ "__name__" → mb x = bootBuiltins x
 nolimit : base.NoLimit
structure Cx where
 prog : Program
 w : World
 K : PySem.W.Frag
 mg : Str → Option Value
 base : Heap
 A : Around
 N : List Str
 s₀ : Shared
 H₀ : Hp
 env : Env
 outer : List Env
 stack : List Env
 ex : List Addr
 fn : Str → Bool
 calm : Bool
 pn : List (Addr × Obj)
 xe : Value → Shared → Prop
noncomputable def frs (l : List Env) : List Addr := l.filterMap (·.frame)
noncomputable abbrev Cx.fs (X : Cx) : List Addr := frs X.outer
noncomputable def Vis (sc : Scope) (x : Str) : Prop := sc.names.lookup x = some .local ∨ sc.names.lookup x = some .cell ∨ sc.names.lookup x = some .free
noncomputable def Loc (sc : Scope) (x : Str) : Prop := sc.names.lookup x = some .local ∨ sc.names.lookup x = some .cell
noncomputable def Look (env : Env) (h : Heap) (m : Str → Option Value) (x : Str) (u : Value) : Prop :=
 (env.kindOf x = some .local ∧ m x = some u) ∨ ((env.kindOf x = some .cell ∨ env.kindOf x = some .free) ∧ ∃ c, env.cells.lookup x = some c ∧ h.IsCell c (some u))
structure Cx.Ok (X : Cx) : Prop where
 mod : Mod X.K X.mg X.base
 kind : X.env.scope.kind = .function
 glob : X.env.globals = mainGlobals
 blt : X.env.builtins = builtinsNs
 above : X.s₀.heap.objs.size ≤ X.env.locals
 inj : ∀ x y c, X.env.cells.lookup x = some c → X.env.cells.lookup y = some c → x = y
 has : ∀ x, (X.env.kindOf x = some .cell ∨ X.env.kindOf x = some .free) → ∃ c, X.env.cells.lookup x = some c
 cab : ∀ x c, X.fn x = true → X.env.cells.lookup x = some c → X.s₀.heap.objs.size ≤ c
 hd : X.calm = true → X.A.handled = none
 frames : X.A.frames = some X.stack
 stk : X.stack = X.outer ∨ (X.stack = X.env :: X.outer ∧ X.env.frame = some X.env.locals)
 exf : ∀ b ∈ X.ex, b ≠ X.env.locals ∧ ∀ x c, X.env.cells.lookup x = some c → c ≠ b
 bs : ∀ b o, X.base.get? b = some o → X.s₀.heap.get? b = some o ∧ X.H₀ b = none
 bsz : X.base.objs.size ≤ X.s₀.heap.objs.size
 noex : ∀ b o, X.base.get? b = some o → b ∉ X.ex
 exfs : ∀ b ∈ X.ex, b ∉ X.fs
 funs : X.s₀.heap.FunFrames X.base X.outer
 frf : ∀ b ∈ X.fs, X.H₀ b = none
structure Inv (X : Cx) (pins : List (Addr × Obj)) (σ : List (Option V)) (H : Hp) (s : Shared) : Prop where
 ok : X.Ok
 os : s.os = X.s₀.os
 bare : AllBare s.gens
 base : Un X.fs X.ex X.H₀ H X.s₀.heap s.heap
 loc : ∃ m, s.heap.Ns X.env.locals m ∧ ∀ (i : Nat) (x : Str) (v : V), X.N[i]? = some x → σ[i]? = some (some v) → Vis X.env.scope x → ∃ u, RelV v u ∧ Look X.env s.heap m x u
 cell : ∀ x c, X.env.cells.lookup x = some c → ∃ v, s.heap.IsCell c v
 free : H X.env.locals = none
 freeC : ∀ x c, X.env.cells.lookup x = some c → H c = none
 pin : ∀ p ∈ X.pn ++ pins, s.heap.get? p.1 = some p.2 ∧ H p.1 = none ∧ p.1 ≠ X.env.locals ∧ p.1 ∉ X.fs ∧ ∀ v, p.2.data ≠ .cell v
 hok : HOk X.prog X.w H s.heap
 len : σ.length = X.N.length
section
variable {X : Cx} {pins : List (Addr × Obj)} {σ : List (Option V)} {H H' : Hp} {s : Shared} {h' : Heap}
theorem Cx.Ok.nofr (ok : X.Ok) {b : Addr} {o : Obj} (e : X.base.get? b = some o) : b ∉ X.fs := fun hb => by
 have := (ok.funs.mem hb).1
 rw [e] at this; cases this
theorem Inv.bs (I : Inv X pins σ H s) : ∀ b o, X.base.get? b = some o → s.heap.get? b = some o ∧ H b = none := fun b o e =>
 ⟨I.base.keep b o (I.ok.bs b o e).1 (I.ok.bs b o e).2 (I.ok.nofr e) (I.ok.noex b o e), I.base.free b o (I.ok.bs b o e).1 (I.ok.bs b o e).2 (I.ok.noex b o e)⟩
theorem Inv.bk (I : Inv X pins σ H s) : ∀ b o, X.base.get? b = some o → s.heap.get? b = some o := fun b o e => (I.bs b o e).1
theorem Inv.mod (I : Inv X pins σ H s) : Mod X.K X.mg X.base := I.ok.mod
theorem Inv.kIn (I : Inv X pins σ H s) : X.K.In s.heap := I.ok.mod.kin.keeps I.bk
theorem Inv.lt (I : Inv X pins σ H s) : X.env.locals < s.heap.objs.size := let ⟨_, hn, _⟩ := I.loc; hn.lt
theorem Inv.sz (I : Inv X pins σ H s) : X.s₀.heap.objs.size ≤ s.heap.objs.size := Nat.le_trans I.ok.above (Nat.le_of_lt I.lt)
theorem Inv.nofs (I : Inv X pins σ H s) {a : Addr} (h : s.heap.objs.size ≤ a) : a ∉ X.fs := fun hb => by
 obtain ⟨_, o, ho, _⟩ := I.ok.funs.mem hb
 exact absurd (Nat.lt_of_lt_of_le (Heap.lt_size ho) (Nat.le_trans I.sz h)) (Nat.lt_irrefl _)
theorem Inv.cne (I : Inv X pins σ H s) : ∀ x c, X.env.cells.lookup x = some c → c ≠ X.env.locals := fun x c e z => by
 obtain ⟨v, o, ho, hd⟩ := I.cell x c e
 obtain ⟨m, ⟨o', es, ep, ho', hd', _⟩, _⟩ := I.loc
 rw [z, ho'] at ho; cases ho; rw [hd'] at hd; cases hd
theorem Inv.funs (I : Inv X pins σ H s) : s.heap.FunFrames X.base X.outer := by
 have all : ∀ (l : List Env), (∀ b ∈ frs l, b ∈ X.fs) → X.s₀.heap.FunFrames X.base l → s.heap.FunFrames X.base l := by
  intro l
  induction l with
  | nil => intro _ _; trivial
  | cons env r ih =>
   intro hs hl
   obtain ⟨hk, ⟨L, o, hf, hn, ho, hd⟩, hr⟩ := hl
   have hL : L ∈ X.fs := hs L (by unfold frs; rw [List.filterMap_cons, hf]; exact List.mem_cons_self)
   obtain ⟨sl, e⟩ := I.base.slot L o ho (I.ok.frf L hL) hL fun z => I.ok.exfs L z hL
   exact ⟨hk, ⟨L, _, hf, hn, e, hd⟩, ih (fun b hb => hs b (by unfold frs; rw [List.filterMap_cons, hf]; exact List.mem_cons_of_mem _ hb)) hr⟩
 exact all X.outer (fun _ hb => hb) I.ok.funs
theorem Inv.stack (I : Inv X pins σ H s) : s.heap.FunFrames X.base X.stack := by
 rcases I.ok.stk with e | ⟨e, hf⟩
 ·rw [e]; exact I.funs
 ·rw [e]
  obtain ⟨m, hn, _⟩ := I.loc
  refine .cons (by rw [I.ok.kind]; decide) hf hn ?_ I.funs
  exact Heap.get?_none_of_le (Nat.le_trans I.ok.bsz I.ok.above)
theorem Inv.stkSub (I : Inv X pins σ H s) : ∀ b ∈ frs X.stack, b ∈ X.env.locals :: X.fs := fun b hb => by
 rcases I.ok.stk with e | ⟨e, hf⟩
 ·rw [e] at hb; exact List.mem_cons_of_mem _ hb
 ·rw [e] at hb
  unfold frs at hb
  rw [List.filterMap_cons, hf] at hb
  exact hb
theorem Inv.stkFree (I : Inv X pins σ H s) : ∀ b ∈ frs X.stack, H b = none := fun b hb => by
 rcases List.mem_cons.mp (I.stkSub b hb) with e | hb
 ·rw [e]; exact I.free
 ·obtain ⟨_, o, ho, _⟩ := I.ok.funs.mem hb
  exact I.base.free b o ho (I.ok.frf b hb) fun z => I.ok.exfs b z hb
theorem Inv.step {g' : Array GenState} {t' : Nat} {d' : Drawn} {ch : List Addr} (I : Inv X pins σ H s)
  (hch : ∀ b ∈ ch, (b ∈ X.ex ∨ X.s₀.heap.objs.size ≤ b) ∧ b ≠ X.env.locals ∧ (∀ x c, X.env.cells.lookup x = some c → c ≠ b) ∧ ∀ p ∈ X.pn ++ pins, p.1 ≠ b)
  (keep : ∀ b o, b ≠ X.env.locals → b ∉ X.fs → b ∉ ch → s.heap.get? b = some o → H b = none → h'.get? b = some o)
  (slot : ∀ b o, b ≠ X.env.locals → b ∈ X.fs → b ∉ ch → s.heap.get? b = some o → H b = none → ∃ sl, h'.get? b = some { o with slots := sl }) (free : ∀ b o, b ∉ ch → s.heap.get? b = some o → H b = none → H' b = none)
  (there : ∀ b o, b ∉ ch → s.heap.get? b = some o → ∃ o', h'.get? b = some o')
  (tups : ∀ b xs, H b = some (.tup xs) → H' b = some (.tup xs)) (frzs : ∀ b o u, H b = some (.frz o u) → H' b = some (.frz o u)) (tbls : ∀ b ps, H b = some (.tbl ps) → ∃ more, H' b = some (.tbl (ps ++ more)))
  (ns : ∀ m, s.heap.Ns X.env.locals m → h'.Ns X.env.locals m) (hok : HOk X.prog X.w H' h') (hg : AllBare g') :
  Inv X pins σ H' { s with heap := h', gens := g', drawn := d', toks := t' } := by
 have neL : ∀ b o, X.s₀.heap.get? b = some o → b ≠ X.env.locals := fun b o e => Nat.ne_of_lt (Nat.lt_of_lt_of_le (Heap.lt_size e) I.ok.above)
 have neC : ∀ b o, X.s₀.heap.get? b = some o → b ∉ X.ex → b ∉ ch := fun b o e hx hb => by
  rcases (hch b hb).1 with z | z
  ·exact hx z
  ·exact absurd (Nat.lt_of_lt_of_le (Heap.lt_size e) z) (Nat.lt_irrefl _)
 have cellK : ∀ x c, X.env.cells.lookup x = some c → ∀ v, s.heap.IsCell c v → h'.IsCell c v := fun x c e v ⟨o, ho, hd⟩ => by
  have nch : c ∉ ch := fun z => (hch c z).2.2.1 x c e rfl
  by_cases hc : c ∈ X.fs
  ·obtain ⟨sl, q⟩ := slot c o (I.cne x c e) hc nch ho (I.freeC x c e)
   exact ⟨_, q, hd⟩
  ·exact ⟨o, keep c o (I.cne x c e) hc nch ho (I.freeC x c e), hd⟩
 refine ⟨I.ok, I.os, hg, ⟨fun b o e n hb hx => ?_, fun b o e n hb hx => ?_, fun b o e n hx => ?_, fun b o e hx => ?_, fun b xs e => tups b xs (I.base.tups b xs e), fun b o xs e => frzs b o xs (I.base.frzs b o xs e), fun b ps e => ?_⟩, ?_, fun x c e => ?_, ?_, fun x c e => ?_, fun p hp => ?_, hok, I.len⟩
 ·exact keep b o (neL b o e) hb (neC b o e hx) (I.base.keep b o e n hb hx) (I.base.free b o e n hx)
 ·obtain ⟨sl, e1⟩ := I.base.slot b o e n hb hx
  obtain ⟨sl', e2⟩ := slot b _ (neL b o e) hb (neC b o e hx) e1 (I.base.free b o e n hx)
  exact ⟨sl', e2⟩
 ·obtain ⟨o', e1⟩ := I.base.there b o e hx
  exact free b o' (neC b o e hx) e1 (I.base.free b o e n hx)
 ·obtain ⟨o', e1⟩ := I.base.there b o e hx
  exact there b o' (neC b o e hx) e1
 ·obtain ⟨m1, e1⟩ := I.base.tbls b ps e
  obtain ⟨m2, e2⟩ := tbls b _ e1
  exact ⟨m1 ++ m2, by rw [e2, Array.append_assoc]⟩
 ·obtain ⟨m, hn, hl⟩ := I.loc
  refine ⟨m, ns m hn, fun i x v e1 e2 e3 => ?_⟩
  obtain ⟨u, r, l⟩ := hl i x v e1 e2 e3
  refine ⟨u, r, ?_⟩
  rcases l with l | ⟨k, c, e, z⟩
  ·exact .inl l
  ·exact .inr ⟨k, c, e, cellK x c e _ z⟩
 ·obtain ⟨v, z⟩ := I.cell x c e
  exact ⟨v, cellK x c e v z⟩
 ·obtain ⟨m, ⟨o, _, _, ho, _⟩, _⟩ := I.loc
  exact free _ o (fun z => (hch _ z).2.1 rfl) ho I.free
 ·obtain ⟨v, o, ho, hd⟩ := I.cell x c e
  exact free c o (fun z => (hch c z).2.2.1 x c e rfl) ho (I.freeC x c e)
 ·obtain ⟨e, n, ne, nf, d⟩ := I.pin p hp
  have nch : p.1 ∉ ch := fun z => (hch p.1 z).2.2.2 p hp rfl
  exact ⟨keep p.1 p.2 ne nf nch e n, free p.1 p.2 nch e n, ne, nf, d⟩
theorem Inv.un {t' : Nat} (I : Inv X pins σ H s) (u : Un X.fs [] H H' s.heap h') (hok : HOk X.prog X.w H' h') : Inv X pins σ H' { s with heap := h', toks := t' } := by
 obtain ⟨m, ⟨o, es, ep, ho, r⟩, _⟩ := id I.loc
 obtain ⟨sl, hL⟩ := u.any ho I.free (by simp)
 exact I.step (g' := s.gens) (d' := s.drawn) (ch := []) (fun _ z => nomatch z) (fun b o _ hb _ e n => u.keep b o e n hb (by simp)) (fun b o _ hb _ e n => u.slot b o e n hb (by simp)) (fun b o _ e n => u.free b o e n (by simp)) (fun b o _ e => u.there b o e (by simp)) u.tups u.frzs u.tbls (fun m' hm => by
  obtain ⟨o', es', ep', ho', r'⟩ := hm
  rw [ho] at ho'; cases ho'
  exact ⟨_, es', ep', hL, r'⟩) hok I.bare
theorem Inv.call {g' : Array GenState} {t' : Nat} {d' : Drawn} {ch : List Addr} (I : Inv X pins σ H s) (u : Un (frs X.stack) ch H H' s.heap h') (hok : HOk X.prog X.w H' h') (hg : AllBare g')
  (hch : ∀ b ∈ ch, (b ∈ X.ex ∨ X.s₀.heap.objs.size ≤ b) ∧ b ≠ X.env.locals ∧ (∀ x c, X.env.cells.lookup x = some c → c ≠ b) ∧ ∀ p ∈ X.pn ++ pins, p.1 ≠ b) :
  Inv X pins σ H' { s with heap := h', gens := g', drawn := d', toks := t' } := by
 obtain ⟨m, ⟨o, es, ep, ho, r⟩, _⟩ := id I.loc
 obtain ⟨sl, hL⟩ := u.any ho I.free fun z => (hch _ z).2.1 rfl
 exact I.step (ch := ch) hch (fun b o hL hb hc e n => u.keep b o e n (fun z => (List.mem_cons.mp (I.stkSub b z)).elim hL hb) hc) (fun b o _ _ hc e n => u.any e n hc) (fun b o hc e n => u.free b o e n hc) (fun b o hc e => u.there b o e hc) u.tups u.frzs u.tbls (fun m' hm => by
  obtain ⟨o', es', ep', ho', r'⟩ := hm
  rw [ho] at ho'; cases ho'
  exact ⟨_, es', ep', hL, r'⟩) hok hg
theorem Inv.turned {t' : Nat} {it : Addr} (I : Inv X pins σ H s) (k : ∀ b o, b ≠ it → s.heap.get? b = some o → h'.get? b = some o) (hn : H it = none) (hL : it ≠ X.env.locals)
  (h1 : it ∈ X.ex ∨ X.s₀.heap.objs.size ≤ it) (h2 : ∀ x c, X.env.cells.lookup x = some c → c ≠ it) (h3 : ∀ p ∈ X.pn ++ pins, p.1 ≠ it) : Inv X pins σ H { s with heap := h', toks := t' } := by
 have nit : ∀ b u, H b = some u → b ≠ it := fun b u e z => by rw [z, hn] at e; cases e
 refine I.step (g' := s.gens) (d' := s.drawn) (ch := [it]) (fun b hb => ?_) (fun b o _ _ hc e _ => k b o (fun z => hc (by simp [z])) e) (fun b o _ _ hc e _ => ⟨o.slots, k b o (fun z => hc (by simp [z])) e⟩) (fun _ _ _ _ n => n)
  (fun b o hc e => ⟨o, k b o (fun z => hc (by simp [z])) e⟩) (fun _ _ e => e) (fun _ _ _ e => e) (fun b ps e => ⟨#[], by rw [e]; simp⟩) (fun m hm => ?_) (fun b u e => ?_) I.bare
 ·have e : b = it := by simpa using hb
  subst e
  exact ⟨h1, hL, h2, h3⟩
 ·obtain ⟨o, es, ep, ho, r⟩ := hm
  exact ⟨o, es, ep, k _ o (Ne.symm hL) ho, r⟩
 ·refine (I.hok b u e).stay (fun c v hc q => k c v ?_ q) (fun _ q => q) fun _ _ q => q
  rcases hc with z | z
  ·rw [z]; exact nit b u e
  ·exact nit c _ z
theorem Inv.tok (I : Inv X pins σ H s) (t : Nat) : Inv X pins σ H { s with toks := t } := I.un (h' := s.heap) (t' := t) Un.refl I.hok
theorem Inv.kept {t' : Nat} (I : Inv X pins σ H s) (k : ∀ b u, s.heap.get? b = some u → h'.get? b = some u) : Inv X pins σ H { s with heap := h', toks := t' } := I.un (Un.kept k) (I.hok.kept k)
theorem Inv.laid {a : Addr} {o : HO} {t' : Nat} (I : Inv X pins σ H s) (k : ∀ b u, s.heap.get? b = some u → h'.get? b = some u) (hp : s.heap.objs.size ≤ a) (new : ObjOk X.prog X.w (upd H a o) h' a o) :
  Inv X pins σ (upd H a o) { s with heap := h', toks := t' } := I.un (Un.laid k hp (I.hok.fresh hp)) (I.hok.laid k hp new)
theorem Inv.write {x e : Addr} {o : HO} {t' : Nat} (I : Inv X pins σ H s) (mu : Mut (H x)) (he : e = x ∨ H e = some (.own x)) (k : ∀ b u, b ≠ e → s.heap.get? b = some u → h'.get? b = some u) (heo : ∃ u, h'.get? e = some u)
  (new : ObjOk X.prog X.w (upd H x o) h' x o) : Inv X pins σ (upd H x o) { s with heap := h', toks := t' } := I.un (Un.write mu he k heo) (I.hok.write mu he k heo new)
theorem Inv.pins_of {pins' : List (Addr × Obj)} (I : Inv X pins σ H s) (h : ∀ p ∈ pins', s.heap.get? p.1 = some p.2 ∧ H p.1 = none ∧ p.1 ≠ X.env.locals ∧ p.1 ∉ X.fs ∧ ∀ v, p.2.data ≠ .cell v) : Inv X pins' σ H s :=
 ⟨I.ok, I.os, I.bare, I.base, I.loc, I.cell, I.free, I.freeC, fun p hp => (List.mem_append.mp hp).elim (fun z => I.pin p (List.mem_append_left _ z)) (h p), I.hok, I.len⟩
theorem nodup_ix {N : List Str} (hN : N.Nodup) {i j : Nat} {x : Str} (a : N[i]? = some x) (b : N[j]? = some x) : i = j := by
 obtain ⟨h1, e1⟩ := List.getElem?_eq_some_iff.mp a
 obtain ⟨h2, e2⟩ := List.getElem?_eq_some_iff.mp b
 exact (List.getElem_inj hN).mp (e1.trans e2.symm)
theorem store_ok2 {M : Model} {A : Around} {E : Value → Shared → Prop} {i : Nat} {x : Str} {v : V} {u : Value} {Q : Unit → Shared → Prop} (I : Inv X pins σ H s) (hN : X.N.Nodup) (hi : X.N[i]? = some x) (hx : Loc X.env.scope x) (r : RelV v u)
  (h : ∀ s', Inv X pins (σ.set i (some v)) H s' → (∃ a, Heap.SameBut a s.heap s'.heap ∧ (a = X.env.locals ∨ X.env.cells.lookup x = some a)) → Q () s') (hf : X.fn x = true ∨ X.env.scope.names.lookup x = some .local := by first | exact .inl rfl | exact .inr rfl | assumption) : wpAny M A (storeName X.env x u) Q E s := by
 obtain ⟨m, hn, hl⟩ := id I.loc
 have hcls : (X.env.scope.kind == .class || (X.env.scope.kind == .module && X.env.locals != X.env.globals)) = false := by rw [I.ok.kind]; rfl
 have hiσ : i < σ.length := by rw [I.len]; exact (List.getElem?_eq_some_iff.mp hi).1
 have cne := I.cne
 have tracked : ∀ {a : Addr} {h' : Heap}, (∃ o, s.heap.get? a = some o ∧ H a = none) → Heap.SameBut a s.heap h' → HOk X.prog X.w H h' := fun {a h'} ha hs b ob e => by
  obtain ⟨_, _, hfree⟩ := ha
  refine (I.hok b ob e).stay (fun c w' hc q => (hs.2 c ?_).trans q) (fun _ q => q) fun _ _ q => q
  rintro rfl
  rcases hc with rfl | hc
  ·rw [hfree] at e; cases e
  ·rw [hfree] at hc; cases hc
 rcases hx with hk | hk
 ·refine wpAny_storeName_local hk hn (fun h' hn' hs => ?_) hcls
  obtain ⟨oL, _, _, hoL, _⟩ := id hn
  refine h _ ⟨I.ok, I.os, I.bare, ⟨fun b o e n hb hx => ?_, fun b o e n hb hx => ?_, I.base.free, fun b o e hx => ?_, I.base.tups, I.base.frzs, I.base.tbls⟩, ⟨_, hn', fun j y v' e1 e2 e3 => ?_⟩, fun y c e => ?_, I.free, I.freeC, fun p hp => ?_, tracked ⟨oL, hoL, I.free⟩ hs, by simpa using I.len⟩ ⟨_, hs, .inl rfl⟩
  ·exact (hs.2 b (Nat.ne_of_lt (Nat.lt_of_lt_of_le (Heap.lt_size e) I.ok.above))).trans (I.base.keep b o e n hb hx)
  ·obtain ⟨sl, e1⟩ := I.base.slot b o e n hb hx
   exact ⟨sl, (hs.2 b (Nat.ne_of_lt (Nat.lt_of_lt_of_le (Heap.lt_size e) I.ok.above))).trans e1⟩
  ·obtain ⟨o', e1⟩ := I.base.there b o e hx
   exact ⟨o', (hs.2 b (Nat.ne_of_lt (Nat.lt_of_lt_of_le (Heap.lt_size e) I.ok.above))).trans e1⟩
  ·by_cases hj : j = i
   ·subst hj
    rw [hi] at e1; cases e1
    rw [List.getElem?_set_self hiσ] at e2
    cases e2
    exact ⟨u, r, .inl ⟨hk, by simp⟩⟩
   ·rw [List.getElem?_set_ne (Ne.symm hj)] at e2
    obtain ⟨u', r', q⟩ := hl j y v' e1 e2 e3
    refine ⟨u', r', ?_⟩
    rcases q with ⟨k, e⟩ | ⟨k, c, e, z⟩
    ·refine .inl ⟨k, ?_⟩
     have : y ≠ x := fun e => hj (nodup_ix hN e1 (e ▸ hi))
     simp [this, e]
    ·exact .inr ⟨k, c, e, z.sameBut hs (cne y c e)⟩
  ·obtain ⟨w', z⟩ := I.cell y c e
   exact ⟨w', z.sameBut hs (cne y c e)⟩
  ·obtain ⟨e, n, ne, nf, d⟩ := I.pin p hp
   exact ⟨(hs.2 p.1 ne).trans e, n, ne, nf, d⟩
 ·have hfn : X.fn x = true := by
   rcases hf with z | z
   ·exact z
   ·rw [z] at hk; cases hk
  obtain ⟨c, hc⟩ := I.ok.has x (.inl hk)
  obtain ⟨w', z⟩ := I.cell x c hc
  refine wpAny_storeName_cell I.ok.kind hk hc z (fun h' hc' hs => ?_)
  obtain ⟨oc, hoc, hocd⟩ := id z
  refine h { s with heap := h' } ⟨I.ok, I.os, I.bare, ⟨fun b o e n hb hx => ?_, fun b o e n hb hx => ?_, I.base.free, fun b o e hx => ?_, I.base.tups, I.base.frzs, I.base.tbls⟩, ⟨m, hn.sameBut hs (Ne.symm (cne x c hc)), fun j y v' e1 e2 e3 => ?_⟩, fun y c' e => ?_, I.free, I.freeC, fun p hp => ?_, tracked ⟨oc, hoc, I.freeC x c hc⟩ hs, by simpa using I.len⟩ ⟨c, hs, .inr hc⟩
  ·exact (hs.2 b (Nat.ne_of_lt (Nat.lt_of_lt_of_le (Heap.lt_size e) (I.ok.cab x c hfn hc)))).trans (I.base.keep b o e n hb hx)
  ·obtain ⟨sl, e1⟩ := I.base.slot b o e n hb hx
   exact ⟨sl, (hs.2 b (Nat.ne_of_lt (Nat.lt_of_lt_of_le (Heap.lt_size e) (I.ok.cab x c hfn hc)))).trans e1⟩
  ·obtain ⟨o', e1⟩ := I.base.there b o e hx
   exact ⟨o', (hs.2 b (Nat.ne_of_lt (Nat.lt_of_lt_of_le (Heap.lt_size e) (I.ok.cab x c hfn hc)))).trans e1⟩
  ·by_cases hj : j = i
   ·subst hj
    rw [hi] at e1; cases e1
    rw [List.getElem?_set_self hiσ] at e2
    cases e2
    exact ⟨u, r, .inr ⟨.inl hk, c, hc, hc'⟩⟩
   ·rw [List.getElem?_set_ne (Ne.symm hj)] at e2
    obtain ⟨u', r', q⟩ := hl j y v' e1 e2 e3
    refine ⟨u', r', ?_⟩
    rcases q with q | ⟨k, c', e, z'⟩
    ·exact .inl q
    ·refine .inr ⟨k, c', e, z'.sameBut hs ?_⟩
     rintro rfl
     exact hj (nodup_ix hN e1 (I.ok.inj _ _ _ e hc ▸ hi))
  ·by_cases hcc : c' = c
   ·subst hcc; exact ⟨_, hc'⟩
   ·obtain ⟨w2, z2⟩ := I.cell y c' e
    exact ⟨w2, z2.sameBut hs hcc⟩
  ·obtain ⟨e, n, ne, nf, d⟩ := I.pin p hp
   refine ⟨(hs.2 p.1 ?_).trans e, n, ne, nf, d⟩
   intro q
   rw [q, hoc] at e
   have q' : oc = p.2 := Option.some.inj e
   exact d w' (by rw [← q']; exact hocd)
theorem store_ok {M : Model} {A : Around} {E : Value → Shared → Prop} {i : Nat} {x : Str} {v : V} {u : Value} {Q : Unit → Shared → Prop} (I : Inv X pins σ H s) (hN : X.N.Nodup) (hi : X.N[i]? = some x) (hx : Loc X.env.scope x) (r : RelV v u)
  (h : ∀ s', Inv X pins (σ.set i (some v)) H s' → Q () s') (hf : X.fn x = true ∨ X.env.scope.names.lookup x = some .local := by first | exact .inl rfl | exact .inr rfl | assumption) : wpAny M A (storeName X.env x u) Q E s :=
 store_ok2 I hN hi hx r (fun s' I' _ => h s' I') hf
theorem Inv.call' {s' : Shared} {ch : List Addr} (I : Inv X pins σ H s) (ho : s'.os = s.os) (u : Un (frs X.stack) ch H H' s.heap s'.heap) (hok : HOk X.prog X.w H' s'.heap) (hg : AllBare s'.gens)
  (hch : ∀ b ∈ ch, (b ∈ X.ex ∨ X.s₀.heap.objs.size ≤ b) ∧ b ≠ X.env.locals ∧ (∀ x c, X.env.cells.lookup x = some c → c ≠ b) ∧ ∀ p ∈ X.pn ++ pins, p.1 ≠ b) : Inv X pins σ H' s' := by
 obtain ⟨h', g', d', t', o'⟩ := s'
 have e : o' = s.os := ho
 subst e
 exact I.call (g' := g') (t' := t') (d' := d') u hok hg hch
end
noncomputable abbrev XK := Value → Option Addr → Hp → Prop
noncomputable abbrev St := List (Option V)
noncomputable abbrev VK := V → Hp → Prop
noncomputable abbrev TE := St → Hp → VK → Prop
noncomputable abbrev TT := St → Hp → (Bool → Hp → Prop) → Prop
noncomputable abbrev TA := St → Hp → (List V → Hp → Prop) → Prop
structure Ends where
 nx : St → Hp → Prop
 rt : VK
 bk : St → Hp → Prop := fun _ _ => False
 ct : St → Hp → Prop := fun _ _ => False
noncomputable abbrev TS := Ends → St → Hp → Prop
noncomputable def EP (X : Cx) (pins : List (Addr × Obj)) (σ : St) (Q : VK) (u : Value) (s' : Shared) : Prop := ∃ v H', Inv X pins σ H' s' ∧ RelV v u ∧ Q v H'
noncomputable def TP (X : Cx) (pins : List (Addr × Obj)) (σ : St) (Q : Bool → Hp → Prop) (b : Bool) (s' : Shared) : Prop := ∃ H', Inv X pins σ H' s' ∧ Q b H'
noncomputable def AP (X : Cx) (pins : List (Addr × Obj)) (σ : St) (Q : List V → Hp → Prop) (us : List Value) (s' : Shared) : Prop := ∃ vs H', Inv X pins σ H' s' ∧ Vals vs us ∧ Q vs H'
noncomputable def SP (X : Cx) (pins : List (Addr × Obj)) (D : Ends) (f : Flow) (s' : Shared) : Prop :=
 match f with
 | .next => ∃ σ' H', Inv X pins σ' H' s' ∧ D.nx σ' H'
 | .brk => ∃ σ' H', Inv X pins σ' H' s' ∧ D.bk σ' H'
 | .cont => ∃ σ' H', Inv X pins σ' H' s' ∧ D.ct σ' H'
 | .ret u => ∃ v σ' H', Inv X pins σ' H' s' ∧ RelV v u ∧ D.rt v H'
noncomputable def PE (X : Cx) (e : Expr) (t : TE) : Prop :=
 ∀ (pins : List (Addr × Obj)) (s : Shared) (σ : St) (H : Hp) (Q : VK), Inv X pins σ H s → t σ H Q → wpAny (model X.prog X.w) X.A (eval e X.env) (EP X pins σ Q) X.xe s
noncomputable def PT (X : Cx) (e : Expr) (t : TT) : Prop :=
 ∀ (pins : List (Addr × Obj)) (s : Shared) (σ : St) (H : Hp) (Q : Bool → Hp → Prop), Inv X pins σ H s → t σ H Q → wpAny (model X.prog X.w) X.A (isTrue e X.env (eval e X.env)) (TP X pins σ Q) X.xe s
noncomputable def PW (X : Cx) (e : Expr) (t : TT) : Prop :=
 ∀ (whole : Sem Value) (pins : List (Addr × Obj)) (s : Shared) (σ : St) (H : Hp) (Q : Bool → Hp → Prop), Inv X pins σ H s → t σ H Q → wpAny (model X.prog X.w) X.A (isTrue e X.env whole) (TP X pins σ Q) X.xe s
noncomputable def PA (X : Cx) (es : List Expr) (t : TA) : Prop :=
 ∀ (pos : Pos) (pins : List (Addr × Obj)) (s : Shared) (σ : St) (H : Hp) (Q : List V → Hp → Prop), Inv X pins σ H s → t σ H Q → wpAny (model X.prog X.w) X.A (spliced (backTo pos (starEach es X.env))) (AP X pins σ Q) X.xe s
noncomputable def PS (X : Cx) (st : Stmt) (t : TS) : Prop :=
 ∀ (pins : List (Addr × Obj)) (s : Shared) (σ : St) (H : Hp) (D : Ends), Inv X pins σ H s → t D σ H → wpAny (model X.prog X.w) X.A (exec st X.env) (SP X pins D) X.xe s
noncomputable def PSs (X : Cx) (st : List Stmt) (t : TS) : Prop :=
 ∀ (pins : List (Addr × Obj)) (s : Shared) (σ : St) (H : Hp) (D : Ends), Inv X pins σ H s → t D σ H → wpAny (model X.prog X.w) X.A (execs st X.env) (SP X pins D) X.xe s
theorem thn {α : Type} {t : Sem α} {Q Q' : α → Shared → Prop} {M : Model} {A : Around} {E : Value → Shared → Prop} {s : Shared} (h : wpAny M A t Q E s) (hQ : ∀ a s, Q a s → Q' a s) : wpAny M A t Q' E s := wpAny_mono h hQ fun _ _ x => x
end L2
namespace L2
open PySem PySem.Spec PyProof.Rows
section
variable {X : Cx}
theorem bin {a b : Expr} {ta tb : TE} (ha : PE X a ta) (hb : PE X b tb) {pins : List (Addr × Obj)} {s : Shared} {σ : St} {H : Hp} {R : V → V → Hp → Prop} (I : Inv X pins σ H s) (h : ta σ H fun x H1 => tb σ H1 fun y H2 => R x y H2)
  {α : Type} {Q : α → Shared → Prop} {f : Value → Value → Sem α}
  (hf : ∀ v u s2 x y H2, Inv X pins σ H2 s2 → RelV x v → RelV y u → R x y H2 → wpAny (model X.prog X.w) X.A (f v u) Q X.xe s2) :
  wpAny (model X.prog X.w) X.A (eval a X.env) (fun v s₁ => wpAny (model X.prog X.w) X.A (eval b X.env) (fun u s₂ => wpAny (model X.prog X.w) X.A (f v u) Q X.xe s₂) X.xe s₁) X.xe s := by
 refine thn (ha pins s σ H _ I h) fun v s1 ⟨x, H1, I1, r1, q1⟩ => ?_
 refine thn (hb pins s1 σ H1 _ I1 q1) fun u s2 ⟨y, H2, I2, r2, q2⟩ => ?_
 exact hf v u s2 x y H2 I2 r1 r2 q2
noncomputable def tVar (i : Nat) : TE := fun σ H Q => ∃ v, σ[i]? = some (some v) ∧ Q v H
noncomputable def tC (v : V) : TE := fun _ H Q => Q v H
theorem pe_var {i : Nat} {x : Str} {pos : Pos} (hN : X.N[i]? = some x) (hv : Vis X.env.scope x) (hd : (x == ("__debug__" : Str)) = false := by decide) (hcd : (x == ("__classdict__" : Str)) = false := by decide) : PE X (.Name x pos) (tVar i) := by
 intro pins s σ H Q I h
 obtain ⟨v, e, h⟩ := h
 obtain ⟨m, hn, hl⟩ := I.loc
 obtain ⟨u, r, l⟩ := hl i x v hN e hv
 have fin : EP X pins σ Q u s := ⟨v, H, I, r, h⟩
 rcases l with ⟨hk, hm⟩ | ⟨hk, c, hc, hcell⟩
 ·exact wpAny_Name (wpAny_loadName_local I.ok.kind hk hn hm fin) hd
 ·rcases hk with hk | hk
  ·exact wpAny_Name (wpAny_loadName_cell I.ok.kind hk hc hcell fin) hd
  ·exact wpAny_Name (wpAny_loadName_free I.ok.kind hk hc hcell fin hcd) hd
theorem pe_int {i j pos} : PE X (.Constant (.int i) j pos) (tC (.int i)) := fun _ _ _ H _ I h => wpAny_Constant_int ⟨.int i, H, I.tok _, ⟨_, rfl⟩, h⟩
theorem pe_bl {b j pos} : PE X (.Constant (.bool b) j pos) (tC (.bl b)) := fun _ _ _ H _ I h => Constant_bool ⟨.bl b, H, I, rfl, h⟩
theorem pe_non {j pos} : PE X (.Constant .none j pos) (tC .non) := fun _ _ _ H _ I h => Constant_none ⟨.non, H, I, rfl, h⟩
theorem pe_str {x j pos} : PE X (.Constant (.str x) j pos) (tC (.str x)) := fun _ _ _ H _ I h => Calls.Constant_str ⟨.str x, H, I.tok _, ⟨_, rfl⟩, h⟩
noncomputable def Gl (X : Cx) (x : Str) : Prop := X.env.kindOf x = some .globalImplicit
theorem ld_glob {E : Value → Shared → Prop} {pins : List (Addr × Obj)} {s : Shared} {σ : St} {H : Hp} {x : Str} {u : Value} {pos : Pos} {Q : Value → Shared → Prop} (I : Inv X pins σ H s) (hg : Gl X x) (hm : X.mg x = some u) (h : Q u s)
  (hd : (x == ("__debug__" : Str)) = false := by decide) : wpAny (model X.prog X.w) X.A (eval (.Name x pos) X.env) Q E s :=
 Calls.Name_function_global I.ok.kind hg (Calls.loadGlobal_global (by rw [I.ok.glob]; exact I.mod.glob.keeps I.bk) hm h) hd
theorem ld_blt {E : Value → Shared → Prop} {pins : List (Addr × Obj)} {s : Shared} {σ : St} {H : Hp} {x : Str} {u : Value} {pos : Pos} {Q : Value → Shared → Prop} (I : Inv X pins σ H s) (hg : Gl X x) (hm : X.mg x = none) (hv : bootBuiltins x = some u) (h : Q u s)
  (hn : x ≠ "__name__" := by decide) (hd : (x == ("__debug__" : Str)) = false := by decide) : wpAny (model X.prog X.w) X.A (eval (.Name x pos) X.env) Q E s := by
 obtain ⟨mb, h1, h2⟩ := I.mod.blt
 exact Calls.Name_function_global I.ok.kind hg (Calls.loadGlobal_builtin (by rw [I.ok.glob]; exact I.mod.glob.keeps I.bk) hm (by rw [I.ok.blt]; exact h1.keeps I.bk) ((h2 x hn).trans hv) h) hd
theorem pe_glob {x : Str} {v : V} {u : Value} {pos : Pos} (hg : Gl X x) (hm : X.mg x = some u) (r : RelV v u) (hd : (x == ("__debug__" : Str)) = false := by decide) : PE X (.Name x pos) (tC v) :=
 fun _ _ _ H _ I h => ld_glob I hg hm ⟨v, H, I, r, h⟩ hd
theorem pe_bltn {x : Str} {v : V} {u : Value} {pos : Pos} (hg : Gl X x) (hm : X.mg x = none) (hv : bootBuiltins x = some u) (r : RelV v u) (hn : x ≠ "__name__" := by decide) (hd : (x == ("__debug__" : Str)) = false := by decide) : PE X (.Name x pos) (tC v) :=
 fun _ _ _ H _ I h => ld_blt I hg hm hv ⟨v, H, I, r, h⟩ hn hd
variable {a b : Expr} {ta tb : TE} {pos : Pos}
noncomputable def PC (X : Cx) (op : CmpOp) (a b : Expr) (t : TE) : Prop :=
 ∀ (pins : List (Addr × Obj)) (s : Shared) (σ : St) (H : Hp) (Q : VK), Inv X pins σ H s → t σ H Q →
  wpAny (model X.prog X.w) X.A (eval a X.env) (fun v s₁ => wpAny (model X.prog X.w) X.A (eval b X.env) (fun u s₂ => wpAny (model X.prog X.w) X.A (compareOp op v u) (EP X pins σ Q) X.xe s₂) X.xe s₁) X.xe s
noncomputable def tB (t : TE) : TT := fun σ H Q => t σ H fun x H1 => ∃ c, x = .bl c ∧ Q c H1
theorem pt_cmp {op : CmpOp} {t : TE} (h : PC X op a b t) (h1 : behindInMarks op b = false := by first | exact nobehind _ (by decide) (by decide) | rfl) : PT X (.Compare a [op] [b] pos) (tB t) := by
 intro pins s σ H Q I hw
 refine wpAny_isTrue_Compare1 (thn (h pins s σ H _ I hw) fun v s1 h1 => thn h1 fun u s2 h2 => thn h2 fun c s3 ⟨x, H1, I1, r1, q1⟩ => ?_) h1
 obtain ⟨d, rfl, q⟩ := q1
 cases r1
 exact wpAny_truthy_bool ⟨H1, I1, q⟩
theorem pt_val {e : Expr} {t : TE} (h : PE X e t) (he : ∀ whole, isTrue e X.env whole = (do let v ← whole; standAt e.pos; holding [v] (truthy v)) := by intro _; rfl) : PT X e (tB t) := by
 intro pins s σ H Q I hw
 refine isTrue_plain (thn (h pins s σ H _ I hw) fun v s1 ⟨x, H1, I1, r1, q1⟩ => ?_) (he _)
 obtain ⟨d, rfl, q⟩ := q1
 cases r1
 exact wpAny_truthy_bool ⟨H1, I1, q⟩
variable {tA tB' : TT} {rest : List Expr}
noncomputable def tAnd (t u : TT) : TT := fun σ H Q => t σ H fun c H1 => if c = true then u σ H1 Q else Q false H1
noncomputable def tOr (t u : TT) : TT := fun σ H Q => t σ H fun c H1 => if c = true then Q true H1 else u σ H1 Q
noncomputable def tNot (t : TT) : TT := fun σ H Q => t σ H fun c H1 => Q (!c) H1
theorem pw_and1 (ha : PT X a tA) : PW X (.BoolOp .And [a] pos) tA := by
 intro wh pins s σ H Q I h
 refine isTrue_and (thn (ha pins s σ H Q I h) fun c s1 e => ?_)
 cases c with
 | true => exact isTrue_and_nil e
 | false => exact e
theorem pw_or1 (ha : PT X a tA) : PW X (.BoolOp .Or [a] pos) tA := by
 intro wh pins s σ H Q I h
 refine isTrue_or (thn (ha pins s σ H Q I h) fun c s1 e => ?_)
 cases c with
 | false => exact isTrue_or_nil e
 | true => exact e
theorem pw_and (ha : PT X a tA) (hb : PW X (.BoolOp .And (b :: rest) pos) tB') : PW X (.BoolOp .And (a :: b :: rest) pos) (tAnd tA tB') := by
 intro wh pins s σ H Q I h
 refine isTrue_and (thn (ha pins s σ H _ I h) fun c s1 ⟨H1, I1, q1⟩ => ?_)
 cases c with
 | true => exact hb wh pins s1 σ H1 Q I1 q1
 | false => exact ⟨H1, I1, q1⟩
theorem pw_or (ha : PT X a tA) (hb : PW X (.BoolOp .Or (b :: rest) pos) tB') : PW X (.BoolOp .Or (a :: b :: rest) pos) (tOr tA tB') := by
 intro wh pins s σ H Q I h
 refine isTrue_or (thn (ha pins s σ H _ I h) fun c s1 ⟨H1, I1, q1⟩ => ?_)
 cases c with
 | true => exact ⟨H1, I1, q1⟩
 | false => exact hb wh pins s1 σ H1 Q I1 q1
theorem pt_not (ha : PT X a tA) : PT X (.UnaryOp .Not a pos) (tNot tA) := by
 intro pins s σ H Q I h
 exact isTrue_not (ha pins s σ H (fun c H1 => Q (!c) H1) I h)
noncomputable def tAndV (ta tb : TE) : TE := fun σ H Q => ta σ H fun x H1 => ∃ c, x = .bl c ∧ if c = true then tb σ H1 Q else Q (.bl false) H1
noncomputable def tOrV (ta tb : TE) : TE := fun σ H Q => ta σ H fun x H1 => ∃ c, x = .bl c ∧ if c = true then Q (.bl true) H1 else tb σ H1 Q
theorem pe_one {op} {t : TE} (h : PE X a t) : PE X (.BoolOp op [a] pos) t := fun pins s σ H Q I hw => BoolOp_one (h pins s σ H Q I hw)
theorem pe_and (ha : PE X a ta) (hb : PE X (.BoolOp .And (b :: rest) pos) tb) : PE X (.BoolOp .And (a :: b :: rest) pos) (tAndV ta tb) := by
 intro pins s σ H Q I h
 refine BoolOp_and (thn (ha pins s σ H _ I h) fun v s1 ⟨x, H1, I1, r1, q1⟩ => ?_)
 obtain ⟨c, rfl, q1⟩ := q1
 cases r1
 refine wpAny_truthy_bool ?_
 cases c with
 | true => exact hb pins s1 σ H1 Q I1 q1
 | false => exact ⟨.bl false, H1, I1, rfl, q1⟩
theorem pe_or (ha : PE X a ta) (hb : PE X (.BoolOp .Or (b :: rest) pos) tb) : PE X (.BoolOp .Or (a :: b :: rest) pos) (tOrV ta tb) := by
 intro pins s σ H Q I h
 refine BoolOp_or (thn (ha pins s σ H _ I h) fun v s1 ⟨x, H1, I1, r1, q1⟩ => ?_)
 obtain ⟨c, rfl, q1⟩ := q1
 cases r1
 refine wpAny_truthy_bool ?_
 cases c with
 | false => exact hb pins s1 σ H1 Q I1 q1
 | true => exact ⟨.bl true, H1, I1, rfl, q1⟩
end
end L2
namespace L2
open PySem PySem.Spec PyProof.Rows
noncomputable def SqL (K : PySem.W.Frag) (H : Hp) (a : Addr) (xs : List V) : Prop :=
 Rd H a (.lst xs) ∨
  ∃ (o : Obj) (its : Array Value) (n : Nat), K.lookup a = some o ∧ o.cls = .type "list" ∧ o.dict = none ∧ o.data = .seq its n ∧ its.size ≤ sizeLine ∧ Vals xs its.toList
noncomputable def SqT (K : PySem.W.Frag) (H : Hp) (a : Addr) (xs : List V) : Prop :=
 Rd H a (.tup xs) ∨
  ∃ (o : Obj) (its : Array Value) (n : Nat), K.lookup a = some o ∧ o.cls = .type "tuple" ∧ o.data = .seq its n ∧ its.size ≤ sizeLine ∧ Vals xs its.toList
noncomputable def absV : Value → Option V
 | .none => some .non
 | .bool b => some (.bl b)
 | .int i _ => some (.int i)
 | .str x _ => some (.str x)
 | .bytes b _ => some (.byt b)
 | .float b _ => some (.flt b)
 | .ref a => some (.ref a)
 | .type n => some (.ty n)
 | _ => none
theorem RelV.abs {x : V} {u : Value} (r : RelV x u) : absV u = some x := by
 cases x with
 | non => cases r; rfl
 | bl _ => cases r; rfl
 | int _ => obtain ⟨t, rfl⟩ := r; rfl
 | str _ => obtain ⟨t, rfl⟩ := r; rfl
 | byt _ => obtain ⟨t, rfl⟩ := r; rfl
 | flt _ => obtain ⟨t, rfl⟩ := r; rfl
 | ref _ => cases r; rfl
 | ty _ => cases r; rfl
theorem RelV.inj {x y : V} {u : Value} (r : RelV x u) (q : RelV y u) : x = y := Option.some.inj (r.abs.symm.trans q.abs)
theorem Vals.inj : ∀ {xs ys : List V} {us : List Value}, Vals xs us → Vals ys us → xs = ys
 | _, _, _, .nil, .nil => rfl
 | _, _, _, .cons r t, .cons r' t' => by rw [r.inj r', Vals.inj t t']
section
variable {X : Cx} {pins : List (Addr × Obj)} {σ : St} {H : Hp} {s : Shared} {a : Addr} {xs ys : List V}
theorem SqL.of {K : PySem.W.Frag} (h : H a = some (.lst xs)) : SqL K H a xs := .inl (.inl h)
theorem SqT.of {K : PySem.W.Frag} (h : H a = some (.tup xs)) : SqT K H a xs := .inl (.inl h)
theorem Inv.list (I : Inv X pins σ H s) (h : SqL X.K H a xs) : ∃ its : List Value, Vals xs its ∧ PlainL s.heap a its.toArray ∧ xs.length ≤ sizeLine := by
 rcases h with h | ⟨o, its, n, hk, hc, hd, hs, hz, r⟩
 ·obtain ⟨z, its, n, r, e⟩ := h.ok I.hok
  exact ⟨its, r, ⟨_, n, e, rfl, rfl, rfl⟩, z⟩
 ·refine ⟨its.toList, r, ⟨o, n, I.kIn a o hk, hc, hd, by simpa using hs⟩, ?_⟩
  have e := r.length
  simp only [Array.length_toList] at e
  omega
theorem Inv.tuple (I : Inv X pins σ H s) (h : SqT X.K H a xs) : ∃ its : List Value, Vals xs its ∧ IsTup s.heap a its.toArray ∧ xs.length ≤ sizeLine := by
 rcases h with h | ⟨o, its, n, hk, hc, hs, hz, r⟩
 ·obtain ⟨z, its, r, p⟩ := h.ok I.hok
  exact ⟨its, r, p, z⟩
 ·refine ⟨its.toList, r, ⟨o, I.kIn a o hk, hc, n, by simpa using hs⟩, ?_⟩
  have e := r.length
  simp only [Array.length_toList] at e
  omega
theorem Inv.list_inj (I : Inv X pins σ H s) (h : SqL X.K H a xs) (h' : SqL X.K H a ys) : xs = ys := by
 obtain ⟨its, r, ⟨o, n, e, _, _, d⟩, _⟩ := I.list h
 obtain ⟨its', r', ⟨o', n', e', _, _, d'⟩, _⟩ := I.list h'
 rw [e] at e'; cases e'
 rw [d] at d'
 injection d' with d1 _
 have : its = its' := by simpa using congrArg Array.toList d1
 subst this
 exact r.inj r'
theorem Inv.tuple_inj (I : Inv X pins σ H s) (h : SqT X.K H a xs) (h' : SqT X.K H a ys) : xs = ys := by
 obtain ⟨its, r, ⟨o, e, _, n, d⟩, _⟩ := I.tuple h
 obtain ⟨its', r', ⟨o', e', _, n', d'⟩, _⟩ := I.tuple h'
 rw [e] at e'; cases e'
 rw [d] at d'
 injection d' with d1 _
 have : its = its' := by simpa using congrArg Array.toList d1
 subst this
 exact r.inj r'
end
noncomputable abbrev Cx.wish (X : Cx) (E : Value → Shared → Prop) : Cx := { X with xe := E }
noncomputable abbrev Cx.nox (X : Cx) : Cx := X.wish fun _ _ => False
theorem Cx.Ok.wish {X : Cx} (ok : X.Ok) (E : Value → Shared → Prop) : (X.wish E).Ok :=
 ⟨ok.mod, ok.kind, ok.glob, ok.blt, ok.above, ok.inj, ok.has, ok.cab, ok.hd, ok.frames, ok.stk, ok.exf, ok.bs, ok.bsz, ok.noex, ok.exfs, ok.funs, ok.frf⟩
theorem Cx.Ok.unwish {X : Cx} {E : Value → Shared → Prop} (ok : (X.wish E).Ok) : X.Ok :=
 ⟨ok.mod, ok.kind, ok.glob, ok.blt, ok.above, ok.inj, ok.has, ok.cab, ok.hd, ok.frames, ok.stk, ok.exf, ok.bs, ok.bsz, ok.noex, ok.exfs, ok.funs, ok.frf⟩
section
variable {X : Cx} {pins : List (Addr × Obj)} {σ : St} {H : Hp} {s : Shared} {E : Value → Shared → Prop}
theorem Inv.wish (I : Inv X pins σ H s) (E : Value → Shared → Prop) : Inv (X.wish E) pins σ H s := ⟨I.ok.wish E, I.os, I.bare, I.base, I.loc, I.cell, I.free, I.freeC, I.pin, I.hok, I.len⟩
theorem Inv.unwish (I : Inv (X.wish E) pins σ H s) : Inv X pins σ H s := ⟨I.ok.unwish, I.os, I.bare, I.base, I.loc, I.cell, I.free, I.freeC, I.pin, I.hok, I.len⟩
theorem SP.unwish {D : Ends} {f : Flow} {s' : Shared} (h : SP (X.wish E) pins D f s') : SP X pins D f s' := by
 cases f with
 | next => obtain ⟨σ', H', I, q⟩ := h; exact ⟨σ', H', I.unwish, q⟩
 | brk => obtain ⟨σ', H', I, q⟩ := h; exact ⟨σ', H', I.unwish, q⟩
 | cont => obtain ⟨σ', H', I, q⟩ := h; exact ⟨σ', H', I.unwish, q⟩
 | ret u => obtain ⟨v, σ', H', I, r, q⟩ := h; exact ⟨v, σ', H', I.unwish, r, q⟩
theorem PSs.nox {st : List Stmt} {t : TS} (h : PSs X.nox st t) : PSs X st t := fun pins s σ H D I hw =>
 wpAny_mono (h pins s σ H D (I.wish _) hw) (fun _ _ q => q.unwish) fun _ _ z => False.elim z
end
section
variable {X : Cx} {st : Stmt} {rest : List Stmt} {t u : TS} {e : Expr} {te : TE} {pos : Pos}
noncomputable def tNext : TS := fun D σ H => D.nx σ H
noncomputable def tSeq (t u : TS) : TS := fun D σ H => t { D with nx := u D } σ H
theorem pss_nil : PSs X [] tNext := fun _ _ σ H _ I h => wpAny_execs_nil ⟨σ, H, I, h⟩
theorem pss_cons (h1 : PS X st t) (h2 : PSs X rest u) : PSs X (st :: rest) (tSeq t u) := by
 intro pins s σ H D I h
 refine wpAny_execs_cons (thn (h1 pins s σ H { D with nx := u D } I h) fun f s1 q => ?_)
 cases f with
 | next =>
  obtain ⟨σ', H', I', q⟩ := q
  exact h2 pins s1 σ' H' D I' q
 | ret v => exact q
 | brk => exact q
 | cont => exact q
theorem Inv.quiet {pins : List (Addr × Obj)} {σ : St} {H : Hp} {s : Shared} (I : Inv X pins σ H s) : interactive X.env = false := by simp [interactive, I.ok.kind]
noncomputable def tDrop (te : TE) : TS := fun D σ H => te σ H fun _ H1 => D.nx σ H1
theorem ps_expr (he : PE X e te) (hs : swapsWith e none pos.line X.env = pure false := by rfl) : PS X (.Expr e pos) (tDrop te) := by
 intro pins s σ H D I h
 exact wpAny_Expr_any (thn (he pins s σ H _ I h) fun v s1 ⟨x, H1, I1, r1, q1⟩ => ⟨σ, H1, I1, q1⟩) I.quiet hs
noncomputable def tRet (te : TE) : TS := fun D σ H => te σ H D.rt
theorem ps_ret (he : PE X e te) : PS X (.Return (some e) pos) (tRet te) := by
 intro pins s σ H D I h
 exact wpAny_Return_some (thn (he pins s σ H _ I h) fun v s1 ⟨x, H1, I1, r1, q1⟩ => ⟨x, σ, H1, I1, r1, q1⟩)
noncomputable def tIfS (c : TT) (t u : TS) : TS := fun D σ H => c σ H fun b H1 => if b = true then t D σ H1 else u D σ H1
theorem ps_if {c : Expr} {a b : List Stmt} {tc : TT} (hc : PT X c tc) (ha : PSs X a t) (hb : PSs X b u) : PS X (.If c a b pos) (tIfS tc t u) := by
 intro pins s σ H D I h
 refine wpAny_If (thn (hc pins s σ H _ I h) fun d s1 ⟨H1, I1, q1⟩ => ?_)
 cases d with
 | true => exact ha pins s1 σ H1 D I1 q1
 | false => exact hb pins s1 σ H1 D I1 q1
end
noncomputable abbrev TG := V → St → Hp → (St → Hp → Prop) → Prop
noncomputable abbrev TGs := List V → St → Hp → (St → Hp → Prop) → Prop
noncomputable def PG (X : Cx) (target : Expr) (t : TG) : Prop :=
 ∀ (pins : List (Addr × Obj)) (s : Shared) (σ : St) (H : Hp) (v : V) (u : Value) (Q : St → Hp → Prop), Inv X pins σ H s → RelV v u → t v σ H Q →
  wpAny (model X.prog X.w) X.A (assign target X.env u) (fun _ s' => ∃ σ' H', Inv X pins σ' H' s' ∧ Q σ' H') X.xe s
noncomputable def PGs (X : Cx) (ts : List Expr) (t : TGs) : Prop :=
 ∀ (pins : List (Addr × Obj)) (s : Shared) (σ : St) (H : Hp) (vs : List V) (us : List Value) (Q : St → Hp → Prop), Inv X pins σ H s → Vals vs us → t vs σ H Q →
  wpAny (model X.prog X.w) X.A (assignInOrder ((assignEach ts X.env).map (·.2)) us) (fun _ s' => ∃ σ' H', Inv X pins σ' H' s' ∧ Q σ' H') X.xe s
noncomputable abbrev TIp := V → V → Hp → VK → Prop
noncomputable def PIp (X : Cx) (op : Operator) (t : TIp) : Prop :=
 ∀ (pins : List (Addr × Obj)) (s : Shared) (σ : St) (H : Hp) (x y : V) (v u : Value) (Q : VK), Inv X pins σ H s → RelV x v → RelV y u → t x y H Q →
  wpAny (model X.prog X.w) X.A (inplaceOp op v u) (EP X pins σ Q) X.xe s
section
variable {X : Cx} {pos : Pos}
noncomputable def gName (i : Nat) : TG := fun v σ H Q => Q (σ.set i (some v)) H
theorem pg_name {i : Nat} {x : Str} (hN : X.N.Nodup) (hi : X.N[i]? = some x) (hx : Loc X.env.scope x) (hf : X.fn x = true ∨ X.env.scope.names.lookup x = some .local := by first | exact .inl rfl | exact .inr rfl | assumption) : PG X (.Name x pos) (gName i) := by
 intro pins s σ H v u Q I r h
 exact wpAny_assign_Name (store_ok I hN hi hx r (fun s' I' => ⟨_, H, I', h⟩) hf)
noncomputable def gNil : TGs := fun vs σ H Q => vs = [] ∧ Q σ H
noncomputable def gCons (t : TG) (u : TGs) : TGs := fun vs σ H Q => ∃ v r, vs = v :: r ∧ t v σ H fun σ' H' => u r σ' H' Q
theorem pgs_nil : PGs X [] gNil := by
 intro pins s σ H vs us Q I r h
 obtain ⟨e, h⟩ := h
 subst e
 cases r
 exact assignInOrder_nil ⟨σ, H, I, h⟩
theorem pgs_cons {e : Expr} {es : List Expr} {t : TG} {u : TGs} (h1 : PG X e t) (h2 : PGs X es u)
  (hs : (assignEach (e :: es) X.env).map (·.2) = assign e X.env :: (assignEach es X.env).map (·.2) := by rfl) : PGs X (e :: es) (gCons t u) := by
 intro pins s σ H vs us Q I r h
 obtain ⟨v, vr, e1, h⟩ := h
 subst e1
 cases r with
 | cons r rr =>
  rw [hs]
  refine assignInOrder_cons (thn (h1 pins s σ H _ _ _ I r h) fun _ s1 ⟨σ1, H1, I1, q1⟩ => ?_)
  exact h2 pins s1 σ1 H1 _ _ Q I1 rr q1
noncomputable def gTup (K : PySem.W.Frag) (n : Nat) (t : TGs) : TG := fun v σ H Q => ∃ a xs, v = .ref a ∧ SqT K H a xs ∧ xs.length = n ∧ t xs σ H Q
theorem pg_tup {es : List Expr} {k : Nat} {t : TGs} {n : Nat} (hc : X.calm = true) (h : PGs X es t)
  (hn : (assignEach es X.env).length = n := by rfl) (hst : (assignEach es X.env).findIdx? (·.1) = none := by rfl) : PG X (.Tuple es k pos) (gTup X.K n t) := by
 intro pins s σ H v u Q I r hw
 obtain ⟨a, xs, e1, hq, hl, hw⟩ := hw
 subst e1
 cases r
 obtain ⟨its, rv, ht, hz⟩ := I.tuple hq
 refine assign_Tuple_tuple (I.ok.hd hc) ht (by simp [hn, ← hl, rv.length]) hst fun h' hx => ?_
 have I1 : Inv X pins σ H { s with heap := h' } := I.kept (t' := s.toks) fun b o e => hx b o (Nat.ne_of_lt (Heap.lt_size e)) e
 exact h pins _ σ H xs _ Q I1 (by simpa using rv) hw
noncomputable def tAsg (te : TE) (g : TG) : TS := fun D σ H => te σ H fun x H1 => g x σ H1 D.nx
theorem ps_asg {tg e : Expr} {te : TE} {g : TG} (he : PE X e te) (hg : PG X tg g) (hs : swapsWithSole [tg] e pos.line X.env = pure false := by rfl) (hw : swappedStores [tg] e X.env = pure none := by rfl)
  (h1 : (assignEach [tg] X.env).map (·.2) = [assign tg X.env] := by rfl) : PS X (.Assign [tg] e pos) (tAsg te g) := by
 intro pins s σ H D I h
 refine wpAny_Assign_stores (thn (he pins s σ H _ I h) fun v s1 ⟨x, H1, I1, r1, q1⟩ => ?_) hs hw
 rw [h1]
 exact thn (hg pins s1 σ H1 x v _ I1 r1 q1) fun _ s2 q => q
theorem ps_set {i : Nat} {x : Str} {e : Expr} {te : TE} {pos' : Pos} (hN : X.N.Nodup) (hi : X.N[i]? = some x) (hx : Loc X.env.scope x) (he : PE X e te) (hs : swapsWith e (some (.Name x pos')) pos.line X.env = pure false := by rfl) (hf : X.fn x = true ∨ X.env.scope.names.lookup x = some .local := by first | exact .inl rfl | exact .inr rfl | assumption) :
  PS X (.Assign [.Name x pos'] e pos) (tAsg te (gName i)) := by
 intro pins s σ H D I h
 refine wpAny_Assign_Name (thn (he pins s σ H _ I h) fun v s1 ⟨y, H1, I1, r1, q1⟩ => ?_) hs
 exact store_ok I1 hN hi hx r1 (fun s2 I2 => ⟨_, H1, I2, q1⟩) hf
noncomputable def tAug (i : Nat) (te : TE) (ti : TIp) : TS := fun D σ H => ∃ x, σ[i]? = some (some x) ∧ te σ H fun y H1 => ti x y H1 fun z H2 => D.nx (σ.set i (some z)) H2
theorem ps_aug {i : Nat} {x : Str} {e : Expr} {te : TE} {op : Operator} {ti : TIp} {pos' : Pos} (hN : X.N.Nodup) (hi : X.N[i]? = some x) (hx : Loc X.env.scope x) (he : PE X e te) (ho : PIp X op ti) (hf : X.fn x = true ∨ X.env.scope.names.lookup x = some .local := by first | exact .inl rfl | exact .inr rfl | assumption) :
  PS X (.AugAssign (.Name x pos') op e pos) (tAug i te ti) := by
 intro pins s σ H D I h
 obtain ⟨v, e1, h⟩ := h
 obtain ⟨m, hn, hl⟩ := I.loc
 have vis : Vis X.env.scope x := by rcases hx with k | k; exact .inl k; exact .inr (.inl k)
 obtain ⟨u, r, l⟩ := hl i x v hi e1 vis
 refine wpAny_AugAssign_Name ?_
 have go : wpAny (model X.prog X.w) X.A (eval e X.env) (fun w s₂ => wpAny (model X.prog X.w) X.A (inplaceOp op u w) (fun r s₃ => wpAny (model X.prog X.w) X.A (storeName X.env x r) (fun _ => SP X pins D .next) X.xe s₃) X.xe s₂) X.xe s := by
  refine thn (he pins s σ H _ I h) fun w s1 ⟨y, H1, I1, r1, q1⟩ => ?_
  refine thn (ho pins s1 σ H1 v y u w _ I1 r r1 q1) fun z s2 ⟨zv, H2, I2, r2, q2⟩ => ?_
  exact store_ok I2 hN hi hx r2 (fun s3 I3 => ⟨_, H2, I3, q2⟩) hf
 rcases l with ⟨hk, hm⟩ | ⟨hk, c, hc, hcell⟩
 ·exact wpAny_loadName_local I.ok.kind hk hn hm go
 ·rcases hk with hk | hk
  ·exact wpAny_loadName_cell I.ok.kind hk hc hcell go
  ·rcases hx with k | k
   ·have : X.env.scope.names.lookup x = some .free := hk
    rw [k] at this; cases this
   ·have : X.env.scope.names.lookup x = some .free := hk
    rw [k] at this; cases this
noncomputable def ipI (f : Int → Int → Int) : TIp := fun x y H Q => ∃ i j, x = .int i ∧ y = .int j ∧ Q (.int (f i j)) H
theorem ip_add : PIp X .Add (ipI fun i j => i + j) := by
 intro pins s σ H x y v u Q I r1 r2 h
 obtain ⟨i, j, e1, e2, q⟩ := h
 subst e1; subst e2
 obtain ⟨t, rfl⟩ := r1
 obtain ⟨t', rfl⟩ := r2
 exact iadd_int ⟨.int _, H, I.tok _, ⟨_, rfl⟩, q⟩
end
section
variable {X : Cx} {pos : Pos}
noncomputable def tWhile (c : TT) (tb : TS) : TS := fun D σ H => ∃ W : Nat → St → Hp → Prop, (∃ m, W m σ H) ∧ ∀ m σ H, W m σ H →
 c σ H fun b H1 => if b = true then ∃ N : St → Hp → Prop, (∀ σ' H', N σ' H' → ∃ m', m' < m ∧ W m' σ' H') ∧ tb { D with nx := N, ct := N, bk := D.nx } σ H1 else D.nx σ H1
theorem ps_while {c : Expr} {body : List Stmt} {tc : TT} {tb : TS} (hp : PassesOwn (model X.prog X.w) X.A X.env X.xe) (hc : PT X c tc) (hb : PSs X body tb) : PS X (.While c body [] pos) (tWhile tc tb) := by
 intro pins s σ H D I h
 obtain ⟨W, ⟨m0, w0⟩, turn⟩ := h
 refine wpAny_While (codeAny_whileLoop (fun n s' => ∃ σ' H', Inv X pins σ' H' s' ∧ W n σ' H') ?_ m0 ⟨σ, H, I, w0⟩)
 rintro n s1 ⟨σ1, H1, I1, w1⟩
 refine wpAny_passesOwn hp (thn (hc pins s1 σ1 H1 _ I1 (turn n σ1 H1 w1)) fun b s2 ⟨H2, I2, q2⟩ => ?_)
 cases b with
 | true =>
  obtain ⟨N, hN, q2⟩ := q2
  rw [if_pos rfl]
  refine wpAny_passesOwn hp (thn (hb pins s2 σ1 H2 _ I2 q2) fun f s3 q3 => ?_)
  cases f with
  | next =>
   obtain ⟨σ3, H3, I3, n3⟩ := q3
   obtain ⟨m', hm, w3⟩ := hN σ3 H3 n3
   exact ⟨m', hm, σ3, H3, I3, w3⟩
  | cont =>
   obtain ⟨σ3, H3, I3, n3⟩ := q3
   obtain ⟨m', hm, w3⟩ := hN σ3 H3 n3
   exact ⟨m', hm, σ3, H3, I3, w3⟩
  | brk => exact q3
  | ret v => exact q3
 | false =>
  rw [if_neg Bool.false_ne_true]
  exact wpAny_execs_nil ⟨σ1, H2, I2, q2⟩
end
structure It where
 go : Nat → Hp → Prop
 yld : Nat → Hp → V → Hp → Prop
 stop : Nat → Hp → Prop
noncomputable def FpOk (X : Cx) (pins : List (Addr × Obj)) (H : Hp) (b : Addr) : Prop :=
 H b = none ∧ b ≠ X.env.locals ∧ b ∉ X.fs ∧ (b ∈ X.ex ∨ X.s₀.heap.objs.size ≤ b) ∧ (∀ x c, X.env.cells.lookup x = some c → c ≠ b) ∧ ∀ p ∈ X.pn ++ pins, p.1 ≠ b
theorem Inv.fpOk {X : Cx} {pins : List (Addr × Obj)} {σ : St} {H H' : Hp} {s : Shared} {b : Addr} (I : Inv X pins σ H s) (hb : s.heap.objs.size ≤ b) (hn : H' b = none) : FpOk X pins H' b := by
 refine ⟨hn, Nat.ne_of_gt (Nat.lt_of_lt_of_le I.lt hb), I.nofs hb, .inr (Nat.le_trans I.sz hb), fun x c e z => ?_, fun p hp z => ?_⟩
 ·obtain ⟨v, q⟩ := I.cell x c e
  exact absurd (Nat.lt_of_lt_of_le q.lt (by rw [z]; exact hb)) (Nat.lt_irrefl _)
 ·exact absurd (Nat.lt_of_lt_of_le (Heap.lt_size (I.pin p hp).1) (by rw [z]; exact hb)) (Nat.lt_irrefl _)
structure Turn (P : Program) (w : World) (K : PySem.W.Frag) (tg : Expr) (J : It) (fp : List Addr) (it : Addr) (tn : Nat → Heap → Prop) : Prop where
 mem : it ∈ fp
 obj : ∀ i h, tn i h → ∀ b ∈ fp, ∃ o, h.get? b = some o ∧ ∀ v, o.data ≠ .cell v
 keep : ∀ i h h', tn i h → (∀ b ∈ fp, ∀ o, h.get? b = some o → h'.get? b = some o) → tn i h'
 item : ∀ (X : Cx), X.prog = P → X.w = w → X.K = K → X.calm = true → ∀ (i : Nat) (pins : List (Addr × Obj)) (s : Shared) (σ : St) (H : Hp) (E : Value → Shared → Prop), Inv X pins σ H s → (∀ b ∈ fp, FpOk X pins H b) → tn i s.heap → J.go i H →
  wpAny (model P w) X.A (pyNext (.ref it)) (fun r s1 => ∃ u, r = some u ∧
   wpAny (model P w) X.A (letOwnedTupleGo tg (.ref it) u) (fun _ s2 => ∃ x H', Inv X pins σ H' s2 ∧ RelV x u ∧ J.yld i H x H' ∧ tn (i + 1) s2.heap ∧ ∀ b ∈ fp, H' b = none) E s1) E s
 done : ∀ (X : Cx), X.prog = P → X.w = w → X.K = K → X.calm = true → ∀ (i : Nat) (pins : List (Addr × Obj)) (s : Shared) (σ : St) (H : Hp) (E : Value → Shared → Prop), Inv X pins σ H s → (∀ b ∈ fp, FpOk X pins H b) → tn i s.heap → J.stop i H →
  wpAny (model P w) X.A (pyNext (.ref it)) (fun r s1 => r = none ∧ Inv X pins σ H s1) E s
 self : ∀ (A : Around) (i : Nat) (s : Shared) (Q : Value → Shared → Prop) (E : Value → Shared → Prop), tn i s.heap → Q (.ref it) s → wpAny (model P w) A (pyIter (.ref it)) Q E s
noncomputable abbrev TI := St → Hp → (It → Hp → Prop) → Prop
noncomputable def PIE (X : Cx) (pins : List (Addr × Obj)) (σ : St) (tg : Expr) (R : It → Hp → Prop) (itv : Value) (s2 : Shared) : Prop :=
 ∃ (it : Addr) (fp : List Addr) (tn : Nat → Heap → Prop) (J : It) (H' : Hp), itv = .ref it ∧ Inv X pins σ H' s2 ∧ Turn X.prog X.w X.K tg J fp it tn ∧ tn 0 s2.heap ∧ (∀ b ∈ fp, FpOk X pins H' b) ∧ R J H'
noncomputable def PI (X : Cx) (tg iter : Expr) (wi : TI) : Prop :=
 ∀ (pins : List (Addr × Obj)) (s : Shared) (σ : St) (H : Hp) (R : It → Hp → Prop), Inv X pins σ H s → wi σ H R →
  wpAny (model X.prog X.w) X.A (eval iter X.env) (fun v s1 => wpAny (model X.prog X.w) X.A (pyIter v) (PIE X pins σ tg R) X.xe s1) X.xe s
theorem go_of {M : Model} {A : Around} {E : Value → Shared → Prop} {s : Shared} {tg : Expr} {it : Addr} {u : Value} {o : Obj} {n : String} {vs : Array Value} {Q : Unit → Shared → Prop} (ho : s.heap.get? it = some o) (hc : o.cls = .type n) (hd : o.data = .fields vs)
    (hn : ["enumerate", "zip", "dict_itemiterator", "dict_reverseitemiterator", "odict_iterator", "itertools.zip_longest", "itertools.pairwise"].contains n = false) (hQ : Q () s) : wpAny M A (letOwnedTupleGo tg (.ref it) u) Q E s := by
  unfold letOwnedTupleGo
  cases tg <;> first
    | exact wpAny_pure hQ
    | (cases u <;> first
        | exact wpAny_pure hQ
        | (refine wpAny_bind (wpAny_load ho ?_)
           rw [hc, hd]
           show wpAny M A (if (["enumerate", "zip", "dict_itemiterator", "dict_reverseitemiterator", "odict_iterator", "itertools.zip_longest", "itertools.pairwise"].contains n && vs[0]? == some (rawInt _)) = true then _ else _) Q E s
           rw [if_neg (by intro h; rw [hn, Bool.false_and] at h; cases h)]
           exact wpAny_pure hQ))
noncomputable def Itl (K : PySem.W.Frag) (a : Addr) : It :=
 ⟨fun i H => ∃ xs x, SqL K H a xs ∧ xs[i]? = some x, fun i H x H' => H' = H ∧ ∀ xs, SqL K H a xs → xs[i]? = some x, fun i H => ∃ xs, SqL K H a xs ∧ xs.length ≤ i⟩
noncomputable def Itt (K : PySem.W.Frag) (a : Addr) : It :=
 ⟨fun i H => ∃ xs x, SqT K H a xs ∧ xs[i]? = some x, fun i H x H' => H' = H ∧ ∀ xs, SqT K H a xs → xs[i]? = some x, fun i H => ∃ xs, SqT K H a xs ∧ xs.length ≤ i⟩
noncomputable def Itr (lo : Int) (n : Nat) : It := ⟨fun i _ => i < n, fun i H x H' => H' = H ∧ x = .int (lo + i), fun i _ => n ≤ i⟩
theorem turn_list {P : Program} {w : World} {K : PySem.W.Frag} {tg : Expr} (a it : Addr) : Turn P w K tg (Itl K a) [it] it (fun i h => h.IsListIter it a i) where
 mem := by simp
 obj := fun i h st b hb => by
  have e : b = it := by simpa using hb
  subst e
  obtain ⟨o, e, c, d⟩ := st
  exact ⟨o, e, fun v z => by rw [d] at z; cases z⟩
 keep := fun i h h' st k => st.at fun o e => k it (by simp) o e
 item := by
  intro X hP hw hK hc i pins s σ H E I hf st hg
  subst hP hw hK
  obtain ⟨xs, x, hq, hx⟩ := hg
  obtain ⟨its, rv, p, hz⟩ := I.list hq
  obtain ⟨u, hu, ru⟩ := rv.get hx
  obtain ⟨f0, f1, f2, f3, f4, f5⟩ := hf it (by simp)
  refine wpAny_pyNext_list_item st p.isList (x := u) (by simpa using hu) fun h' st' sb => ?_
  have I1 : Inv X pins σ H { s with heap := h' } := I.turned (t' := s.toks) (fun b o hb e => (sb.2 b hb).trans e) f0 f1 f3 f4 f5
  obtain ⟨o, e, c, d⟩ := id st'
  exact ⟨u, rfl, go_of (s := { s with heap := h' }) e c d (by decide) ⟨x, H, I1, ru, ⟨rfl, fun ys hy => by rw [I.list_inj hy hq]; exact hx⟩, st', fun b hb => (hf b hb).1⟩⟩
 done := by
  intro X hP hw hK hc i pins s σ H E I hf st hg
  subst hP hw hK
  obtain ⟨xs, hq, hx⟩ := hg
  obtain ⟨its, rv, p, hz⟩ := I.list hq
  obtain ⟨f0, f1, f2, f3, f4, f5⟩ := hf it (by simp)
  have hl := rv.length
  exact wpAny_pyNext_list_end (I.ok.hd hc) st p.isList (by simp; omega) fun h' eb => ⟨rfl, I.turned (t' := s.toks) (fun b o hb e => eb b o hb e) f0 f1 f3 f4 f5⟩
 self := fun _ _ _ _ _ st h => wpAny_pyIter_listiter st h
theorem turn_tuple {P : Program} {w : World} {K : PySem.W.Frag} {tg : Expr} (a it : Addr) : Turn P w K tg (Itt K a) [it] it (fun i h => h.IsTupleIter it a i) where
 mem := by simp
 obj := fun i h st b hb => by
  have e : b = it := by simpa using hb
  subst e
  obtain ⟨o, e, c, d⟩ := st
  exact ⟨o, e, fun v z => by rw [d] at z; cases z⟩
 keep := fun i h h' st k => st.at fun o e => k it (by simp) o e
 item := by
  intro X hP hw hK hc i pins s σ H E I hf st hg
  subst hP hw hK
  obtain ⟨xs, x, hq, hx⟩ := hg
  obtain ⟨its, rv, p, hz⟩ := I.tuple hq
  obtain ⟨u, hu, ru⟩ := rv.get hx
  obtain ⟨f0, f1, f2, f3, f4, f5⟩ := hf it (by simp)
  refine wpAny_pyNext_tuple_item st (show s.heap.IsTuple a its.toArray from p) (x := u) (by simpa using hu) fun h' st' sb => ?_
  have I1 : Inv X pins σ H { s with heap := h' } := I.turned (t' := s.toks) (fun b o hb e => (sb.2 b hb).trans e) f0 f1 f3 f4 f5
  obtain ⟨o, e, c, d⟩ := id st'
  exact ⟨u, rfl, go_of (s := { s with heap := h' }) e c d (by decide) ⟨x, H, I1, ru, ⟨rfl, fun ys hy => by rw [I.tuple_inj hy hq]; exact hx⟩, st', fun b hb => (hf b hb).1⟩⟩
 done := by
  intro X hP hw hK hc i pins s σ H E I hf st hg
  subst hP hw hK
  obtain ⟨xs, hq, hx⟩ := hg
  obtain ⟨its, rv, p, hz⟩ := I.tuple hq
  obtain ⟨f0, f1, f2, f3, f4, f5⟩ := hf it (by simp)
  have hl := rv.length
  exact wpAny_pyNext_tuple_end (I.ok.hd hc) st (show s.heap.IsTuple a its.toArray from p) (by simp; omega) fun h' eb => ⟨rfl, I.turned (t' := s.toks) (fun b o hb e => eb b o hb e) f0 f1 f3 f4 f5⟩
 self := fun _ _ _ _ _ st h => wpAny_pyIter_tupleiter st h
theorem turn_range {P : Program} {w : World} {K : PySem.W.Frag} {tg : Expr} (it : Addr) (lo : Int) (n : Nat) : Turn P w K tg (Itr lo n) [it] it (fun i h => IsRangeIter h it (lo + (i : Nat) * 1) ((n : Int) - (i : Nat)) 1) where
 mem := by simp
 obj := fun i h st b hb => by
  have e : b = it := by simpa using hb
  subst e
  exact ⟨_, st, fun v z => by
   have z' : Data.fields _ = Data.cell v := z
   cases z'⟩
 keep := fun i h h' st k => k it (by simp) _ st
 item := by
  intro X hP hw hK hc i pins s σ H E I hf st hg
  subst hP hw hK
  obtain ⟨f0, f1, f2, f3, f4, f5⟩ := hf it (by simp)
  have W := Walks.range (prog := X.prog) (w := X.w) (I.ok.hd hc) it lo 1 n
  refine W.item i s _ _ hg st fun v h' tk hv st' kk => ?_
  obtain ⟨t, rfl⟩ := hv
  have I1 : Inv X pins σ H { s with heap := h', toks := tk } := I.turned (fun b o hb e => kk b o (by simpa using hb) e) f0 f1 f3 f4 f5
  refine ⟨_, rfl, go_of (s := { s with heap := h', toks := tk }) (n := "range_iterator") st' rfl rfl (by decide) ⟨.int (lo + i), H, I1, ⟨t, ?_⟩, ⟨rfl, rfl⟩, st', fun b hb => (hf b hb).1⟩⟩
  rw [Int.mul_one]
 done := by
  intro X hP hw hK hc i pins s σ H E I hf st hg
  subst hP hw hK
  obtain ⟨f0, f1, f2, f3, f4, f5⟩ := hf it (by simp)
  exact wpAny_pyNext_range_end (I.ok.hd hc) st (by have : n ≤ i := hg; omega) fun h' eb => ⟨rfl, I.turned (t' := s.toks) (fun b o hb e => eb b o hb e) f0 f1 f3 f4 f5⟩
 self := fun _ _ _ _ _ st h => wpAny_pyIter_rangeiter st h
end L2
namespace L2
open PySem PySem.Spec PyProof.Rows
section
variable {X : Cx} {tg : Expr}
noncomputable def iList (K : PySem.W.Frag) (tl : TE) : TI := fun σ H R => tl σ H fun x H1 => ∃ a, x = .ref a ∧ (∃ xs, SqL K H1 a xs) ∧ R (Itl K a) H1
noncomputable def iTup (K : PySem.W.Frag) (tl : TE) : TI := fun σ H R => tl σ H fun x H1 => ∃ a, x = .ref a ∧ (∃ xs, SqT K H1 a xs) ∧ R (Itt K a) H1
theorem j1u {l : Expr} {tl : TE} (hl : PE X l tl) : PI X tg l (iList X.K tl) := by
 intro pins s σ H R I h
 refine thn (hl pins s σ H _ I h) fun v s1 ⟨x, H1, I1, r1, q1⟩ => ?_
 obtain ⟨a, e, ⟨xs, hq⟩, q⟩ := q1
 subst e
 cases r1
 obtain ⟨its, rv, p, hz⟩ := I1.list hq
 refine wpAny_pyIter_list p.isList ?_
 refine ⟨s1.heap.objs.size, [s1.heap.objs.size], _, _, H1, rfl, I1.kept (t' := s1.toks) fun b o e => Heap.get?_push_of_some _ e, turn_list a _, ⟨_, Heap.get?_push_size _ rfl, rfl, rfl⟩, fun b hb => ?_, q⟩
 have e : b = s1.heap.objs.size := by simpa using hb
 subst e
 exact I1.fpOk (Nat.le_refl _) (I1.hok.fresh (Nat.le_refl _))
theorem pi_tup {l : Expr} {tl : TE} (hl : PE X l tl) : PI X tg l (iTup X.K tl) := by
 intro pins s σ H R I h
 refine thn (hl pins s σ H _ I h) fun v s1 ⟨x, H1, I1, r1, q1⟩ => ?_
 obtain ⟨a, e, ⟨xs, hq⟩, q⟩ := q1
 subst e
 cases r1
 obtain ⟨its, rv, p, hz⟩ := I1.tuple hq
 refine wpAny_pyIter_tuple (show s1.heap.IsTuple a its.toArray from p) ?_
 refine ⟨s1.heap.objs.size, [s1.heap.objs.size], _, _, H1, rfl, I1.kept (t' := s1.toks) fun b o e => Heap.get?_push_of_some _ e, turn_tuple a _, ⟨_, Heap.get?_push_size _ rfl, rfl, rfl⟩, fun b hb => ?_, q⟩
 have e : b = s1.heap.objs.size := by simpa using hb
 subst e
 exact I1.fpOk (Nat.le_refl _) (I1.hok.fresh (Nat.le_refl _))
theorem range_it {pins : List (Addr × Obj)} {σ : St} {H : Hp} {s : Shared} {R : It → Hp → Prop} {E : Value → Shared → Prop} {lo hi : Int} {t u v : Tok} {tk : Nat} (I : Inv X pins σ H s) (h1 : -(2 ^ 62) ≤ lo) (h2 : lo < 2 ^ 62) (h3 : -(2 ^ 62) ≤ hi) (h4 : hi < 2 ^ 62)
  (q : R (Itr lo (hi - lo).toNat) H) : wpAny (model X.prog X.w) X.A (pyIter (.ref s.heap.objs.size)) (PIE X pins σ tg R) E { s with heap := s.heap.push { cls := .type "range", data := .fields #[.int lo t, .int hi u, .int 1 v] }, toks := tk } := by
 refine wpAny_pyIter_range (IsRange.new ..) (small_one h1 h2 h3 h4) ?_
 have I1 : Inv X pins σ H { s with heap := s.heap.push { cls := .type "range", data := .fields #[.int lo t, .int hi u, .int 1 v] }, toks := tk } := I.kept fun b o e => Heap.get?_push_of_some _ e
 refine ⟨(s.heap.push { cls := .type "range", data := .fields #[.int lo t, .int hi u, .int 1 v] }).objs.size, [(s.heap.push { cls := .type "range", data := .fields #[.int lo t, .int hi u, .int 1 v] }).objs.size], _, _, H, rfl,
  I1.kept (t' := tk) fun b o e => Heap.get?_push_of_some _ e, turn_range _ lo (hi - lo).toNat, ?_, fun b hb => ?_, q⟩
 ·have e1 : lo + ((0 : Nat) : Int) * 1 = lo := by simp
  have e2 : (((hi - lo).toNat : Nat) : Int) - ((0 : Nat) : Int) = Builtin.Range.rangeSize lo hi 1 := by rw [rangeSize_one]; split <;> omega
  show IsRangeIter _ _ (lo + ((0 : Nat) : Int) * 1) ((((hi - lo).toNat : Nat) : Int) - ((0 : Nat) : Int)) 1
  rw [e1, e2]
  exact Heap.get?_push_size _ rfl
 ·have e : b = (s.heap.push { cls := .type "range", data := .fields #[.int lo t, .int hi u, .int 1 v] }).objs.size := by simpa using hb
  subst e
  exact I1.fpOk (Nat.le_refl _) (I1.hok.fresh (Nat.le_refl _))
noncomputable def iRng1 (ta : TA) : TI := fun σ H R => ta σ H fun vs H1 => ∃ j : Int, vs = [.int j] ∧ -(2 ^ 62) ≤ j ∧ j < 2 ^ 62 ∧ R (Itr 0 j.toNat) H1
theorem pi_range1 {a : Expr} {ta : TA} {p pos : Pos} (hg : Gl X "range") (hm : X.mg "range" = none) (ha : PA X [a] ta) (hs : starEach [a] X.env = [(false, eval a X.env)] := by rfl) : PI X tg (.Call (.Name "range" p) [a] [] pos) (iRng1 ta) := by
 intro pins s σ H R I h
 refine Call_ (ld_blt I hg hm boot_range (PyProof.Rows.callWith_type1 (thn (ha pos pins s σ H _ I h) fun us s1 ⟨vs, H1, I1, r1, q1⟩ => ?_) hs rfl))
 obtain ⟨j, e, q1, q2, q⟩ := q1
 subst e
 cases r1 with
 | cons r rr =>
  cases rr
  obtain ⟨t, rfl⟩ := r
  exact call_range_1 (range_it I1 (by omega) (by omega) q1 q2 (by simpa using q))
noncomputable def tFor (wi : TI) (g : TG) (tb : TS) : TS := fun D σ H => wi σ H fun J H1 => ∃ W : Nat → Nat → St → Hp → Prop, (∃ m, W 0 m σ H1) ∧ ∀ i m σ H, W i m σ H →
 (J.stop i H ∧ D.nx σ H) ∨ (J.go i H ∧ ∃ N : St → Hp → Prop, (∀ σ' H', N σ' H' → ∃ m', m' < m ∧ W (i + 1) m' σ' H') ∧ ∀ x H', J.yld i H x H' → g x σ H' fun σ2 H2 => tb { D with nx := N, ct := N, bk := D.nx } σ2 H2)
noncomputable def pinsAt (fp : List Addr) (h : Heap) : List (Addr × Obj) := fp.filterMap fun b => (h.get? b).map fun o => (b, o)
theorem j17 {fp : List Addr} {h : Heap} {b : Addr} {o : Obj} (hb : b ∈ fp) (e : h.get? b = some o) : (b, o) ∈ pinsAt fp h := List.mem_filterMap.mpr ⟨b, hb, by rw [e]; rfl⟩
theorem of_pinsAt {fp : List Addr} {h : Heap} {p : Addr × Obj} (hp : p ∈ pinsAt fp h) : p.1 ∈ fp ∧ h.get? p.1 = some p.2 := by
 obtain ⟨b, hb, e⟩ := List.mem_filterMap.mp hp
 cases q : h.get? b with
 | none => rw [q] at e; cases e
 | some o =>
  rw [q] at e
  have e' : (b, o) = p := Option.some.inj e
  subst e'
  exact ⟨hb, q⟩
theorem Inv.pinned {pins : List (Addr × Obj)} {σ : St} {H : Hp} {s : Shared} {fp : List Addr} (I : Inv X pins σ H s) (hf : ∀ b ∈ fp, FpOk X pins H b) (ho : ∀ b ∈ fp, ∃ o, s.heap.get? b = some o ∧ ∀ v, o.data ≠ .cell v) : Inv X (pins ++ pinsAt fp s.heap) σ H s :=
 I.pins_of fun p hp => (List.mem_append.mp hp).elim (fun z => I.pin p (List.mem_append_right _ z)) fun z => by
  obtain ⟨hb, e⟩ := of_pinsAt z
  obtain ⟨f0, f1, f2, _⟩ := hf p.1 hb
  obtain ⟨o, e', d⟩ := ho p.1 hb
  rw [e] at e'; cases e'
  exact ⟨e, f0, f1, f2, d⟩
theorem Inv.unpinned {pins pl : List (Addr × Obj)} {σ : St} {H : Hp} {s : Shared} (I : Inv X (pins ++ pl) σ H s) : Inv X pins σ H s := I.pins_of fun p hp => I.pin p (List.mem_append_right _ (List.mem_append_left _ hp))
theorem ps_for {iter : Expr} {body : List Stmt} {wi : TI} {g : TG} {tb : TS} {pos : Pos} (hp : PassesOwn (model X.prog X.w) X.A X.env X.xe) (hc : X.calm = true) (hi : PI X tg iter wi) (hg : PG X tg g) (hb : PSs X body tb)
  (hs : ∀ x, foldedSetIterable iter X.env x = pure x := by intro _; rfl) : PS X (.For tg iter body [] pos) (tFor wi g tb) := by
 intro pins s σ H D I h
 refine wpAny_For (thn (hi pins s σ H _ I h) fun v s1 h1 => thn h1 fun itv s2 h2 => ?_) hs
 obtain ⟨it, fp, tn, J, H2, e, I2, T, st2, f2, W, ⟨m0, w0⟩, turn⟩ := h2
 subst e
 have stat : ∀ {H' : Hp}, (∀ b ∈ fp, H' b = none) → ∀ b ∈ fp, FpOk X pins H' b := fun hn b hb => ⟨hn b hb, (f2 b hb).2⟩
 refine codeAny_forLoop_any (fun n s' => ∃ i σ' H', Inv X pins σ' H' s' ∧ tn i s'.heap ∧ (∀ b ∈ fp, H' b = none) ∧ W i n σ' H') ?_ m0 ⟨0, σ, H2, I2, st2, fun b hb => (f2 b hb).1, w0⟩
 rintro n s3 ⟨i, σ3, H3, I3, st3, fr3, w3⟩
 rcases turn i n σ3 H3 w3 with ⟨stop, qn⟩ | ⟨go, N, hN, step⟩
 ·refine wpAny_passesOwn hp (thn (T.done X rfl rfl rfl hc i pins s3 σ3 H3 X.xe I3 (stat fr3) st3 stop) fun r s4 ⟨hr, I4⟩ => ?_)
  subst hr
  exact wpAny_execs_nil ⟨σ3, H3, I4, qn⟩
 ·refine wpAny_passesOwn hp (thn (T.item X rfl rfl rfl hc i pins s3 σ3 H3 X.xe I3 (stat fr3) st3 go) fun r s4 ⟨u, hr, h4⟩ => ?_)
  subst hr
  refine wpAny_passesOwn hp (thn h4 fun _ s5 ⟨x, H5, I5, r5, y5, st5, fr5⟩ => ?_)
  have I5' := I5.pinned (stat fr5) (T.obj _ _ st5)
  refine wpAny_passesOwn hp (thn (hg _ s5 σ3 H5 x u _ I5' r5 (step x H5 y5)) fun _ s6 ⟨σ6, H6, I6, q6⟩ => ?_)
  refine wpAny_passesOwn hp (thn (hb _ s6 σ6 H6 _ I6 q6) fun f s7 q7 => ?_)
  have again : ∀ {σ7 : St} {H7 : Hp}, Inv X (pins ++ pinsAt fp s5.heap) σ7 H7 s7 → N σ7 H7 → ∃ m, m < n ∧ ∃ i σ' H', Inv X pins σ' H' s7 ∧ tn i s7.heap ∧ (∀ b ∈ fp, H' b = none) ∧ W i m σ' H' := fun {σ7 H7} I7 n7 => by
   obtain ⟨m', hm, w7⟩ := hN σ7 H7 n7
   refine ⟨m', hm, i + 1, σ7, H7, I7.unpinned, T.keep _ _ _ st5 fun b hb o e => (I7.pin (b, o) (List.mem_append_right _ (List.mem_append_right _ (j17 hb e)))).1, fun b hb => ?_, w7⟩
   obtain ⟨o, e, d⟩ := T.obj _ _ st5 b hb
   exact (I7.pin (b, o) (List.mem_append_right _ (List.mem_append_right _ (j17 hb e)))).2.1
  cases f with
  | next => obtain ⟨σ7, H7, I7, n7⟩ := q7; exact again I7 n7
  | cont => obtain ⟨σ7, H7, I7, n7⟩ := q7; exact again I7 n7
  | brk => obtain ⟨σ7, H7, I7, q7⟩ := q7; exact ⟨σ7, H7, I7.unpinned, q7⟩
  | ret v => obtain ⟨x7, σ7, H7, I7, r7, q7⟩ := q7; exact ⟨x7, σ7, H7, I7.unpinned, r7, q7⟩
end
end L2
namespace L2
open PySem PySem.Spec PyProof.Rows
noncomputable abbrev R2 := V → V → Hp → VK → Prop
noncomputable def OpR (X : Cx) (f : Value → Value → Sem Value) (r : R2) : Prop :=
 ∀ (pins : List (Addr × Obj)) (s : Shared) (σ : St) (H : Hp) (x y : V) (v u : Value) (Q : VK), Inv X pins σ H s → RelV x v → RelV y u → r x y H Q →
  wpAny (model X.prog X.w) X.A (f v u) (EP X pins σ Q) X.xe s
noncomputable def j2k (X : Cx) (f : Value) (r : List V → Hp → VK → Prop) : Prop :=
 ∀ (pins : List (Addr × Obj)) (s : Shared) (σ : St) (H : Hp) (xs : List V) (us : List Value) (Q : VK), Inv X pins σ H s → Vals xs us → r xs H Q →
  wpAny (model X.prog X.w) X.A (call f us) (EP X pins σ Q) X.xe s
noncomputable def TruR (X : Cx) (r : V → Hp → (Bool → Hp → Prop) → Prop) : Prop :=
 ∀ (pins : List (Addr × Obj)) (s : Shared) (σ : St) (H : Hp) (x : V) (v : Value) (Q : Bool → Hp → Prop), Inv X pins σ H s → RelV x v → r x H Q →
  wpAny (model X.prog X.w) X.A (truthy v) (TP X pins σ Q) X.xe s
noncomputable def tOp (r : R2) (ta tb : TE) : TE := fun σ H Q => ta σ H fun x H1 => tb σ H1 fun y H2 => r x y H2 Q
noncomputable def rI (C : Int → Int → Prop) (g : Int → Int → V) : R2 := fun x y H Q => ∃ i j, x = .int i ∧ y = .int j ∧ C i j ∧ Q (g i j) H
noncomputable def rI0 (g : Int → Int → V) : R2 := fun x y H Q => ∃ i j, x = .int i ∧ y = .int j ∧ Q (g i j) H
section
variable {X : Cx} {a b c : Expr} {ta tb tc : TE} {pos : Pos}
theorem binT (ha : PE X a ta) (hb : PE X b tb) {pins : List (Addr × Obj)} {s : Shared} {σ : St} {H : Hp} {R : V → V → Hp → Prop} (I : Inv X pins σ H s)
  (h : ta σ H fun x H1 => tb σ H1 fun y H2 => R x y H2) {Q : Value → Shared → Prop} {f : Value → Value → Sem Value}
  (hf : ∀ v u s2 x y H2, Inv X pins σ H2 s2 → RelV x v → RelV y u → R x y H2 → wpAny (model X.prog X.w) X.A (f v u) Q X.xe s2) :
  wpAny (model X.prog X.w) X.A (eval a X.env) (fun v s₁ => wpAny (model X.prog X.w) X.A (eval b X.env) (fun u s₂ => wpAny (model X.prog X.w) X.A (f v u) Q X.xe s₂) X.xe s₁) X.xe s := by
 refine thn (ha pins s σ H _ I h) fun v s1 ⟨x, H1, I1, r1, q1⟩ => ?_
 refine thn (hb pins s1 σ H1 _ I1 q1) fun u s2 ⟨y, H2, I2, r2, q2⟩ => ?_
 exact hf v u s2 x y H2 I2 r1 r2 q2
theorem pe_op {op : Operator} {r : R2} (ho : OpR X (binaryOp op) r) (ha : PE X a ta) (hb : PE X b tb) : PE X (.BinOp a op b pos) (tOp r ta tb) := by
 intro pins s σ H Q I h
 exact wpAny_BinOp (binT ha hb I h fun v u s2 x y H2 I2 rx ry q => ho pins s2 σ H2 x y v u Q I2 rx ry q)
theorem opI {f : Value → Value → Sem Value} {C : Int → Int → Prop} {g : Int → Int → Int}
  (rule : ∀ (i j : Int) (t u : Tok) (s : Shared) (Q : Value → Shared → Prop) (E : Value → Shared → Prop), C i j → Q (.int (g i j) s.toks) { s with toks := s.toks + 1 } → wpAny (model X.prog X.w) X.A (f (.int i t) (.int j u)) Q E s) :
  OpR X f (rI C fun i j => .int (g i j)) := by
 intro pins s σ H x y v u Q I rx ry h
 obtain ⟨i, j, rfl, rfl, hc, q⟩ := h
 obtain ⟨t, rfl⟩ := rx
 obtain ⟨t', rfl⟩ := ry
 exact rule i j t t' s _ _ hc ⟨.int (g i j), H, I.tok _, ⟨_, rfl⟩, q⟩
theorem opI0 {f : Value → Value → Sem Value} {g : Int → Int → Int}
  (rule : ∀ (i j : Int) (t u : Tok) (s : Shared) (Q : Value → Shared → Prop) (E : Value → Shared → Prop), Q (.int (g i j) s.toks) { s with toks := s.toks + 1 } → wpAny (model X.prog X.w) X.A (f (.int i t) (.int j u)) Q E s) :
  OpR X f (rI0 fun i j => .int (g i j)) := by
 intro pins s σ H x y v u Q I rx ry h
 obtain ⟨i, j, rfl, rfl, q⟩ := h
 obtain ⟨t, rfl⟩ := rx
 obtain ⟨t', rfl⟩ := ry
 exact rule i j t t' s _ _ ⟨.int (g i j), H, I.tok _, ⟨_, rfl⟩, q⟩
theorem opB0 {f : Value → Value → Sem Value} {g : Int → Int → Bool}
  (rule : ∀ (i j : Int) (t u : Tok) (s : Shared) (Q : Value → Shared → Prop) (E : Value → Shared → Prop), Q (.bool (g i j)) s → wpAny (model X.prog X.w) X.A (f (.int i t) (.int j u)) Q E s) :
  OpR X f (rI0 fun i j => .bl (g i j)) := by
 intro pins s σ H x y v u Q I rx ry h
 obtain ⟨i, j, rfl, rfl, q⟩ := h
 obtain ⟨t, rfl⟩ := rx
 obtain ⟨t', rfl⟩ := ry
 exact rule i j t t' s _ _ ⟨.bl (g i j), H, I, rfl, q⟩
noncomputable def CDiv (i j : Int) : Prop := 0 < j ∧ j < 1073741824
noncomputable def CPow (i j : Int) : Prop := 0 ≤ j ∧ j ≤ 1000000 ∧ i.natAbs < 2 ^ 64
noncomputable def CMul (i j : Int) : Prop := (-(2 ^ 64) < i ∧ i < 2 ^ 64) ∨ (-(2 ^ 64) < j ∧ j < 2 ^ 64)
theorem CMul.ok {i j : Int} (h : CMul i j) : IntMulOk i j := by
 rcases h with ⟨h1, h2⟩ | ⟨h1, h2⟩
 ·exact .of_left (intBits_le_64 h1 h2)
 ·exact .of_right (intBits_le_64 h1 h2)
theorem j2b : OpR X (binaryOp .Add) (rI0 fun i j => .int (i + j)) := opI0 fun _ _ _ _ _ _ _ q => add_int q
theorem op_sub : OpR X (binaryOp .Sub) (rI0 fun i j => .int (i - j)) := opI0 fun _ _ _ _ _ _ _ q => sub_int q
theorem op_mul : OpR X (binaryOp .Mult) (rI CMul fun i j => .int (i * j)) := opI fun _ _ _ _ _ _ _ hc q => mul_int q hc.ok
theorem j12 : OpR X (binaryOp .FloorDiv) (rI CDiv fun i j => .int (i / j)) := opI fun i j _ _ _ _ _ hc q => by
 have h1 : (0 : Int) < j := hc.1
 have h2 : j < 1073741824 := hc.2
 exact floordiv_int (by omega) (by rw [Int.fdiv_eq_ediv_of_nonneg i (by omega)]; exact q) (.inl (PyProof.noPylong_small (by omega)))
theorem j1i : OpR X (binaryOp .Mod) (rI (fun _ j => 0 < j) fun i j => .int (i % j)) := opI fun i j _ _ _ _ _ hc q => by
 have h1 : (0 : Int) < j := hc
 exact mod_int' (by omega) (by rw [Int.fmod_eq_emod_of_nonneg i (by omega)]; exact q)
theorem op_pow : OpR X (binaryOp .Pow) (rI CPow fun i j => .int (i ^ j.toNat)) := opI fun _ _ _ _ _ _ _ hc q => pow_int_small hc.1 hc.2.1 hc.2.2 q
end
noncomputable def scal : V → V → Bool
 | .non, .non => true | .non, .int _ => true | .int _, .non => true | .non, .bl _ => true | .bl _, .non => true | .non, .str _ => true | .str _, .non => true
 | .int _, .int _ => true | .bl _, .bl _ => true | .str _, .str _ => true | .byt _, .byt _ => true
 | .int _, .str _ => true | .str _, .int _ => true | .bl _, .str _ => true | .str _, .bl _ => true
 | _, _ => false
noncomputable def rEq : R2 := fun x y H Q => scal x y = true ∧ Q (.bl (decide (x = y))) H
noncomputable def rNe : R2 := fun x y H Q => scal x y = true ∧ Q (.bl (!decide (x = y))) H
theorem dec_int {i j : Int} : decide (V.int i = V.int j) = (i == j) := by
 rw [Bool.eq_iff_iff]
 simp
theorem dec_bl {i j : Bool} : decide (V.bl i = V.bl j) = (i == j) := by
 rw [Bool.eq_iff_iff]
 simp
theorem dec_str {i j : Str} : decide (V.str i = V.str j) = (i == j) := by
 rw [Bool.eq_iff_iff]
 simp
theorem dec_byt {i j : Array UInt8} : decide (V.byt i = V.byt j) = (i.toList == j.toList) := by
 rw [Bool.eq_iff_iff]
 cases i
 cases j
 simp
section
variable {X : Cx} {a b c : Expr} {ta tb tc : TE} {pos : Pos}
theorem j0z {pins : List (Addr × Obj)} {σ : St} {H : Hp} {s : Shared} {Q : VK} {k k' : Bool} (I : Inv X pins σ H s) (q : Q (.bl k) H) (e : k = k') : EP X pins σ Q (.bool k') s := by
 subst e
 exact ⟨.bl k, H, I, rfl, q⟩
theorem op_eq : OpR X (compareOp .Eq) rEq := by
 intro pins s σ H x y v u Q I rx ry h
 obtain ⟨hs, q⟩ := h
 cases x with
 | non =>
  cases rx
  cases y with
  | non => cases ry; exact PySem.EqNone.eq_none_none (j0z I q (by simp))
  | bl j => cases ry; exact PySem.EqNone.eq_none_bool (j0z I q (by simp))
  | int j => obtain ⟨t', rfl⟩ := ry; exact PySem.EqNone.eq_none_int (j0z I q (by simp))
  | str j => obtain ⟨t', rfl⟩ := ry; exact PySem.EqNone.eq_none_str (j0z I q (by simp))
  | _ => exact absurd (show false = true from hs) Bool.false_ne_true
 | bl i =>
  cases rx
  cases y with
  | non => cases ry; exact PySem.EqNone.eq_bool_none (j0z I q (by simp))
  | bl j => cases ry; exact eq_bool (j0z I q dec_bl)
  | str j => obtain ⟨t', rfl⟩ := ry; exact PySem.EqMixed.eq_bool_str (j0z I q (by simp))
  | _ => exact absurd (show false = true from hs) Bool.false_ne_true
 | int i =>
  obtain ⟨t, rfl⟩ := rx
  cases y with
  | non => cases ry; exact PySem.EqNone.eq_int_none (j0z I q (by simp))
  | int j => obtain ⟨t', rfl⟩ := ry; exact eq_int (j0z I q dec_int)
  | str j => obtain ⟨t', rfl⟩ := ry; exact PySem.EqMixed.eq_int_str (j0z I q (by simp))
  | _ => exact absurd (show false = true from hs) Bool.false_ne_true
 | str i =>
  obtain ⟨t, rfl⟩ := rx
  cases y with
  | non => cases ry; exact PySem.EqNone.eq_str_none (j0z I q (by simp))
  | bl j => cases ry; exact PySem.EqMixed.eq_str_bool (j0z I q (by simp))
  | int j => obtain ⟨t', rfl⟩ := ry; exact PySem.EqMixed.eq_str_int (j0z I q (by simp))
  | str j => obtain ⟨t', rfl⟩ := ry; exact eq_str (j0z I q dec_str)
  | _ => exact absurd (show false = true from hs) Bool.false_ne_true
 | byt i =>
  obtain ⟨t, rfl⟩ := rx
  cases y with
  | byt j => obtain ⟨t', rfl⟩ := ry; exact PySem.W.eq_bytes (j0z I q dec_byt)
  | _ => exact absurd (show false = true from hs) Bool.false_ne_true
 | _ => cases y <;> exact absurd (show false = true from hs) Bool.false_ne_true
theorem op_ne : OpR X (compareOp .NotEq) rNe := by
 intro pins s σ H x y v u Q I rx ry h
 obtain ⟨hs, q⟩ := h
 cases x with
 | non =>
  cases rx
  cases y with
  | non => cases ry; exact PySem.EqNone.ne_none_none (j0z I q (by simp))
  | bl j => cases ry; exact PySem.EqNone.ne_none_bool (j0z I q (by simp))
  | int j => obtain ⟨t', rfl⟩ := ry; exact PySem.EqNone.ne_none_int (j0z I q (by simp))
  | str j => obtain ⟨t', rfl⟩ := ry; exact PySem.EqNone.ne_none_str (j0z I q (by simp))
  | _ => exact absurd (show false = true from hs) Bool.false_ne_true
 | bl i =>
  cases rx
  cases y with
  | non => cases ry; exact PySem.EqNone.ne_bool_none (j0z I q (by simp))
  | bl j => cases ry; exact ne_bool (j0z I q (congrArg not dec_bl))
  | str j => obtain ⟨t', rfl⟩ := ry; exact PySem.EqMixed.ne_bool_str (j0z I q (by simp))
  | _ => exact absurd (show false = true from hs) Bool.false_ne_true
 | int i =>
  obtain ⟨t, rfl⟩ := rx
  cases y with
  | non => cases ry; exact PySem.EqNone.ne_int_none (j0z I q (by simp))
  | int j => obtain ⟨t', rfl⟩ := ry; exact ne_int (j0z I q (congrArg not dec_int))
  | str j => obtain ⟨t', rfl⟩ := ry; exact PySem.EqMixed.ne_int_str (j0z I q (by simp))
  | _ => exact absurd (show false = true from hs) Bool.false_ne_true
 | str i =>
  obtain ⟨t, rfl⟩ := rx
  cases y with
  | non => cases ry; exact PySem.EqNone.ne_str_none (j0z I q (by simp))
  | bl j => cases ry; exact PySem.EqMixed.ne_str_bool (j0z I q (by simp))
  | int j => obtain ⟨t', rfl⟩ := ry; exact PySem.EqMixed.ne_str_int (j0z I q (by simp))
  | str j => obtain ⟨t', rfl⟩ := ry; exact ne_str (j0z I q (congrArg not dec_str))
  | _ => exact absurd (show false = true from hs) Bool.false_ne_true
 | byt i =>
  obtain ⟨t, rfl⟩ := rx
  cases y with
  | byt j => obtain ⟨t', rfl⟩ := ry; exact PySem.W.ne_bytes (j0z I q (congrArg not dec_byt))
  | _ => exact absurd (show false = true from hs) Bool.false_ne_true
 | _ => cases y <;> exact absurd (show false = true from hs) Bool.false_ne_true
theorem op_lt : OpR X (compareOp .Lt) (rI0 fun i j => .bl (decide (i < j))) := opB0 fun _ _ _ _ _ _ _ q => lt_int q
theorem op_gt : OpR X (compareOp .Gt) (rI0 fun i j => .bl (decide (j < i))) := opB0 fun _ _ _ _ _ _ _ q => gt_int q
theorem op_in_str : OpR X (compareOp .In) (fun x y H Q => ∃ i j, x = .str i ∧ y = .str j ∧ Q (.bl (!(Builtin.Str.occurrences j i 0 j.length 1).isEmpty)) H) := by
 intro pins s σ H x y v u Q I rx ry h
 obtain ⟨i, j, rfl, rfl, q⟩ := h
 obtain ⟨t, rfl⟩ := rx
 obtain ⟨t', rfl⟩ := ry
 exact in_str (j0z I q rfl)
theorem pe_cmpR {op : CmpOp} {r : R2} (ho : OpR X (compareOp op) r) (ha : PE X a ta) (hb : PE X b tb) (hm : behindInMarks op b = false) : PE X (.Compare a [op] [b] pos) (tOp r ta tb) := by
 intro pins s σ H Q I h
 exact wpAny_Compare1 (binT ha hb I h fun v u s2 x y H2 I2 rx ry q => ho pins s2 σ H2 x y v u Q I2 rx ry q) hm
noncomputable def tTest (t : TE) : TT := fun σ H Q => t σ H fun x H' => ∃ k, x = .bl k ∧ Q k H'
theorem pt_cmpR {op : CmpOp} {r : R2} (ho : OpR X (compareOp op) r) (ha : PE X a ta) (hb : PE X b tb) (hm : behindInMarks op b = false) : PT X (.Compare a [op] [b] pos) (tTest (tOp r ta tb)) := by
 intro pins s σ H Q I h
 refine wpAny_isTrue_Compare1 (thn (ha pins s σ H _ I h) fun v s1 ⟨x, H1, I1, r1, q1⟩ => thn (hb pins s1 σ H1 _ I1 q1) fun u s2 ⟨y, H2, I2, r2, q2⟩ =>
  thn (ho pins s2 σ H2 x y v u _ I2 r1 r2 q2) fun c s3 ⟨z, H3, I3, r3, k, e, q3⟩ => ?_) hm
 subst e
 cases r3
 exact wpAny_truthy_bool ⟨H3, I3, q3⟩
noncomputable def TruV (K : PySem.W.Frag) (x : V) (H : Hp) (k : Bool) : Prop :=
 match x with
 | .non => k = false
 | .bl b => k = b
 | .int i => k = (i != 0)
 | .str y => y.length ≤ sizeLine ∧ k = ((y.length : Int) != 0)
 | .byt y => y.size ≤ sizeLine ∧ k = ((y.size : Int) != 0)
 | .ref p => (∃ xs, SqL K H p xs ∧ k = !xs.isEmpty) ∨ (∃ xs, SqT K H p xs ∧ k = !xs.isEmpty) ∨ ∃ kvs, H p = some (.dK kvs) ∧ k = !kvs.isEmpty
 | _ => False
theorem isEmpty_kv {κ : Type} {kvs : List (κ × V)} {vs : List (κ × Value)} (r : KV kvs vs) : (!vs.isEmpty) = !kvs.isEmpty := by
 cases r <;> rfl
theorem isEmpty_of {xs : List V} {its : List Value} (r : Vals xs its) : (!its.toArray.isEmpty) = !xs.isEmpty := by
 cases r <;> simp
theorem line63 : (sizeLine : Nat) < 2 ^ 63 := by rw [sizeLine_eq]; decide
theorem tru_ok : TruR X (fun x H Q => ∃ k, TruV X.K x H k ∧ Q k H) := by
 intro pins s σ H x v Q I rx h
 obtain ⟨k, e, q⟩ := h
 have hl := line63
 have hs : sizeLine = 16777216 := sizeLine_eq
 cases x with
 | non =>
  cases rx
  have e' : k = false := e
  subst e'
  exact truthy_none ⟨H, I, q⟩
 | bl b =>
  cases rx
  have e' : k = b := e
  subst e'
  exact wpAny_truthy_bool ⟨H, I, q⟩
 | int i =>
  obtain ⟨t, rfl⟩ := rx
  have e' : k = (i != 0) := e
  subst e'
  exact PySem.P.truthy_int ⟨H, I, q⟩
 | str y =>
  obtain ⟨t, rfl⟩ := rx
  obtain ⟨hy, e'⟩ : y.length ≤ sizeLine ∧ k = ((y.length : Int) != 0) := e
  subst e'
  exact PySem.P.truthy_str (by omega) ⟨H, I.tok _, q⟩
 | byt y =>
  obtain ⟨t, rfl⟩ := rx
  obtain ⟨hy, e'⟩ : y.size ≤ sizeLine ∧ k = ((y.size : Int) != 0) := e
  subst e'
  exact PySem.W.truthy_bytes (by omega) ⟨H, I.tok _, q⟩
 | ref p =>
  cases rx
  have e' : (∃ xs, SqL X.K H p xs ∧ k = !xs.isEmpty) ∨ (∃ xs, SqT X.K H p xs ∧ k = !xs.isEmpty) ∨ ∃ kvs, H p = some (.dK kvs) ∧ k = !kvs.isEmpty := e
  rcases e' with ⟨xs, hx, e'⟩ | ⟨xs, hx, e'⟩ | ⟨kvs, hx, e'⟩
  ·subst e'
   obtain ⟨its, r, pl, hz⟩ := I.list hx
   have hlen := r.length
   exact wpAny_truthy_list pl.isList (by simp only [List.size_toArray]; omega) ⟨H, I.tok _, by rw [isEmpty_of r]; exact q⟩
  ·subst e'
   obtain ⟨its, r, pl, hz⟩ := I.tuple hx
   have hlen := r.length
   exact truthy_tuple pl (by simp only [List.size_toArray]; omega) ⟨H, I.tok _, by rw [isEmpty_of r]; exact q⟩
  ·subst e'
   obtain ⟨hz, hS, vs, r, m⟩ : kvs.length ≤ sizeLine ∧ (p == sysModules) = false ∧ ∃ vs, KV kvs vs ∧ s.heap.DictOf (j0o X.prog X.w) p vs := I.hok p _ hx
   have hlen : kvs.length = vs.length := Paired.length r
   exact wpAny_truthy_dict hS m (by omega) ⟨H, I.tok _, by rw [isEmpty_kv r]; exact q⟩
 | _ => exact (show False from e).elim
theorem pt_truth (ha : PE X a ta) (he : ∀ whole, isTrue a X.env whole = (do let v ← whole; standAt a.pos; holding [v] (truthy v))) :
  PT X a (fun σ H Q => ta σ H fun x H' => ∃ k, TruV X.K x H' k ∧ Q k H') := by
 intro pins s σ H Q I h
 exact isTrue_plain (thn (ha pins s σ H _ I h) fun v s1 ⟨x, H1, I1, r1, q1⟩ => tru_ok pins s1 σ H1 x v Q I1 r1 q1) (he _)
theorem op_add_str : OpR X (binaryOp .Add) (fun x y H Q => ∃ i j, x = .str i ∧ y = .str j ∧ i.length + j.length ≤ sizeLine ∧ Q (.str (i ++ j)) H) := by
 intro pins s σ H x y v u Q I rx ry h
 obtain ⟨i, j, rfl, rfl, hz, q⟩ := h
 obtain ⟨t, rfl⟩ := rx
 obtain ⟨t', rfl⟩ := ry
 exact add_str (fun t' tk => ⟨.str (i ++ j), H, I.tok _, ⟨_, rfl⟩, q⟩) hz
theorem vals1 {x : V} {us : List Value} (r : Vals [x] us) : ∃ u, us = [u] ∧ RelV x u := by
 cases r with
 | cons r1 r2 => cases r2; exact ⟨_, rfl, r1⟩
theorem vals2 {x y : V} {us : List Value} (r : Vals [x, y] us) : ∃ u w', us = [u, w'] ∧ RelV x u ∧ RelV y w' := by
 cases r with
 | cons r1 r2 =>
  cases r2 with
  | cons r3 r4 => cases r4; exact ⟨_, _, rfl, r1, r3⟩
theorem call_max2 (hc : X.calm = true) : j2k X (.builtin "max") (fun xs H Q => ∃ i j, xs = [.int i, .int j] ∧ Q (.int (if j > i then j else i)) H) := by
 intro pins s σ H xs us Q I r h
 obtain ⟨i, j, rfl, q⟩ := h
 obtain ⟨u, w', rfl, ⟨t, rfl⟩, ⟨t', rfl⟩⟩ := vals2 r
 refine max_two_ints (I.ok.hd hc) fun h' tk k => ⟨_, H, I.kept k, ?_, q⟩
 by_cases hj : j > i
 ·rw [if_pos hj, if_pos hj]; exact ⟨_, rfl⟩
 ·rw [if_neg hj, if_neg hj]; exact ⟨_, rfl⟩
end
end L2
namespace L2
open PySem PySem.Spec PyProof.Rows
structure ObjM (h : Heap) (x dx C : Addr) (mA : Str → Option Value) : Prop where
 obj : h.get? x = some (PySem.W.instObj C dx)
 ns : h.Ns1 dx mA
 ne : dx ≠ x
theorem lookIn_ns {h : Heap} {dx : Addr} {mA : Str → Option Value} (n : h.Ns1 dx mA) : ∃ od, h.get? dx = some od ∧ ∀ name, PySem.W.lookIn name od = some (mA name) := by
 obtain ⟨o, es, ep, ho, hd, hk, _, hm⟩ := n
 refine ⟨o, ho, fun name => ?_⟩
 have e := hm name
 unfold nsFind findBy at e
 rw [← Array.find?_toList] at e
 unfold PySem.W.lookIn
 rw [hd]
 dsimp only
 split
 ·rename_i y q
  rw [q] at e
  exact congrArg some e
 ·rename_i q
  rw [q] at e
  have a : es.toList.any (·.refKey) = false := by
   rw [List.any_eq_false]
   intro y hy
   obtain ⟨z, t, hkey⟩ := hk y (Array.mem_toList_iff.mp hy)
   simp [DictEntry.refKey, hkey]
  have a' : ¬ es.toList.any (·.refKey) = true := by rw [a]; exact Bool.false_ne_true
  rw [if_neg a']
  exact congrArg some e
theorem ObjM.look {h : Heap} {x dx C : Addr} {mA : Str → Option Value} (I : ObjM h x dx C mA) : ∃ od, PySem.W.InstAt h x (PySem.W.instObj C dx) C (some od) ∧ ∀ name, PySem.W.lookIn name od = some (mA name) :=
 let ⟨od, ho, hl⟩ := lookIn_ns I.ns
 ⟨od, ⟨I.obj, rfl, rfl, ho⟩, hl⟩
section
variable {prog : Program} {w : World} {A : Around} {E : Value → Shared → Prop} {s : Shared} {K : PySem.W.Frag} {x dx C f : Addr} {mA : Str → Option Value} {name : Str} {v : Value}
end
theorem RelO.some_of {v : V} {o : Option Value} (r : RelO (some v) o) : ∃ u, o = some u ∧ RelV v u := by
 cases o with
 | none => exact (show False from r).elim
 | some u => exact ⟨u, rfl, r⟩
section
variable {P : Program} {w : World} {H H' : Hp} {h h' : Heap} {a C dx : Addr} {fs fs' : List (Str × V)}
theorem ins_get (hok : HOk P w H h) (e : H a = some (.ins C dx fs)) : ∃ mA, ObjM h a dx C mA ∧ (∀ f, RelO (fs.lookup f) (mA f)) ∧ PySem.Within mA (fs.map (·.1)) ∧ fs.length ≤ 1000 ∧ H dx = some (.own a) := by
 obtain ⟨d, z, ne, ob, mA, n, r, q⟩ := (show ObjOk P w H h a (.ins C dx fs) from hok a _ e)
 exact ⟨mA, ⟨ob, n, ne⟩, r, q, z, d⟩
end
structure Cls (K : PySem.W.Frag) (C : Addr) : Prop where
 pg : PySem.W.plainGet K C Str.empty = true
 hd : PySem.W.hasDictIn K C = true
 po : PySem.W.plainOver K C = true
 sa : PySem.W.findIn K (.ref C) "__setattr__" = some (some (.builtin "object.__setattr__"))
theorem Cls.get {K : PySem.W.Frag} {C : Addr} (c : Cls K C) (f : Str) : PySem.W.plainGet K C f = true := c.pg
section
variable {X : Cx} {pins : List (Addr × Obj)} {σ : St} {H : Hp} {s : Shared} {a C dx : Addr} {fs : List (Str × V)} {f : Str} {v : V} {A : Around} {E : Value → Shared → Prop}
end
section
variable {X : Cx} {o e value : Expr} {f : Str} {pos pos' tpos : Pos} {ta tv : TE}
end
section
variable {X : Cx} {pins : List (Addr × Obj)} {σ : St} {H : Hp} {s : Shared} {A : Around} {E : Value → Shared → Prop} {Q : Value → Shared → Prop} {c : Value} {b : Bool}
inductive TyOf (K : PySem.W.Frag) (H : Hp) : V → Value → Prop where
 | non : TyOf K H .non (.type "NoneType")
 | bl (x : Bool) : TyOf K H (.bl x) (.type "bool")
 | int (i : Int) : TyOf K H (.int i) (.type "int")
 | str (x : Str) : TyOf K H (.str x) (.type "str")
 | flt (x : UInt64) : TyOf K H (.flt x) (.type "float")
 | lst {a : Addr} {xs : List V} (e : H a = some (.lst xs)) : TyOf K H (.ref a) (.type "list")
 | frz {a : Addr} {o : Obj} {xs : List V} (e : H a = some (.frz o (.lst xs))) : TyOf K H (.ref a) (.type "list")
 | tup {a : Addr} {xs : List V} (e : H a = some (.tup xs)) : TyOf K H (.ref a) (.type "tuple")
 | dK {a : Addr} {kvs : List (Key × V)} (e : H a = some (.dK kvs)) : TyOf K H (.ref a) (.type "dict")
 | dT {a : Addr} {kvs : List (List Key × V)} (e : H a = some (.dT kvs)) : TyOf K H (.ref a) (.type "dict")
 | ins {a C dx : Addr} {fs : List (Str × V)} (e : H a = some (.ins C dx fs)) (cl : Cls K C) (ha : PySem.W.findIn K (.ref C) "__class__" = some (some (.builtin "object.__class__")))
   (hn : PySem.W.specialIn K (.builtin "object.__class__") "__get__" = some (some (.builtin "getset_descriptor.__get__"))) (htk : PySem.W.takesIn K (.builtin "object.__class__") = some true)
   (hm : PySem.W.mroIn K C (.type "object") = some true) : TyOf K H (.ref a) (.ref C)
theorem isinst_ok {x : V} {u t : Value} (I : Inv X pins σ H s) (rx : RelV x u) (ty : TyOf X.K H x t) (e : PySem.W.kitOne X.K t c = some b) (h : ∀ tk, Q (.bool b) { s with toks := tk }) :
  wpAny (model X.prog X.w) A (call (.builtin "isinstance") [u, c]) Q E s := by
 cases ty with
 | non => cases (show u = Value.none from rx); exact PySem.W.kia_one PySem.W.kitx_none I.kIn True.intro e (fun z => nomatch z) h
 | bl y => cases (show u = Value.bool y from rx); exact PySem.W.kia_one PySem.W.kitx_bool I.kIn True.intro e (fun z => nomatch z) h
 | int i => obtain ⟨t, q⟩ := (show ∃ t, u = Value.int i t from rx); cases q; exact PySem.W.kia_one PySem.W.kitx_int I.kIn True.intro e (fun z => nomatch z) h
 | str y => obtain ⟨t, q⟩ := (show ∃ t, u = Value.str y t from rx); cases q; exact PySem.W.kia_one PySem.W.kitx_str I.kIn True.intro e (fun z => nomatch z) h
 | flt y => obtain ⟨t, q⟩ := (show ∃ t, u = Value.float y t from rx); cases q; exact PySem.W.kia_one PySem.W.kitx_float I.kIn True.intro e (fun z => nomatch z) h
 | @lst a xs ea =>
  cases (show u = Value.ref a from rx)
  obtain ⟨_, _, n, _, h1⟩ := (show ObjOk X.prog X.w H s.heap a (.lst xs) from I.hok a _ ea)
  exact PySem.W.kia_one PySem.W.kitx_list I.kIn ⟨_, h1, rfl⟩ e (fun z => nomatch z) h
 | @frz a ob xs ea =>
  cases (show u = Value.ref a from rx)
  obtain ⟨_, _, _, n, _, h1⟩ := (show ObjOk X.prog X.w H s.heap a (.frz ob (.lst xs)) from I.hok a _ ea)
  exact PySem.W.kia_one PySem.W.kitx_list I.kIn ⟨_, h1, rfl⟩ e (fun z => nomatch z) h
 | @tup a xs ea =>
  cases (show u = Value.ref a from rx)
  obtain ⟨_, _, _, p⟩ := (show ObjOk X.prog X.w H s.heap a (.tup xs) from I.hok a _ ea)
  obtain ⟨o, h1, h2, _⟩ := p
  exact PySem.W.kia_one PySem.W.kitx_tuple I.kIn ⟨o, h1, h2⟩ e (fun z => nomatch z) h
 | @dK a kvs ea =>
  cases (show u = Value.ref a from rx)
  obtain ⟨_, _, vs, _, p⟩ := (show ObjOk X.prog X.w H s.heap a (.dK kvs) from I.hok a _ ea)
  obtain ⟨o, es, ep, h1, h2, _⟩ := p
  exact PySem.W.kia_one PySem.W.kitx_dict I.kIn ⟨o, h1, h2.1⟩ e (fun z => nomatch z) h
 | @dT a kvs ea =>
  cases (show u = Value.ref a from rx)
  obtain ⟨_, _, xs, _, o, es, ep, h1, h2, _⟩ := (show ObjOk X.prog X.w H s.heap a (.dT kvs) from I.hok a _ ea)
  exact PySem.W.kia_one PySem.W.kitx_dict I.kIn ⟨o, h1, h2.1⟩ e (fun z => nomatch z) h
 | @ins a C dx fs ea cl ha hn htk hm =>
  cases (show u = Value.ref a from rx)
  obtain ⟨mA, O, _⟩ := ins_get I.hok ea
  obtain ⟨od, J, _⟩ := O.look
  exact PySem.W.kia_one (PySem.W.kitx_own (cl.get _) cl.hd ha hn htk hm) I.kIn J e (fun z => nomatch z) h
end
end L2
namespace L2
open PySem PySem.Spec PyProof.Rows
structure Room (k : Nat) (A : Around) : Prop where
 hd : A.handled = none
 dp : A.depth + 3 * k + 5 < recursionLimit
 un : A.units + 16 * k + 200 < cLine
theorem Room.mono {j k : Nat} {A : Around} (r : Room k A) (h : j ≤ k) : Room j A := ⟨r.hd, by have := r.dp; omega, by have := r.un; omega⟩
theorem Room.deeper {k : Nat} {A : Around} (r : Room (k + 1) A) (env : Env) : Room k (A.deeper env) :=
 ⟨r.hd, by have := r.dp; show A.depth + 1 + 3 * k + 5 < _; omega, by have := r.un; show A.units + 3 + 16 * k + 200 < _; omega⟩
theorem Room.depth {k : Nat} {A : Around} (r : Room k A) : A.depth < recursionLimit := by have := r.dp; omega
noncomputable def tNil : TA := fun _ H Q => Q [] H
noncomputable def tCons (ta : TE) (tr : TA) : TA := fun σ H Q => ta σ H fun x H1 => tr σ H1 fun xs H2 => Q (x :: xs) H2
section
variable {X : Cx} {e : Expr} {es : List Expr} {te : TE} {t : TA} {pos : Pos}
theorem pa_nil : PA X [] tNil := fun _ _ _ _ H Q I h => Calls.spliced_nil ⟨[], H, I, .nil, h⟩
theorem pa_cons (ha : PE X e te) (hr : PA X es t) (hs : starEach (e :: es) X.env = (false, eval e X.env) :: starEach es X.env := by rfl) : PA X (e :: es) (tCons te t) := by
 intro pos pins s σ H Q I h
 rw [hs]
 show wpAny _ _ (spliced ((false, eval e X.env) :: backTo pos (starEach es X.env))) _ _ s
 refine Calls.spliced_cons (thn (ha pins s σ H _ I h) fun u s1 ⟨x, H1, I1, r1, q1⟩ => ?_)
 exact thn (hr pos pins s1 σ H1 _ I1 q1) fun us s2 ⟨xs, H2, I2, r2, q2⟩ => ⟨x :: xs, H2, I2, .cons r1 r2, q2⟩
noncomputable def tTup (t : TA) : TE := fun σ H Q => t σ H fun xs H1 => xs.length ≤ sizeLine ∧ ∀ p, H1 p = none → Q (.ref p) (upd H1 p (.tup xs))
noncomputable def tLst (t : TA) : TE := fun σ H Q => t σ H fun xs H1 => xs.length ≤ sizeLine ∧ ∀ p, H1 p = none → Q (.ref p) (upd H1 p (.lst xs))
theorem pe_tup {x1} (h : PA X es t) : PE X (.Tuple es x1 pos) (tTup t) := by
 intro pins s σ H Q I hq
 refine wpAny_Tuple_spliced (thn (h pos pins s σ H _ I hq) fun us s1 ⟨xs, H1, I1, r, z, q⟩ => ⟨by rw [← r.length]; exact z, ?_⟩)
 have hf : H1 s1.heap.objs.size = none := I1.hok.fresh (Nat.le_refl _)
 refine ⟨.ref s1.heap.objs.size, upd H1 s1.heap.objs.size (.tup xs), I1.laid (t' := s1.toks) (fun b u e => Heap.get?_push_of_some _ e) (Nat.le_refl _) ?_, rfl, q _ hf⟩
 exact ⟨z, us, r, ⟨_, Heap.get?_push_size _ rfl, rfl, _, rfl⟩⟩
theorem pe_lst (h : PA X es t) : PE X (.List es pos) (tLst t) := by
 intro pins s σ H Q I hq
 refine wpAny_List_spliced (thn (h pos pins s σ H _ I hq) fun us s1 ⟨xs, H1, I1, r, z, q⟩ => ⟨by rw [← r.length]; exact z, ?_⟩)
 have hf : H1 s1.heap.objs.size = none := I1.hok.fresh (Nat.le_refl _)
 refine ⟨.ref s1.heap.objs.size, upd H1 s1.heap.objs.size (.lst xs), I1.laid (t' := s1.toks) (fun b u e => Heap.get?_push_of_some _ e) (Nat.le_refl _) ?_, rfl, q _ hf⟩
 exact ⟨z, us, 0, r, Heap.get?_push_size _ rfl⟩
end
noncomputable abbrev Sp := List V → Hp → VK → XK → Prop
noncomputable abbrev CXT := List Env → Hp → Shared → XK → Value → Shared → Prop
structure Env0 (P : Program) (w : World) (K : PySem.W.Frag) (mg : Str → Option Value) (base : Heap) (A : Around) (outer : List Env) (s : Shared) (H : Hp) : Prop where
 frames : A.frames = some outer
 mod : Mod K mg base
 bs : ∀ b o, base.get? b = some o → s.heap.get? b = some o ∧ H b = none
 bsz : base.objs.size ≤ s.heap.objs.size
 funs : s.heap.FunFrames base outer
 frf : ∀ b ∈ frs outer, H b = none
 hok : HOk P w H s.heap
 bare : AllBare s.gens
noncomputable def CE (outer : List Env) (P : Program) (w : World) (H : Hp) (s : Shared) (Q : VK) (u : Value) (s' : Shared) : Prop :=
 ∃ v H', s'.os = s.os ∧ AllBare s'.gens ∧ Un (frs outer) [] H H' s.heap s'.heap ∧ HOk P w H' s'.heap ∧ RelV v u ∧ Q v H'
noncomputable def CR (CX : CXT) (outer : List Env) (P : Program) (w : World) (H : Hp) (s : Shared) (Q : VK) (E : XK) (r : Result) (s' : Shared) : Prop :=
 match r with
 | .ok (.ret u) => CE outer P w H s Q u s'
 | .ok _ => False
 | .error e => CX outer H s E e s'
structure FnOk (P : Program) (w : World) (K : PySem.W.Frag) (mg : Str → Option Value) (base : Heap) (CX : CXT) (k : Nat) (f : Addr) (fd : FuncData) (ps : List Str) (sp : Sp) : Prop where
 len : ∀ vs H Q E, sp vs H Q E → vs.length = ps.length
 run : ∀ (A : Around) (outer : List Env) (s : Shared) (H : Hp) (args : Args) (us : List Value) (vs : List V) (Q : VK) (E : XK), Room k A → Env0 P w K mg base A outer s H → BindsTo s fd args (ps.zip us) → Vals vs us → sp vs H Q E →
  codeAny (model P w) A (.call (.ref f) args) (CR CX outer P w H s Q E) s
theorem FnOk.mono {P : Program} {w : World} {K : PySem.W.Frag} {mg : Str → Option Value} {base : Heap} {CX : CXT} {j k : Nat} {f : Addr} {fd : FuncData} {ps : List Str} {sp : Sp} (F : FnOk P w K mg base CX j f fd ps sp) (h : j ≤ k) :
  FnOk P w K mg base CX k f fd ps sp := ⟨F.len, fun A outer s H args us vs Q E hr => F.run A outer s H args us vs Q E (hr.mono h)⟩
section
variable {X : Cx} {pins : List (Addr × Obj)} {σ : St} {H : Hp} {s s' : Shared}
theorem Inv.env0 (I : Inv X pins σ H s) : Env0 X.prog X.w X.K X.mg X.base X.A X.stack s H :=
 ⟨I.ok.frames, I.ok.mod, I.bs, Nat.le_trans I.ok.bsz I.sz, I.stack, I.stkFree, I.hok, I.bare⟩
theorem Inv.after {Q : VK} {u : Value} (I : Inv X pins σ H s) (h : CE X.stack X.prog X.w H s Q u s') : EP X pins σ Q u s' := by
 obtain ⟨v, H', os, bare, un, hok, r, q⟩ := h
 obtain ⟨hh, g, d, t, os'⟩ := s'
 obtain rfl : os' = s.os := os
 exact ⟨v, H', I.call (h' := hh) (g' := g) (d' := d) (t' := t) (ch := []) un hok bare (fun b z => absurd z (by simp)), r, q⟩
end
noncomputable def tCall (sp : Sp) (dvs : List V) (E : XK) (t : TA) : TE := fun σ H Q => t σ H fun vs H1 => sp (vs ++ dvs) H1 Q E
noncomputable def Binds (K : PySem.W.Frag) (fd : FuncData) (ps : List Str) (ds : List Value) : Prop :=
 ∀ (s : Shared) (us : List Value), K.In s.heap → (us ++ ds).length = ps.length → BindsTo s fd ⟨us, []⟩ (ps.zip (us ++ ds))
theorem Binds.all {K : PySem.W.Frag} {fd : FuncData} {ps : List Str} (h : ∀ us : List Value, us.length = ps.length → bindArgs fd ⟨us, []⟩ = pure (ps.zip us)) : Binds K fd ps [] := fun s us _ hl => by
 rw [List.append_nil] at hl ⊢
 exact .of_eq (h us hl)
noncomputable def Passes (CX : CXT) (X : Cx) (E : XK) : Prop := ∀ (pins : List (Addr × Obj)) (σ : St) (H : Hp) (s : Shared) (e : Value) (s' : Shared), Inv X pins σ H s → CX X.stack H s E e s' → X.xe e s'
section
variable {X : Cx} {CX : CXT} {k : Nat} {f C : Addr} {fd : FuncData} {ps : List Str} {sp : Sp} {dvs : List V} {ds : List Value} {E : XK} {x m : Str} {p pos apos : Pos} {e o : Expr} {es : List Expr} {ta : TE} {t : TA}
theorem run_fn {pins : List (Addr × Obj)} {σ : St} {H : Hp} {s : Shared} {Q : VK} {us : List Value} {vs : List V} (F : FnOk X.prog X.w X.K X.mg X.base CX k f fd ps sp) (hr : Room k X.A) (hb : Binds X.K fd ps ds) (hd : Vals dvs ds) (hx : Passes CX X E)
  (I : Inv X pins σ H s) (r : Vals vs us) (h : sp (vs ++ dvs) H Q E) : wpAny (model X.prog X.w) X.A (call (.ref f) us) (EP X pins σ Q) X.xe s := by
 have r2 : Vals (vs ++ dvs) (us ++ ds) := r.append hd
 have hl : (us ++ ds).length = ps.length := by rw [← r2.length]; exact F.len _ _ _ _ h
 refine wpAny_call (codeAny_mono (F.run X.A X.stack s H ⟨us, []⟩ (us ++ ds) (vs ++ dvs) Q E hr I.env0 (hb s us I.kIn hl) r2 h) fun r s' hq => ?_)
 cases r with
 | error e => exact hx pins σ H s e s' I hq
 | ok fl =>
  cases fl with
  | ret u => exact I.after hq
  | next => exact False.elim hq
  | brk => exact False.elim hq
  | cont => exact False.elim hq
theorem pe_call (F : FnOk X.prog X.w X.K X.mg X.base CX k f fd ps sp) (hr : Room k X.A) (hg : Gl X x) (hm : X.mg x = some (.ref f)) (hk : PySem.W.keepIn X.K (.ref f) = true) (hb : Binds X.K fd ps ds) (hd : Vals dvs ds) (hx : Passes CX X E)
  (ha : PA X (e :: es) t) (hdb : (x == ("__debug__" : Str)) = false := by decide) (he : starEach (e :: es) X.env = (false, eval e X.env) :: starEach es X.env := by rfl) (hpl : (backTo pos (starEach es X.env)).any (·.1) = false := by rfl) :
  PE X (.Call (.Name x p) (e :: es) [] pos) (tCall sp dvs E t) := by
 intro pins s σ H Q I h
 refine wpAny_Call_Name_kw (ld_glob I hg hm ?_ hdb)
 refine PySem.W.callWith_K (h₀ := X.base) I.ok.mod.kin hk (thn (ha pos pins s σ H _ I h) fun us s1 ⟨vs, H1, I1, r, q⟩ => ⟨I1.kIn, ?_⟩) he hpl
 exact run_fn F hr hb hd hx I1 r q
end
section
variable {X : Cx} {CX : CXT} {k : Nat} {f C : Addr} {fd : FuncData} {ps ks : List Str} {sp : Sp} {E : XK} {x m : Str} {p pos apos kpos : Pos} {e o : Expr} {es : List Expr} {kws : List Keyword} {te ta : TE} {t tk : TA} {nm : Option Str}
variable {g : List Value → List Value → List Value} {gV : List V → List V → List V}
end
structure FnScope (N P : List Str) (sc : Scope) : Prop where
 kind : sc.kind = .function
 co : sc.isCoroutine = false
 gen : sc.isGenerator = false
 nd : N.Nodup
 pre : N.take P.length = P
 par : ∀ x ∈ P, sc.names.lookup x = some .local ∨ sc.names.lookup x = some .cell
 nofree : ∀ y ∈ sc.names, y.2 ≠ .free
theorem bindL_out {kindOf : Str → Option NameKind} {x : Str} : ∀ {binds : List (Str × Value)} {m : Str → Option Value}, (∀ v, (x, v) ∉ binds) → bindL kindOf binds m x = m x
 | [], _, _ => rfl
 | (n, v) :: r, m, h => by
  unfold bindL
  rw [bindL_out fun w hw => h w (List.mem_cons_of_mem _ hw)]
  split
  ·have : x ≠ n := by rintro rfl; exact h v List.mem_cons_self
   simp [this]
  ·rfl
theorem bindC_out {kindOf : Str → Option NameKind} {x : Str} : ∀ {binds : List (Str × Value)} {m : Str → Option Value}, (∀ v, (x, v) ∉ binds) → bindC kindOf binds m x = m x
 | [], _, _ => rfl
 | (n, v) :: r, m, h => by
  unfold bindC
  rw [bindC_out fun w hw => h w (List.mem_cons_of_mem _ hw)]
  split
  ·rfl
  ·have : x ≠ n := by rintro rfl; exact h v List.mem_cons_self
   simp [this]
theorem bindL_get {kindOf : Str → Option NameKind} {x : Str} {v : Value} : ∀ {P : List Str} {vs : List Value} {i : Nat} {m : Str → Option Value}, P.Nodup → P[i]? = some x → vs[i]? = some v → kindOf x = some .local →
  bindL kindOf (P.zip vs) m x = some v
 | [], _, _, _, _, h, _, _ => by simp at h
 | _ :: _, [], _, _, _, _, h, _ => by simp at h
 | p :: P, w :: vs, 0, m, nd, h1, h2, hk => by
  simp at h1 h2; subst h1; subst h2
  show bindL kindOf ((p, w) :: P.zip vs) m p = _
  unfold bindL
  rw [bindL_out fun v hv => (List.nodup_cons.mp nd).1 (List.of_mem_zip hv).1, if_pos hk]
  simp
 | p :: P, w :: vs, i + 1, m, nd, h1, h2, hk => by
  show bindL kindOf ((p, w) :: P.zip vs) m x = _
  unfold bindL
  exact bindL_get (i := i) (List.nodup_cons.mp nd).2 (by simpa using h1) (by simpa using h2) hk
theorem bindC_get {kindOf : Str → Option NameKind} {x : Str} {v : Value} : ∀ {P : List Str} {vs : List Value} {i : Nat} {m : Str → Option Value}, P.Nodup → P[i]? = some x → vs[i]? = some v → kindOf x ≠ some .local →
  bindC kindOf (P.zip vs) m x = some v
 | [], _, _, _, _, h, _, _ => by simp at h
 | _ :: _, [], _, _, _, _, h, _ => by simp at h
 | p :: P, w :: vs, 0, m, nd, h1, h2, hk => by
  simp at h1 h2; subst h1; subst h2
  show bindC kindOf ((p, w) :: P.zip vs) m p = _
  unfold bindC
  rw [bindC_out fun v hv => (List.nodup_cons.mp nd).1 (List.of_mem_zip hv).1, if_neg hk]
  simp
 | p :: P, w :: vs, i + 1, m, nd, h1, h2, hk => by
  show bindC kindOf ((p, w) :: P.zip vs) m x = _
  unfold bindC
  exact bindC_get (i := i) (List.nodup_cons.mp nd).2 (by simpa using h1) (by simpa using h2) hk
noncomputable def start (N : List Str) (vs : List V) : St := vs.map some ++ List.replicate (N.length - vs.length) none
noncomputable def cxOf (CX : CXT) (P : Program) (w : World) (K : PySem.W.Frag) (mg : Str → Option Value) (base : Heap) (N : List Str) (qual : Str) (scope : Scope) (f : Addr) (cd : Value) (A : Around) (outer : List Env) (s : Shared) (H : Hp) (E : XK) : Cx where
 prog := P
 w := w
 K := K
 mg := mg
 base := base
 A := A.deeper (envOfC qual scope s.heap.objs.size f cd)
 N := N
 s₀ := s
 H₀ := H
 env := envOfC qual scope s.heap.objs.size f cd
 outer := outer
 stack := envOfC qual scope s.heap.objs.size f cd :: outer
 ex := []
 calm := true
 fn := fun _ => true
 pn := []
 xe := fun e s' => wpAny (model P w) (A.deeper (envOfC qual scope s.heap.objs.size f cd)) (leaving (envOfC qual scope s.heap.objs.size f cd) e) (fun _ s'' => CX outer H s E e s'') (fun e' s'' => CX outer H s E e' s'') s'
theorem cell_has {sc : Scope} {n : Nat} {x : Str} (h : sc.names.lookup x = some .cell) : ∃ c, (cellsFrom n sc.names []).lookup x = some c := by
 have q := PySem.W.cellsFrom_some sc.names n [] (.inl h)
 exact Option.isSome_iff_exists.mp q
theorem inv_start {CX : CXT} {P : Program} {w : World} {K : PySem.W.Frag} {mg : Str → Option Value} {base : Heap} {N ps : List Str} {qual : Str} {scope : Scope} {f : Addr} {cd : Value} {A : Around} {outer : List Env} {s s1 : Shared} {H : Hp} {E : XK} {us : List Value} {vs : List V}
  (S : FnScope N ps scope) (hd : A.handled = none) (e0 : Env0 P w K mg base A outer s H) (hl : vs.length = ps.length) (r : Vals vs us)
  (x : InCallC s s.heap.objs.size (bindL (envOfC qual scope s.heap.objs.size f cd).kindOf (ps.zip us) fun _ => none) (cellsFrom (s.heap.objs.size + 1) scope.names []) (bindC (envOfC qual scope s.heap.objs.size f cd).kindOf (ps.zip us) fun _ => none) s1) :
  Inv (cxOf CX P w K mg base N qual scope f cd A outer s H E) [] (start N vs) H s1 := by
 have hpl : ps.length ≤ N.length := by have := congrArg List.length S.pre; rw [List.length_take] at this; omega
 obtain ⟨h1, tk, rfl, hk⟩ := x.done
 have noA : ∀ b : Addr, b ∉ (cxOf CX P w K mg base N qual scope f cd A outer s H E).ex := fun b z => absurd (show b ∈ ([] : List Addr) from z) (by simp)
 refine ⟨⟨e0.mod, S.kind, rfl, rfl, Nat.le_refl _, fun y z c h1 h2 => ?_, fun y hy => ?_, fun y c _ h => ?_, fun _ => hd, Around.frames_deeper e0.frames, .inr ⟨rfl, rfl⟩, fun b z => absurd z (noA b), e0.bs, e0.bsz, fun b _ _ => noA b, fun b z => absurd z (noA b), e0.funs, e0.frf⟩,
  rfl, e0.bare, Un.kept hk, ⟨_, x.toInCall.ns, fun i y v h1 h2 h3 => ?_⟩, fun y c h => ⟨_, x.cell y c h⟩, e0.hok.fresh (Nat.le_refl _), fun y c h => ?_, fun p hp => absurd (show p ∈ ([] : List (Addr × Obj)) from hp) (by simp), e0.hok.kept hk, ?_⟩
 ·exact name_of_addr x.apart (PySem.mem_of_lookup h1) (PySem.mem_of_lookup h2)
 ·have hy : scope.names.lookup y = some .cell ∨ scope.names.lookup y = some .free := hy
  rcases hy with hy | hy
  ·exact cell_has hy
  ·exact absurd rfl (S.nofree _ (PySem.mem_of_lookup hy))
 ·exact Nat.le_of_lt (x.above y c (PySem.mem_of_lookup h))
 ·have hi : i < vs.length := by
   unfold start at h2
   by_cases hi : i < vs.length
   ·exact hi
   ·rw [List.getElem?_append_right (by simpa using hi)] at h2
    rw [List.getElem?_replicate] at h2
    split at h2 <;> cases h2
  have ha : vs[i]? = some v := by
   unfold start at h2
   rw [List.getElem?_append_left (by simpa using hi), List.getElem?_map] at h2
   cases e : vs[i]? with
   | none => rw [e] at h2; cases h2
   | some a => rw [e] at h2; cases h2; rfl
  obtain ⟨u, hu, rv⟩ := r.get ha
  have hp : ps[i]? = some y := by
   rw [← S.pre, List.getElem?_take_of_lt (by omega)]; exact h1
  have ndP : ps.Nodup := by rw [← S.pre]; exact S.nd.sublist (List.take_sublist _ _)
  refine ⟨u, rv, ?_⟩
  rcases S.par y (List.mem_of_getElem? hp) with k | k
  ·exact .inl ⟨k, bindL_get ndP hp hu k⟩
  ·obtain ⟨c, e⟩ := cell_has (n := s.heap.objs.size + 1) k
   refine .inr ⟨.inl k, c, e, ?_⟩
   have q := x.cell y c e
   rw [bindC_get ndP hp hu (by show scope.names.lookup y ≠ _; rw [k]; decide)] at q
   exact q
 ·exact e0.hok.fresh (Nat.le_of_lt (x.above y c (PySem.mem_of_lookup h)))
 ·unfold start
  show _ = N.length
  rw [List.length_append, List.length_map, List.length_replicate]
  omega
theorem fn_of {CX : CXT} {P : Program} {w : World} {K : PySem.W.Frag} {mg : Str → Option Value} {base : Heap} {k : Nat} {f : Addr} {name qual : Str} {params : Arguments} {body : List Stmt} {scope : Scope} {dV kV doc pm cdv ct oc : Value} {an od : Option Addr}
  {osl : Array (Option Value)} {N ps : List Str} {sp : Sp} (lk : K.lookup f = some ⟨oc, od, .func (PySem.W.fnOf name qual params body scope dV kV doc pm an cdv ct), osl⟩) (hcd : PySem.W.codeIn K cdv qual = true) (S : FnScope N ps scope)
  (len : ∀ vs H Q E, sp vs H Q E → vs.length = ps.length)
  (hbody : ∀ (A : Around) (outer : List Env) (s : Shared) (H : Hp) (vs : List V) (Q : VK) (E : XK), Room k (A.deeper (envOfC qual scope s.heap.objs.size f cdv)) → sp vs H Q E →
   ∃ t, PSs (cxOf CX P w K mg base N qual scope f cdv A outer s H E) body t ∧ t { nx := fun _ H' => Q .non H', rt := Q } (start N vs) H) :
  FnOk P w K mg base CX (k + 1) f (PySem.W.fnOf name qual params body scope dV kV doc pm an cdv ct) ps sp := by
 refine ⟨len, fun A outer s H args us vs Q E hr e0 hb r hsp => ?_⟩
 have hl := len _ _ _ _ hsp
 have KX : K.In s.heap := e0.mod.kin.keeps fun b o e => (e0.bs b o e).1
 have lim : s.heap.NoLimit := e0.mod.nolimit.keeps fun b o e => (e0.bs b o e).1
 have hkind : ∀ y ∈ ps.zip us, scope.names.lookup y.1 = some .local ∨ (scope.names.lookup y.1 = some .cell ∧ ((cellsFrom (s.heap.objs.size + 1) scope.names []).lookup y.1).isSome = true) := fun ⟨n, v⟩ hy => by
  rcases S.par n (List.of_mem_zip hy).1 with q | q
  ·exact .inl q
  ·exact .inr ⟨q, PySem.W.cellsFrom_some _ _ _ (.inl q)⟩
 refine codeAny_call_function hr.depth (KX _ _ lk) rfl S.co S.gen rfl (PySem.W.codeRec_of KX hcd) (hb _ _ _ _ ?_)
 refine wpAny_newFunctionEnv_cells S.kind hkind fun env he s1 x => ?_
 subst he
 refine ⟨lim.keeps x.toInCall.keep, codeAny_func ?_⟩
 obtain ⟨t, ht, hq⟩ := hbody A outer s H vs Q E (hr.deeper _) hsp
 have I : Inv (cxOf CX P w K mg base N qual scope f cdv A outer s H E) [] (start N vs) H s1 := inv_start S hr.hd e0 hl r x
 refine wpAny_mono (ht [] s1 (start N vs) H _ I hq) (fun fl s' hs => ?_) fun e s' hs => hs
 have fin : ∀ {σ' : St} {H' : Hp} {v : V} {u : Value}, Inv (cxOf CX P w K mg base N qual scope f cdv A outer s H E) [] σ' H' s' → RelV v u → Q v H' → CE outer P w H s Q u s' :=
  fun {σ' H' v u} J rv q => ⟨v, H', J.os, J.bare, J.base, J.hok, rv, q⟩
 cases fl with
 | ret u =>
  obtain ⟨v, σ', H', J, rv, q⟩ := hs
  exact fin J rv q
 | next =>
  obtain ⟨σ', H', J, q⟩ := hs
  exact fin (v := V.non) (u := Value.none) J rfl q
 | brk =>
  obtain ⟨_, _, _, q⟩ := hs
  exact False.elim q
 | cont =>
  obtain ⟨_, _, _, q⟩ := hs
  exact False.elim q
end L2
namespace L2
open PySem PySem.Spec PyProof.Rows
section
variable {X : Cx} {x : Str} {p pos : Pos} {e : Expr} {es : List Expr} {t : TA} {id T : String} {r : List V → Hp → VK → Prop}
noncomputable def tCB (r : List V → Hp → VK → Prop) (t : TA) : TE := fun σ H Q => t σ H fun vs H1 => r vs H1 Q
theorem pe_callB (hc : j2k X (.builtin id) r) (hg : Gl X x) (hm : X.mg x = none) (hv : bootBuiltins x = some (.builtin id)) (ha : PA X (e :: es) t) (hn : x ≠ "__name__" := by decide) (hdb : (x == ("__debug__" : Str)) = false := by decide)
  (he : starEach (e :: es) X.env = (false, eval e X.env) :: starEach es X.env := by rfl) (hpl : (backTo pos (starEach es X.env)).any (·.1) = false := by rfl) : PE X (.Call (.Name x p) (e :: es) [] pos) (tCB r t) := by
 intro pins s σ H Q I h
 refine wpAny_Call_Name_kw (ld_blt I hg hm hv ?_ hn hdb)
 exact PyProof.Rows.callWith_builtin1 (thn (ha pos pins s σ H _ I h) fun us s1 ⟨vs, H1, I1, r1, q1⟩ => hc pins s1 σ H1 vs us Q I1 r1 q1) he hpl
theorem pe_callTy (hc : j2k X (.type T) r) (hg : Gl X x) (hm : X.mg x = none) (hv : bootBuiltins x = some (.type T)) (ha : PA X (e :: es) t) (hn : x ≠ "__name__" := by decide) (hdb : (x == ("__debug__" : Str)) = false := by decide)
  (he : starEach (e :: es) X.env = (false, eval e X.env) :: starEach es X.env := by rfl) (hpl : (backTo pos (starEach es X.env)).any (·.1) = false := by rfl) : PE X (.Call (.Name x p) (e :: es) [] pos) (tCB r t) := by
 intro pins s σ H Q I h
 refine wpAny_Call_Name_kw (ld_blt I hg hm hv ?_ hn hdb)
 exact PyProof.Rows.callWith_type1 (thn (ha pos pins s σ H _ I h) fun us s1 ⟨vs, H1, I1, r1, q1⟩ => hc pins s1 σ H1 vs us Q I1 r1 q1) he hpl
end
end L2
namespace HT
open PySem PyProof.Rows
section
open PySem.SeqAt
open PySem.AutoSeq1 (wpAny_loadPart')
open PySem.MeetsSeq PySem.MeetsSeq2 PySem.MeetsSeq3
end
section
variable {prog : Program} {w : World} {A : Around} {E : Value → Shared → Prop} {s : Shared}
noncomputable def sIx (n d : Nat) : Option Int → Nat
 | none => d
 | some v => if v < 0 then (v + (n : Int)).toNat else min v.toNat n
end
end HT
namespace L2
open PySem PySem.Spec PyProof.Rows
section
variable {X : Cx} {e : Expr} {te : TE} {lo hi : Option Expr} {tl th : TO} {pos p2 : Pos}
noncomputable def SlR (X : Cx) (r : V → Option Int → Option Int → Hp → VK → Prop) : Prop :=
 ∀ (pins : List (Addr × Obj)) (s : Shared) (σ : St) (H : Hp) (x : V) (v vl vu : Value) (lo hi : Option Int) (sl : Addr) (Q : VK), Inv X pins σ H s → RelV x v → s.heap.IsSliceOf sl vl vu .none → IsPart vl lo → IsPart vu hi → r x lo hi H Q →
  ∃ T id, typeLookup (.type T) "__getitem__" = pure (some (.builtin id)) ∧ s.TypeIs v T ∧ wpAny (model X.prog X.w) X.A (getItem v (.ref sl)) (EP X pins σ Q) X.xe s
noncomputable def cutV (xs : List V) (lo hi : Option Int) : List V := (xs.drop (HT.sIx xs.length 0 lo)).take (HT.sIx xs.length xs.length hi - HT.sIx xs.length 0 lo)
theorem cutV_length (xs : List V) (lo hi : Option Int) : (cutV xs lo hi).length ≤ xs.length := by
 unfold cutV
 rw [List.length_take, List.length_drop]
 omega
end
end L2
namespace L2
open PySem PySem.Spec PyProof.Rows
noncomputable def ixN (n : Nat) (i : Int) : Option Nat := if 0 ≤ i then (if i < n then some i.toNat else none) else if -(n : Int) ≤ i then some (i + n).toNat else none
noncomputable def atI {α : Type} (xs : List α) (i : Int) : Option α := (ixN xs.length i).bind fun j => xs[j]?
theorem ixN_seq {n : Nat} {i : Int} {j : Nat} (h : ixN n i = some j) : seqIndex? i n = some j ∧ j < n ∧ -(n : Int) ≤ i ∧ i < n := by
 unfold ixN at h
 by_cases h0 : 0 ≤ i
 ·rw [if_pos h0] at h
  by_cases h1 : i < n
  ·rw [if_pos h1] at h
   have e : i.toNat = j := Option.some.inj h
   exact ⟨by rw [seqIndex_of h0 h1, e], by omega, by omega, h1⟩
  ·rw [if_neg h1] at h; cases h
 ·rw [if_neg h0] at h
  by_cases h1 : -(n : Int) ≤ i
  ·rw [if_pos h1] at h
   have e : (i + n).toNat = j := Option.some.inj h
   exact ⟨by rw [seqIndex_neg (by omega) h1, e], by omega, h1, by omega⟩
  ·rw [if_neg h1] at h; cases h
theorem atI_get {α : Type} {xs : List α} {i : Int} {v : α} (h : atI xs i = some v) : ∃ j, seqIndex? i xs.length = some j ∧ xs[j]? = some v ∧ j < xs.length ∧ -(xs.length : Int) ≤ i ∧ i < xs.length := by
 unfold atI at h
 cases e : ixN xs.length i with
 | none => rw [e] at h; cases h
 | some j =>
  rw [e] at h
  obtain ⟨h1, h2, h3, h4⟩ := ixN_seq e
  exact ⟨j, h1, h, h2, h3, h4⟩
theorem atI_nat {α : Type} {xs : List α} {j : Nat} {v : α} (h : xs[j]? = some v) : atI xs (j : Int) = some v := by
 have hj : j < xs.length := (List.getElem?_eq_some_iff.mp h).1
 have e : ixN xs.length (j : Int) = some j := by
  unfold ixN
  rw [if_pos (by omega), if_pos (by omega)]; simp
 unfold atI; rw [e]; exact h
noncomputable def PlainIx (b : Expr) : Prop := ∀ o i, subscripted b false o i = operate [o, i] (getItem o i)
noncomputable def IxR (X : Cx) (r : R2) : Prop :=
 ∀ (value slice : Expr) (pins : List (Addr × Obj)) (s : Shared) (σ : St) (H : Hp) (x y : V) (v u : Value) (Q : VK), Inv X pins σ H s → RelV x v → RelV y u → r x y H Q →
  subscripted slice false v u = operate [v, u] (getItem v u) → wpAny (model X.prog X.w) X.A (subscriptTail value slice v u) (EP X pins σ Q) X.xe s
noncomputable def MtR (X : Cx) (id : String) (r : V → List V → Hp → VK → Prop) : Prop :=
 ∀ (pins : List (Addr × Obj)) (s : Shared) (σ : St) (H : Hp) (x : V) (xs : List V) (v : Value) (us : List Value) (Q : VK), Inv X pins σ H s → RelV x v → Vals xs us → r x xs H Q →
  wpAny (model X.prog X.w) X.A (call (.builtin id) (v :: us)) (EP X pins σ Q) X.xe s
section
variable {X : Cx} {a b : Expr} {ta tb : TE} {pos : Pos}
theorem pe_ix {r : R2} (hr : IxR X r) (ha : PE X a ta) (hb : PE X b tb) (hs : PlainIx b) : PE X (.Subscript a b pos) (tOp r ta tb) := by
 intro pins s σ H Q I h
 exact Subscript_ (binT ha hb I h fun v u s2 x y H2 I2 rx ry q => hr a b pins s2 σ H2 x y v u Q I2 rx ry q (hs _ _))
noncomputable def rIxL (K : PySem.W.Frag) : R2 := fun x y H Q => ∃ p xs i v, x = .ref p ∧ y = .int i ∧ SqL K H p xs ∧ atI xs i = some v ∧ Q v H
noncomputable def rIxT (K : PySem.W.Frag) : R2 := fun x y H Q => ∃ p xs i v, x = .ref p ∧ y = .int i ∧ SqT K H p xs ∧ atI xs i = some v ∧ Q v H
noncomputable def rIxS : R2 := fun x y H Q => ∃ z i c, x = .str z ∧ y = .int i ∧ z.length ≤ sizeLine ∧ atI z.cps.toList i = some c ∧ Q (.str ⟨#[c]⟩) H
theorem j1k : IxR X (rIxL X.K) := by
 intro value slice pins s σ H x y v u Q I rx ry h hs
 obtain ⟨p, xs, i, z, rfl, rfl, hq, he, q⟩ := h
 cases rx
 obtain ⟨t, rfl⟩ := ry
 obtain ⟨its, r, pl, hz⟩ := I.list hq
 obtain ⟨j, h1, h2, h3, h4, h5⟩ := atI_get he
 obtain ⟨w, ew, rw'⟩ := r.get h2
 have hl := r.length
 have hn := line63
 have fin : EP X pins σ Q w s := ⟨z, H, I, rw', q⟩
 by_cases h0 : 0 ≤ i
 ·have hj : i.toNat = j := by
   rw [seqIndex_of h0 h5] at h1
   exact Option.some.inj h1
  exact item_listR pl.isList h0 (by omega) (by rw [hj]; simpa using ew) fin hs
 ·have hj : (i + (its.toArray.size : Int)).toNat = j := by
   rw [seqIndex_neg (by omega) h4] at h1
   rw [List.size_toArray, ← hl]
   exact Option.some.inj h1
  exact subscriptTail_builtinR (x := w) pl.isList.typeIs slot_list_getitem.lookup
   (wpAny_getItem_list_neg (Q := fun r s' => r = w ∧ EP X pins σ Q r s') pl.isList (by omega) (by rw [List.size_toArray] <;> omega) (by omega) (by rw [hj]; simpa using ew) ⟨rfl, fin⟩) hs
theorem j1h : IxR X (rIxT X.K) := by
 intro value slice pins s σ H x y v u Q I rx ry h hs
 obtain ⟨p, xs, i, z, rfl, rfl, hq, he, q⟩ := h
 cases rx
 obtain ⟨t, rfl⟩ := ry
 obtain ⟨its, r, pl, hz⟩ := I.tuple hq
 obtain ⟨j, h1, h2, h3, h4, h5⟩ := atI_get he
 obtain ⟨w, ew, rw'⟩ := r.get h2
 have hl := r.length
 have hn := line63
 have fin : EP X pins σ Q w s := ⟨z, H, I, rw', q⟩
 exact subscriptTail_builtinR (x := w) pl.typeIs slot_tuple_getitem.lookup
  (getItem_tuple (j := j) (Q := fun r s' => r = w ∧ EP X pins σ Q r s') pl (by omega) (by omega) (by rw [List.size_toArray, ← hl]; exact h1) (by simpa using ew) ⟨rfl, fin⟩) hs
theorem ix_str : IxR X rIxS := by
 intro value slice pins s σ H x y v u Q I rx ry h hs
 obtain ⟨z, i, c, rfl, rfl, hz, he, q⟩ := h
 obtain ⟨t, rfl⟩ := rx
 obtain ⟨t', rfl⟩ := ry
 obtain ⟨j, h1, h2, h3, h4, h5⟩ := atI_get he
 have hl : z.cps.toList.length = z.length := by simp [Str.length]
 rw [hl] at h1 h4 h5
 have hn := line63
 exact tail_any (typeIs_str s z t) slot_str_getitem.lookup (getItem_str (c := c) (by
  have e1 : decide (i < -(2 ^ 63 : Int)) = false := decide_eq_false (by omega)
  have e2 : decide (i ≥ 2 ^ 63) = false := decide_eq_false (by omega)
  rw [e1, e2, Bool.or_false]) (by rw [h1]; simpa using h2) ⟨.str ⟨#[c]⟩, H, I.tok _, ⟨_, rfl⟩, q⟩) hs
theorem slice_bounds (lo hi : Option Int) (n : Nat) : (sliceBounds lo hi none n).1 = ((HT.sIx n 0 lo : Nat) : Int) ∧ (sliceBounds lo hi none n).2.1 = ((HT.sIx n n hi : Nat) : Int) ∧ (sliceBounds lo hi none n).2.2 = 1 := by
 refine ⟨?_, ?_, rfl⟩
 ·cases lo with
  | none => simp [sliceBounds, HT.sIx]
  | some i =>
   simp only [sliceBounds, HT.sIx, Option.getD_none, show (1 : Int) > 0 by decide, if_true]
   by_cases h : i < 0
   ·simp only [h, if_true] <;> omega
   ·simp only [h, if_false] <;> omega
 ·cases hi with
  | none => simp [sliceBounds, HT.sIx]
  | some i =>
   simp only [sliceBounds, HT.sIx, Option.getD_none, show (1 : Int) > 0 by decide, if_true]
   by_cases h : i < 0
   ·simp only [h, if_true] <;> omega
   ·simp only [h, if_false] <;> omega
theorem slicePick_cut (its : List Value) (lo hi : Option Int) : slicePick its.toArray lo hi none = ((its.drop (HT.sIx its.length 0 lo)).take (HT.sIx its.length its.length hi - HT.sIx its.length 0 lo)).toArray := by
 obtain ⟨h1, h2, h3⟩ := slice_bounds lo hi its.toArray.size
 unfold slicePick
 rw [h1, h2, h3]
 simp only [sliceRange_one, pick_run, List.size_toArray] <;> rfl
noncomputable def rSlL (K : PySem.W.Frag) : V → Option Int → Option Int → Hp → VK → Prop := fun x lo hi H Q => ∃ a xs, x = .ref a ∧ SqL K H a xs ∧ ∀ p, H p = none → Q (.ref p) (upd H p (.lst (cutV xs lo hi)))
theorem sl_list : SlR X (rSlL X.K) := by
 intro pins s σ H x v vl vu lo hi sl Q I rx hs pl pu h
 obtain ⟨a, xs, rfl, hx, q⟩ := h
 cases rx
 obtain ⟨its, r, ht, hz⟩ := I.list hx
 have hlen := r.length
 refine ⟨"list", _, slot_list_getitem.lookup, ht.isList.typeIs, ?_⟩
 refine wpAny_getItem_list_slice ht.isList hs pl pu .none (by simp) ?_ (by rw [List.size_toArray] <;> omega)
 rw [slicePick_cut, ← hlen]
 refine ⟨.ref s.heap.objs.size, _, I.laid (t' := s.toks) (o := .lst (cutV xs lo hi)) (fun b ob q => Heap.get?_push_of_some _ q) (Nat.le_refl _) ?_, rfl, q _ (I.hok.fresh (Nat.le_refl _))⟩
 exact ⟨Nat.le_trans (cutV_length xs lo hi) hz, _, 0, (r.drop (HT.sIx xs.length 0 lo)).take (HT.sIx xs.length xs.length hi - HT.sIx xs.length 0 lo), Heap.get?_push_size _ rfl⟩
noncomputable def flatV : V → Bool
 | .non => true
 | .bl _ => true
 | .int _ => true
 | .str _ => true
 | _ => false
noncomputable def eqV : V → V → Bool
 | .non, .non => true
 | .bl a, .bl b => a == b
 | .bl a, .int b => (if a then 1 else 0) == b
 | .int a, .bl b => a == (if b then 1 else 0)
 | .int a, .int b => a == b
 | .str a, .str b => a == b
 | _, _ => false
theorem eqAt_V {A : Around} {s : Shared} {y x : V} {u v : Value} (ry : RelV y u) (rx : RelV x v) (fy : flatV y = true) (fx : flatV x = true) : SeqAt.EqAt A s u v (eqV y x) := by
 cases y with
 | non =>
  cases ry
  cases x with
  | non => cases rx; exact SeqAt.EqAt.same _
  | bl b => cases rx; exact SeqAt.EqAt.none_bool b
  | int b => obtain ⟨t, rfl⟩ := rx; exact SeqAt.EqAt.none_int b t
  | str b => obtain ⟨t, rfl⟩ := rx; exact SeqAt.EqAt.none_str b t
  | _ => exact absurd (show false = true from fx) Bool.false_ne_true
 | bl a =>
  cases ry
  cases x with
  | non => cases rx; exact SeqAt.EqAt.bool_none a
  | bl b => cases rx; exact SeqAt.EqAt.bool_bool a b
  | int b => obtain ⟨t, rfl⟩ := rx; exact SeqAt.EqAt.bool_int a b t
  | str b => obtain ⟨t, rfl⟩ := rx; exact SeqAt.EqAt.bool_str a b t
  | _ => exact absurd (show false = true from fx) Bool.false_ne_true
 | int a =>
  obtain ⟨t', rfl⟩ := ry
  cases x with
  | non => cases rx; exact SeqAt.EqAt.int_none a t'
  | bl b => cases rx; exact SeqAt.EqAt.int_bool a t' b
  | int b => obtain ⟨t, rfl⟩ := rx; exact SeqAt.EqAt.int_int a t' b t
  | str b => obtain ⟨t, rfl⟩ := rx; exact SeqAt.EqAt.int_str a t' b t
  | _ => exact absurd (show false = true from fx) Bool.false_ne_true
 | str a =>
  obtain ⟨t', rfl⟩ := ry
  cases x with
  | non => cases rx; exact SeqAt.EqAt.str_none a t'
  | bl b => cases rx; exact SeqAt.EqAt.str_bool a t' b
  | int b => obtain ⟨t, rfl⟩ := rx; exact SeqAt.EqAt.str_int a t' b t
  | str b => obtain ⟨t, rfl⟩ := rx; exact SeqAt.EqAt.str_str a t' b t
  | _ => exact absurd (show false = true from fx) Bool.false_ne_true
 | _ => exact absurd (show false = true from fy) Bool.false_ne_true
theorem j0n : j2k X (.builtin "len") (fun xs H Q => ∃ p ys, xs = [.ref p] ∧ (SqL X.K H p ys ∨ SqT X.K H p ys) ∧ Q (.int ys.length) H) := by
 intro pins s σ H xs us Q I r h
 obtain ⟨p, ys, rfl, hq, q⟩ := h
 obtain ⟨u, rfl, rx⟩ := vals1 r
 cases rx
 have hn := line63
 rcases hq with hq | hq
 ·obtain ⟨its, r', pl, hz⟩ := I.list hq
  have hlen := r'.length
  exact Calls.call_len_list pl.isList (by simp only [List.size_toArray] <;> omega) ⟨.int ys.length, H, I.tok _, ⟨s.toks + 1, by rw [List.size_toArray, hlen]⟩, q⟩
 ·obtain ⟨its, r', pl, hz⟩ := I.tuple hq
  have hlen := r'.length
  exact len_tuple pl (by simp only [List.size_toArray] <;> omega) ⟨.int ys.length, H, I.tok _, ⟨s.toks + 1, by rw [List.size_toArray, hlen]⟩, q⟩
theorem call_len_str : j2k X (.builtin "len") (fun xs H Q => ∃ z, xs = [.str z] ∧ z.length ≤ sizeLine ∧ Q (.int z.length) H) := by
 intro pins s σ H xs us Q I r h
 obtain ⟨z, rfl, hz, q⟩ := h
 obtain ⟨u, rfl, t, rfl⟩ := vals1 r
 have hn := line63
 exact len_str (by omega) ⟨.int z.length, H, I.tok _, ⟨_, rfl⟩, q⟩
theorem call_list_of : j2k X (.type "list") (fun xs H Q => ∃ p ys, xs = [.ref p] ∧ (SqL X.K H p ys ∨ SqT X.K H p ys) ∧ ∀ l, H l = none → Q (.ref l) (upd H l (.lst ys))) := by
 intro pins s σ H xs us Q I r h
 obtain ⟨p, ys, rfl, hq, q⟩ := h
 obtain ⟨u, rfl, rx⟩ := vals1 r
 cases rx
 have fin : ∀ (its : List Value), Vals ys its → ys.length ≤ sizeLine → ∀ (h' : Heap) (c' : Nat), (∀ b o', s.heap.get? b = some o' → h'.get? b = some o') →
   h'.get? s.heap.objs.size = some { cls := .type "list", dict := none, data := .seq its.toArray c', slots := #[] } → EP X pins σ Q (.ref s.heap.objs.size) { s with heap := h' } := fun its r' hz h' c' kp e =>
  ⟨.ref s.heap.objs.size, _, I.laid (t' := s.toks) kp (Nat.le_refl _) (show ObjOk X.prog X.w _ h' _ (.lst ys) from ⟨hz, its, c', r', e⟩), rfl, q _ (I.hok.fresh (Nat.le_refl _))⟩
 rcases hq with hq | hq
 ·obtain ⟨its, r', pl, hz⟩ := I.list hq
  have hlen := r'.length
  obtain ⟨o, ho, hc, n, hd⟩ := pl.isList
  exact call_list_seq p (.inl rfl) ho hc hd (fun h' c' kp e => fin its r' hz h' c' kp e) (by simp only [List.size_toArray] <;> omega)
 ·obtain ⟨its, r', pl, hz⟩ := I.tuple hq
  have hlen := r'.length
  obtain ⟨o, ho, hc, n, hd⟩ := pl
  exact call_list_seq p (.inr rfl) ho hc hd (fun h' c' kp e => fin its r' hz h' c' kp e) (by simp only [List.size_toArray] <;> omega)
noncomputable def tyV (K : PySem.W.Frag) (T : String) (x : V) (H : Hp) : Prop := match x with
 | .str _ => T = "str"
 | .int _ => T = "int"
 | .ref p => (T = "list" ∧ ∃ xs, SqL K H p xs) ∨ (T = "tuple" ∧ ∃ o, K.lookup p = some o ∧ o.cls = .type "tuple" ∧ o.dict = none) ∨
   (T = "dict" ∧ ((∃ kvs, H p = some (.dK kvs)) ∨ ∃ kvs, H p = some (.dT kvs))) ∨ (T = "set" ∧ ∃ S n, H p = some (.set S n))
 | _ => False
theorem tyV_is {pins : List (Addr × Obj)} {σ : St} {H : Hp} {s : Shared} {T : String} {x : V} {v : Value} (I : Inv X pins σ H s) (r : RelV x v) (ty : tyV X.K T x H) :
  s.TypeIs v T ∧ ∀ a, v = .ref a → ∃ ob, s.heap.get? a = some ob ∧ ob.dict = none := by
 cases x with
 | str z =>
  obtain ⟨t, rfl⟩ := r
  cases (show T = "str" from ty)
  exact ⟨typeIs_str s z t, fun _ e => nomatch e⟩
 | int i =>
  obtain ⟨t, rfl⟩ := r
  cases (show T = "int" from ty)
  exact ⟨typeIs_int s i t, fun _ e => nomatch e⟩
 | ref p =>
  cases r
  rcases ty with ⟨rfl, xs, hq⟩ | ⟨rfl, o, hk, hc, hd⟩ | ⟨rfl, hk⟩ | ⟨rfl, S, n, hk⟩
  ·obtain ⟨its, _, pl, _⟩ := I.list hq
   refine ⟨pl.isList.typeIs, fun a e => ?_⟩
   cases e
   obtain ⟨o, n, e, c, hd, _⟩ := pl
   exact ⟨o, e, hd⟩
  ·refine ⟨⟨o, I.kIn p o hk, hc⟩, fun a e => ?_⟩
   cases e
   exact ⟨o, I.kIn _ o hk, hd⟩
  ·have z : ∃ o, s.heap.get? p = some o ∧ o.ExactDict := by
    rcases hk with ⟨kvs, hk⟩ | ⟨kvs, hk⟩
    ·obtain ⟨_, _, _, _, o, _, _, e, ex, _⟩ := I.hok p _ hk
     exact ⟨o, e, ex⟩
    ·obtain ⟨_, _, _, _, o, _, _, e, ex, _⟩ := I.hok p _ hk
     exact ⟨o, e, ex⟩
   obtain ⟨o, e, ex⟩ := z
   refine ⟨⟨o, e, ex.1⟩, fun a e2 => ?_⟩
   cases e2
   exact ⟨o, e, ex.2.1⟩
  ·obtain ⟨o, _, _, _, e, ex, _⟩ := I.hok p _ hk
   refine ⟨⟨o, e, ex.1⟩, fun a e2 => ?_⟩
   cases e2
   exact ⟨o, e, ex.2.1⟩
 | _ => exact False.elim ty
noncomputable def tBM0 (K : PySem.W.Frag) (T : String) (r : V → List V → Hp → VK → Prop) (to : TE) : TE := fun σ H Q => to σ H fun x H1 => tyV K T x H1 ∧ r x [] H1 Q
noncomputable def tBM (K : PySem.W.Frag) (T : String) (r : V → List V → Hp → VK → Prop) (to : TE) (t : TA) : TE := fun σ H Q => to σ H fun x H1 => tyV K T x H1 ∧ t σ H1 fun xs H2 => r x xs H2 Q
variable {o e : Expr} {es : List Expr} {to : TE} {t : TA} {name : Str} {apos cpos : Pos} {T id : String} {r : V → List V → Hp → VK → Prop}
theorem pe_bm0 (pa : PlainAttrs T) (slot : Slot T name id) (hty : typeOf (.builtin id) = pure (.type "method_descriptor")) (hm : MtR X id r) (ho : PE X o to)
  (hbase : attributeBase o name X.env (eval o X.env) = eval o X.env := by rfl) (hline : (apos.endLine == cpos.line) = true := by rfl) : PE X (.Call (.Attribute o name apos) [] [] cpos) (tBM0 X.K T r to) := by
 intro pins s σ H Q I h
 refine wpAny_Call_method0_late hbase hline (thn (ho pins s σ H _ I h) fun v s1 ⟨x, H1, I1, r1, ty, q1⟩ => ?_)
 obtain ⟨h1, h2⟩ := tyV_is I1 r1 ty
 exact ⟨T, id, pa, slot, hty, h1, h2, Calls.callWith_builtin rfl (PySem.evalArgs_none (hm pins s1 σ H1 x [] v [] Q I1 r1 .nil q1))⟩
theorem pe_bm (pa : PlainAttrs T) (slot : Slot T name id) (hty : typeOf (.builtin id) = pure (.type "method_descriptor")) (hm : MtR X id r) (ho : PE X o to) (ha : PA X (e :: es) t)
  (hbase : attributeBase o name X.env (eval o X.env) = eval o X.env := by rfl)
  (hfew : ((backTo cpos (starEach (e :: es) X.env)).all (fun x => !x.1) && (backToKw cpos (keywordEach [] X.env)).all (fun x => x.1.isSome)
   && decide ((e :: es).length + ([] : List Keyword).length + (if ([] : List Keyword).isEmpty then 0 else 1) < 30)) = true := by rfl)
  (hline : (apos.endLine == cpos.line) = true := by rfl) (hs : starEach (e :: es) X.env = (false, eval e X.env) :: starEach es X.env := by rfl) (hplain : (backTo cpos (starEach es X.env)).any (·.1) = false := by rfl) :
  PE X (.Call (.Attribute o name apos) (e :: es) [] cpos) (tBM X.K T r to t) := by
 intro pins s σ H Q I h
 refine wpAny_Call_method_late hbase hfew hline rfl (thn (ho pins s σ H _ I h) fun v s1 ⟨x, H1, I1, r1, ty, q1⟩ => ?_)
 obtain ⟨h1, h2⟩ := tyV_is I1 r1 ty
 refine ⟨T, id, pa, slot, hty, h1, h2, ?_⟩
 have hA := ha cpos pins s1 σ H1 _ I1 q1
 rw [hs] at hA ⊢
 refine Calls.callWith_builtin (by show (false || (backTo cpos (starEach es X.env)).any (·.1)) = false; rw [hplain] <;> rfl) (Calls.evalArgs_plain ?_)
 exact thn hA fun us s2 ⟨vs, H2, I2, r2, q2⟩ => hm pins s2 σ H2 x vs v us Q I2 r1 r2 q2
end
end L2
namespace L2
open PySem PySem.Spec PyProof.Rows
noncomputable def MtM (X : Cx) (id : String) (r : V → List V → Hp → VK → Prop) : Prop :=
 ∀ (pins : List (Addr × Obj)) (s : Shared) (σ : St) (H : Hp) (x : V) (xs : List V) (v : Value) (us : List Value) (Q : VK), Inv X pins σ H s → RelV x v → Vals xs us → r x xs H Q →
  wpAny (model X.prog X.w) X.A (call (.builtin id) (v :: us)) (EP X pins σ Q) X.xe s
theorem Vals.hd {x : V} {xs : List V} {us : List Value} (h : Vals (x :: xs) us) : ∃ u vs, us = u :: vs ∧ RelV x u ∧ Vals xs vs := by
 cases h with
 | cons r t => exact ⟨_, _, rfl, r, t⟩
theorem Vals.nl {us : List Value} (h : Vals [] us) : us = [] := by
 cases h
 rfl
theorem Vals.one {x : V} {us : List Value} (h : Vals [x] us) : ∃ u, us = [u] ∧ RelV x u := by
 obtain ⟨u, vs, rfl, r, t⟩ := h.hd
 rw [t.nl]
 exact ⟨u, rfl, r⟩
theorem Vals.two {x y : V} {us : List Value} (h : Vals [x, y] us) : ∃ u v, us = [u, v] ∧ RelV x u ∧ RelV y v := by
 obtain ⟨u, vs, rfl, r, t⟩ := h.hd
 obtain ⟨v, ws, rfl, q, t⟩ := t.hd
 rw [t.nl]
 exact ⟨u, v, rfl, r, q⟩
theorem Vals.zero : ∀ {us : List Value}, Vals [] us → us = []
 | _, .nil => rfl
theorem Vals.dropLast {xs : List V} {us : List Value} (h : Vals xs us) : Vals xs.dropLast us.dropLast := by
 induction h with
 | nil => exact .nil
 | cons r t ih =>
  cases t with
  | nil => exact .nil
  | cons q t' => exact .cons r ih
theorem erase_last {α : Type} (l : List α) : l.eraseIdx (l.length - 1) = l.dropLast := by
 induction l with
 | nil => rfl
 | cons a r ih =>
  cases r with
  | nil => rfl
  | cons b r =>
   have e : (a :: b :: r).length - 1 = ((b :: r).length - 1) + 1 := by
    have h1 : (a :: b :: r).length = r.length + 2 := rfl
    have h2 : (b :: r).length = r.length + 1 := rfl
    omega
   rw [e, List.eraseIdx_cons_succ, ih]
   all_goals rfl
section
variable {X : Cx} {pins : List (Addr × Obj)} {σ : St} {H : Hp} {s : Shared} {l b : Addr} {xs ys zs : List V}
theorem Inv.lset {its its' : List Value} {n : Nat} {f : Array Value → Array Value} {t' : Nat} (I : Inv X pins σ H s) (hH : H l = some (.lst xs))
  (e : s.heap.get? l = some { cls := .type "list", data := .seq its.toArray n }) (hf : f its.toArray = its'.toArray) (hv : Vals ys its') (hz : ys.length ≤ sizeLine) :
  Inv X pins σ (upd H l (.lst ys)) { s with heap := s.heap.update l (Obj.mapSeq f), toks := t' } := by
 have q := PySem.IsL.update e f
 rw [hf] at q
 refine I.write (x := l) (e := l) (by rw [hH]; exact trivial) (.inl rfl) (fun b' u hb hu => (Heap.get?_update_other s.heap (Obj.mapSeq f) (Ne.symm hb)).trans hu) ⟨_, q⟩ ?_
 exact ⟨hz, its', _, hv, q⟩
theorem Inv.lnew {its : List Value} {t' : Nat} (I : Inv X pins σ H s) (hv : Vals ys its) (hz : ys.length ≤ sizeLine) :
  Inv X pins σ (upd H s.heap.objs.size (.lst ys)) { s with heap := s.heap.push { cls := .type "list", data := .seq its.toArray }, toks := t' } :=
 I.laid (fun _ _ q => Heap.get?_push_of_some _ q) (Nat.le_refl _) ⟨hz, its, 0, hv, Heap.get?_push_size _ rfl⟩
theorem Inv.fresh (I : Inv X pins σ H s) : H s.heap.objs.size = none := I.hok.fresh (Nat.le_refl _)
theorem Inv.lstM (I : Inv X pins σ H s) (hH : H l = some (.lst xs)) : xs.length ≤ sizeLine ∧ ∃ (its : List Value) (n : Nat), Vals xs its ∧ xs.length = its.length ∧ s.heap.get? l = some { cls := .type "list", data := .seq its.toArray n } := by
 obtain ⟨z, its, n, r, e⟩ := I.hok l _ hH
 exact ⟨z, its, n, r, r.length, e⟩
theorem notLongL {n : Nat} (h : n ≤ sizeLine) : Builtin.List.listTooLong n = false := by
 unfold Builtin.List.listTooLong
 exact decide_eq_false (by omega)
end
section
variable {X : Cx}
noncomputable def rAppend : V → List V → Hp → VK → Prop := fun x vs H Q => ∃ l xs y, x = .ref l ∧ vs = [y] ∧ H l = some (.lst xs) ∧ xs.length < sizeLine ∧ Q .non (upd H l (.lst (xs ++ [y])))
theorem mt_append : MtM X "list.append" rAppend := by
 intro pins s σ H x vs v us Q I rx rv h
 obtain ⟨l, xs, y, rfl, rfl, hH, hz, q⟩ := h
 cases rx
 obtain ⟨u, rfl, ru⟩ := rv.one
 obtain ⟨z, its, n, r, hl, e⟩ := I.lstM hH
 refine call_meets F.slot_list_append ⟨_, e, rfl⟩ F.entry_list_append (F.args_list_append_2 _ _) (PySem.list_append l its.toArray n u (by rw [List.size_toArray]; omega)) ⟨e, ?_⟩
 refine ⟨.non, _, I.lset (its' := its ++ [u]) hH e (by simp) (r.append (.cons ru .nil)) ?_, rfl, q⟩
 rw [List.length_append, List.length_singleton]
 omega
noncomputable def rExtend : V → List V → Hp → VK → Prop := fun x vs H Q => ∃ l b xs zs, x = .ref l ∧ vs = [.ref b] ∧ H l = some (.lst xs) ∧ H b = some (.lst zs) ∧ xs.length + zs.length ≤ sizeLine ∧ Q .non (upd H l (.lst (xs ++ zs)))
theorem mt_extend : MtM X "list.extend" rExtend := by
 intro pins s σ H x vs v us Q I rx rv h
 obtain ⟨l, b, xs, zs, rfl, rfl, hH, hB, hz, q⟩ := h
 cases rx
 obtain ⟨u, rfl, ru⟩ := rv.one
 cases ru
 obtain ⟨z, its, n, r, hl, e⟩ := I.lstM hH
 obtain ⟨z2, its2, n2, r2, hl2, e2⟩ := I.lstM hB
 have hsz : its.toArray.size + its2.toArray.size ≤ sizeLine := by rw [List.size_toArray, List.size_toArray]; omega
 have hlong : ¬ (!its.toArray.isEmpty && Builtin.List.listTooLong (its.toArray.size + its2.toArray.size)) = true := by
  rw [notLongL hsz, Bool.and_false]
  exact Bool.false_ne_true
 refine call_meets F.slot_list_extend ⟨_, e, rfl⟩ F.entry_list_extend (F.args_list_extend_2 _ _)
  (AutoSeq1.list_extend_list_list_0 l its.toArray n b its2.toArray n2 hlong (by rw [List.size_toArray]; omega) (by omega)) ⟨e, e2, ?_⟩
 refine ⟨.non, _, I.lset (its' := its ++ its2) hH e (by simp) (r.append r2) ?_, rfl, q⟩
 rw [List.length_append]
 omega
noncomputable def rPop : V → List V → Hp → VK → Prop := fun x vs H Q => ∃ l xs y, x = .ref l ∧ vs = [] ∧ H l = some (.lst xs) ∧ xs[xs.length - 1]? = some y ∧ Q y (upd H l (.lst xs.dropLast))
theorem mt_pop : MtM X "list.pop" rPop := by
 intro pins s σ H x vs v us Q I rx rv h
 obtain ⟨l, xs, y, rfl, rfl, hH, hy, q⟩ := h
 cases rx
 have hus := rv.zero
 subst hus
 obtain ⟨z, its, n, r, hl, e⟩ := I.lstM hH
 obtain ⟨u, hu, ru⟩ := r.get hy
 have hy' : its.toArray[its.toArray.size - 1]? = some u := by
  show its.toArray[its.length - 1]? = some u
  rw [← Array.getElem?_toList, ← hl]
  exact hu
 refine call_meets F.slot_list_pop ⟨_, e, rfl⟩ F.entry_list_pop (F.args_list_pop_1 _) (MeetsSeq.list_pop_last l its.toArray n u hy' (by rw [List.size_toArray]; omega)) ⟨e, ?_⟩
 refine ⟨y, _, I.lset (its' := its.dropLast) hH e ?_ r.dropLast ?_, ru, q⟩
 ·show its.toArray.eraseIdxIfInBounds (its.toArray.size - 1) = its.dropLast.toArray
  rw [List.size_toArray, List.eraseIdxIfInBounds_toArray, erase_last]
 ·rw [List.length_dropLast]
  omega
noncomputable def rCat : R2 := fun x y H Q => ∃ l b xs zs, x = .ref l ∧ y = .ref b ∧ H l = some (.lst xs) ∧ H b = some (.lst zs) ∧ xs.length + zs.length ≤ sizeLine ∧ ∀ p, H p = none → Q (.ref p) (upd H p (.lst (xs ++ zs)))
theorem op_cat : OpR X (binaryOp .Add) rCat := by
 intro pins s σ H x y v u Q I rx ry h
 obtain ⟨l, b, xs, zs, rfl, rfl, hH, hB, hz, q⟩ := h
 cases rx
 cases ry
 obtain ⟨z, its, n, r, hl, e⟩ := I.lstM hH
 obtain ⟨z2, its2, n2, r2, hl2, e2⟩ := I.lstM hB
 refine PySem.P.add_list e e2 ?_ (by rw [List.size_toArray, List.size_toArray]; omega)
 have ea : its.toArray ++ its2.toArray = (its ++ its2).toArray := by simp
 rw [ea]
 exact ⟨.ref _, _, I.lnew (t' := s.toks) (r.append r2) (by rw [List.length_append]; omega), rfl, q _ I.fresh⟩
end
section
variable {prog : Program} {w : World} {A : Around} {E : Value → Shared → Prop} {s : Shared}
end
section
variable {X : Cx}
end
end L2
namespace Att
open PySem PySem.W PySem.Calls PyProof.Rows
theorem ints_of_wellAll {P : Params} {h : Heap} : ∀ (ns : List Int) (vs : List Value), WellAll P h vs (ns.map WData.int) → IntsAre vs ns := by
 intro ns
 induction ns with
 | nil =>
  intro vs w
  rw [List.map_nil] at w
  cases w
  exact .nil
 | cons n ns ih =>
  intro vs w
  rw [List.map_cons] at w
  cases w with
  | cons a b =>
   cases a
   exact .cons _ _ (ih _ b)
theorem script_of {l : OpenLaw} {n : Nat} (hn : l.most = some n) {P : Params} {h : Heap} {args : List WData} {vals : List Value}
  (hpre : l.row.toRowW.claim.pre args = true) (hwl : WellAll P h vals args) :
  ∃ a vs ns, vals = [Value.ref a] ∧ args = [WData.list (ns.map WData.int)] ∧ h.get? a = some { cls := .type "list", data := .seq vs.toArray } ∧ IntsAre vs ns ∧ ns.length ≤ n := by
 have hsh : WShape.hasAll [] args [.list .int] = true := (pre_splitW hpre).1
 have hc : l.pre.holds [] { args := args } = true := (pre_splitW hpre).2
 obtain ⟨d, r, rfl, h1, h2⟩ := hasAllW_cons hsh
 obtain rfl := hasAllW_nil h2
 obtain ⟨xs, rfl, h3⟩ := hasW_list h1
 obtain ⟨ns, rfl⟩ := items_int h3
 have hlen : ns.length ≤ n := by
  unfold OpenLaw.pre at hc
  have h4 : (WTm.not (.lt (.lit (.int (n : Int))) (.len (.arg 0)))).holds [] { args := [.list (ns.map .int)] } = true := by
   have h4 := (holds_andW hc).1
   rw [hn] at h4
   exact h4
  have h5 := condW_of h4 (w_not (w_lt w_lit (w_len_list (w_arg rfl))))
  rw [List.length_map] at h5
  refine Nat.le_of_not_lt fun q => ?_
  have q' : (n : Int) < ((ns.length : Nat) : Int) := by omega
  first
   | (rw [decide_eq_true q'] at h5; exact absurd h5 (by decide))
   | (simp at h5; omega)
 cases hwl with
 | cons w1 w2 =>
  cases w2
  cases w1 with
  | list ho hall => exact ⟨_, _, ns, rfl, rfl, ho, ints_of_wellAll ns _ hall, hlen⟩
theorem post_true (l : OpenLaw) (args : List WData) : l.row.toRowW.claim.post args (.bool true) args = true :=
 postW_of (r := l.row.toRowW) (X := (true == true))
  (show WShape.has [] (.bool true) .bool = true by first | rfl | decide | simp [WShape.has, WShape.arms, WShape.armsAll])
  (show (WTm.eq .res (.lit (.bool true))).value [] { args := args, res := some (.bool true), after := args } = some (.bool (true == true)) from w_eq_bool (w_res rfl) w_lit) rfl
theorem attach_call {l : OpenLaw} {n : Nat} {q : Program} {loose : List Str} {XP : (Str → Option Value) → Heap → Prop} {YP : World → Heap → Prop} {d : DefRec}
  (hn : l.most = some n) (hdf : d.params.defaults = [])
  (call : ∀ (w : World) (s₀ s₁ : Shared) (mg mb : Str → Option Value) (fa : Addr) (o : Obj) (pm cd doc : Value) (a : Addr) (vs : List Value) (ns : List Int),
   Ground q loose [] XP w s₀ mg mb s₁.heap → YP w s₁.heap →
   s₁.heap.get? fa = some o → o.data = .func (docDef d.name d.params d.body d.scope pm cd doc) → s₁.heap.CodeRec cd d.name → mg d.name = some (.ref fa) →
   s₁.heap.get? a = some { cls := .type "list", data := .seq vs.toArray } → IntsAre vs ns → ns.length ≤ n → s₁.gens = #[] →
   codeAny (model l.prog w) callerA (.call (.ref fa) ⟨[.ref a], []⟩) (fun r s' => r = .ok (.ret (.bool true)) ∧ OldK s₁.heap s'.heap ∧ s'.os = s₁.os ∧ AllBare s'.gens) s₁) :
  WalkO q loose XP YP l.row.toRowW d [] (fun f vs => PySem.call f vs) := by
 intro w s₀ s₁ mg mb G Y fa o pm cd doc dV kV ho hd hcd hD hmg hg args vals as hpre hlay hrd hwl hlo
 obtain rfl : dV = .none := Dflts.none hD hdf
 obtain rfl : kV = .none := Dflts.noKw hD
 obtain ⟨a, vs, ns, rfl, rfl, hobj, hints, hlen⟩ := script_of hn hpre hwl
 refine enter_call (codeAny_mono (call w s₀ s₁ mg mb fa o pm cd doc a vs ns G Y ho (fd_plain hd) hcd hmg hobj hints hlen hg) fun r s' hq => ?_)
 obtain ⟨rfl, h2, h3, h4⟩ := hq
 exact ⟨.inl ⟨.bool true, .bool true, [], rfl, fun _ => rfl, .bool true, post_true l _, fun _ => ⟨List.Pairwise.nil, fun _ hm => (nomatch hm)⟩⟩, h2, h3, h4⟩
section
variable {prog : Program} {w : World} {A : Around} {E : Value → Shared → Prop} {s : Shared} {K : Frag}
end
end Att
namespace L2
open PySem PySem.Spec PyProof.Rows
theorem vals_ints : ∀ {vs : List Value} {ns : List Int}, IntsAre vs ns → Vals (ns.map V.int) vs
 | _, _, .nil => .nil
 | _, _, .cons n t h => .cons ⟨t, rfl⟩ (vals_ints h)
noncomputable def Only (H : Hp) : Prop := ∀ b, H b = none ∨ ∃ o xs, H b = some (.frz o (.lst xs))
theorem law_call {P : Program} {w : World} {K : PySem.W.Frag} {mg mb : Str → Option Value} {CX : CXT} {k : Nat} {fa a : Addr} {fd : FuncData} {x : Str} {sp : Sp} {s₁ : Shared} {vs : List Value} {ns : List Int}
  (KX : K.In s₁.heap) (hns : s₁.heap.Ns mainGlobals mg) (hb : s₁.heap.Ns builtinsNs mb) (hbb : ∀ x : Str, x ≠ "__name__" → mb x = bootBuiltins x) (hlim : s₁.heap.NoLimit) (hg : s₁.gens = #[])
  (ha : s₁.heap.get? a = some { cls := .type "list", data := .seq vs.toArray }) (hi : IntsAre vs ns) (hl : ns.length ≤ sizeLine) (hr : Room k callerA)
  (F : ∀ base : Heap, K.In base → base.Ns mainGlobals mg → FnOk P w K mg base CX k fa fd [x] sp) (hbind : ∀ (s : Shared) (u : Value), BindsTo s fd ⟨[u], []⟩ [(x, u)])
  (hsp : ∀ H : Hp, Only H → SqL K H a (ns.map V.int) → sp [.ref a] H (fun v _ => v = .bl true) fun _ _ _ => False)
  (hCX : ∀ H e s', CX [] H s₁ (fun _ _ _ => False) e s' → False) :
  codeAny (model P w) callerA (.call (.ref fa) ⟨[.ref a], []⟩) (fun r s' => r = .ok (.ret (.bool true)) ∧ OldK s₁.heap s'.heap ∧ s'.os = s₁.os ∧ AllBare s'.gens) s₁ := by
 have rv := vals_ints hi
 have lenV := hi.length
 have core : ∀ H : Hp, Only H → SqL K H a (ns.map V.int) → HOk P w H s₁.heap → (∀ b, H b ≠ none → b = a) → (H a ≠ none → K.lookup a = none) →
   codeAny (model P w) callerA (.call (.ref fa) ⟨[.ref a], []⟩) (fun r s' => r = .ok (.ret (.bool true)) ∧ OldK s₁.heap s'.heap ∧ s'.os = s₁.os ∧ AllBare s'.gens) s₁ := by
  intro H hO hS hok hA hK
  have base_of : ∀ {b : Addr} {o : Obj}, s₁.heap.get? b = some o → H b = none → (hidT s₁.heap H).get? b = some o := fun e n => hidT_get e n
  have noA : ∀ {b : Addr} {o : Obj} {es : Array DictEntry} {ep : Nat}, s₁.heap.get? b = some o → o.data = .dict es ep → H b = none := fun {b o es ep} e d => by
   cases q : H b with
   | none => rfl
   | some u =>
    have e' : b = a := hA b (by rw [q]; simp)
    subst e'
    rw [ha] at e; cases e
    have d' : Data.seq vs.toArray _ = Data.dict es ep := d
    cases d'
  have nsK : ∀ {b : Addr} {m : Str → Option Value}, s₁.heap.Ns b m → (hidT s₁.heap H).Ns b m := fun {b m} ⟨o, es, ep, e, d, r⟩ => ⟨o, es, ep, base_of e (noA e d), d, r⟩
  have hKb : K.In (hidT s₁.heap H) := fun b o e => base_of (KX b o e) (by
   cases q : H b with
   | none => rfl
   | some u =>
    have e' : b = a := hA b (by rw [q]; simp)
    subst e'
    rw [hK (by rw [q]; simp)] at e; cases e)
  have hM : Mod K mg (hidT s₁.heap H) := ⟨hKb, nsK hns, ⟨mb, nsK hb, hbb⟩, let ⟨mc, h1, h2⟩ := hlim; ⟨mc, nsK h1, h2⟩⟩
  have e0 : Env0 P w K mg (hidT s₁.heap H) callerA [] s₁ H := ⟨rfl, hM, fun b o e => of_hidT e, Nat.le_of_eq (hidT_size _ _), trivial, fun b hb => absurd (show b ∈ ([] : List Addr) from hb) (by simp), hok, .of_eq hg⟩
  refine codeAny_mono ((F _ hKb (nsK hns)).run callerA [] s₁ H ⟨[.ref a], []⟩ [.ref a] [.ref a] _ _ hr e0 (hbind s₁ (.ref a)) (.cons rfl .nil) (hsp H hO hS)) fun r s' h => ?_
  cases r with
  | error e => exact (hCX H e s' h).elim
  | ok fl =>
   cases fl with
   | next => exact False.elim h
   | brk => exact False.elim h
   | cont => exact False.elim h
   | ret u =>
    obtain ⟨v, H', os, bare, un, hok', r', q⟩ := h
    have q' : v = .bl true := q
    subst q'
    obtain rfl : u = Value.bool true := r'
    refine ⟨rfl, OldK.of_keep fun b o e => ?_, os, bare⟩
    cases q : H b with
    | none => exact un.keep b o e q (by intro z; exact absurd (show b ∈ ([] : List Addr) from z) (by simp)) (by simp)
    | some u =>
     rcases hO b with z | ⟨ob, xs, z⟩
     ·rw [q] at z; cases z
     ·have z2 := un.frzs b ob _ z
      obtain ⟨e1, _⟩ := hok b _ z
      obtain ⟨e2, _⟩ := hok' b _ z2
      rw [e] at e1; cases e1
      exact e2
 cases hk : K.lookup a with
 | some o =>
  have e := KX a o hk
  rw [ha] at e
  cases e
  refine core (fun _ => none) (fun _ => .inl rfl) (.inr ⟨_, vs.toArray, _, hk, rfl, rfl, rfl, by rw [List.size_toArray, lenV]; exact hl, by simpa using rv⟩) (fun b u z => by have z' : (none : Option HO) = some u := z; cases z') (fun b z => absurd rfl z) fun z => absurd rfl z
 | none =>
  refine core (fun b => if b = a then some (.frz { cls := .type "list", data := .seq vs.toArray } (.lst (ns.map V.int))) else none) (fun b => ?_) (.inl (.inr ⟨{ cls := .type "list", data := .seq vs.toArray }, if_pos rfl⟩)) (fun b u z => ?_) (fun b z => ?_) fun _ => hk
  ·by_cases hb : b = a
   ·exact .inr ⟨_, _, if_pos hb⟩
   ·exact .inl (if_neg hb)
  ·by_cases hb : b = a
   ·have z' := (if_pos hb).symm.trans z
    cases z'
    subst hb
    exact ⟨ha, by rw [List.length_map]; exact hl, vs, _, rv, ha⟩
   ·have z' := (if_neg hb).symm.trans z
    cases z'
  ·by_cases hb : b = a
   ·exact hb
   ·exact absurd (if_neg hb) z
end L2
namespace L2
open PySem PySem.Spec PyProof.Rows
theorem walk_of {l : PySem.W.OpenLaw} {n k : Nat} {q : Program} {loose : List Str} {XP : (Str → Option Value) → Heap → Prop} {YP : World → Heap → Prop} {d : DefRec} {K : Params → PySem.W.Frag} {CX : World → CXT} {sp : World → Sp} {x : Str}
  (hn : l.most = some n) (hn2 : n ≤ sizeLine) (hdf : d.params.defaults = []) (hr : Room k callerA)
  (hY : ∀ (w : World) (h : Heap), YP w h → (K w.params).In h)
  (F : ∀ (w : World) (mg : Str → Option Value) (fa : Addr) (h : Heap), (K w.params).In h → h.Ns mainGlobals mg → mg d.name = some (.ref fa) →
   ∃ fd : FuncData, (∀ (s : Shared) (u : Value), BindsTo s fd ⟨[u], []⟩ [(x, u)]) ∧
    ∀ base : Heap, (K w.params).In base → base.Ns mainGlobals mg → FnOk l.prog w (K w.params) mg base (CX w) k fa fd [x] (sp w))
  (hsp : ∀ (w : World) (H : Hp) (a : Addr) (ns : List Int), ns.length ≤ n → Only H → SqL (K w.params) H a (ns.map V.int) → sp w [.ref a] H (fun v _ => v = .bl true) fun _ _ _ => False)
  (hCX : ∀ (w : World) (H : Hp) (s : Shared) (e : Value) (s' : Shared), CX w [] H s (fun _ _ _ => False) e s' → False) :
  PySem.W.WalkO q loose XP YP l.row.toRowW d [] (fun f vs => PySem.call f vs) := by
 refine Att.attach_call hn hdf fun w s₀ s₁ mg mb fa o pm cd doc a vs ns G Y ho hd hcd hmg hobj hints hlen hg => ?_
 have KX := hY w _ Y
 obtain ⟨fd, hb, hF⟩ := F w mg fa _ KX G.T.g hmg
 exact law_call KX G.T.g G.T.b G.T.builtins G.T.nolimit hg hobj hints (Nat.le_trans hlen hn2) hr hF hb (fun H hO hS => hsp w H a ns hlen hO hS) fun H e s' => hCX w H s₁ e s'
end L2
namespace L2
open PySem PySem.Spec PyProof.Rows
noncomputable def j22 (s : Stmt) : Arguments := match s with
 | .FunctionDef _ a _ _ _ _ _ _ _ _ => a
 | _ => { posonlyargs := [], args := [], vararg := none, kwonlyargs := [], kw_defaults := [], kwarg := none, defaults := [] }
noncomputable def j1t (s : Stmt) : List Stmt := match s with
 | .FunctionDef _ _ b _ _ _ _ _ _ _ => b
 | _ => []
noncomputable def j0c (s : Stmt) : Scope := match s with
 | .FunctionDef _ _ _ _ _ _ sc _ _ _ => sc
 | _ => { kind := .function, names := [], isGenerator := false, isCoroutine := false }
noncomputable abbrev CX0 : CXT := fun _ _ _ _ _ _ => False
noncomputable abbrev E0 : XK := fun _ _ _ => False
theorem pass0 {X : Cx} : Passes CX0 X E0 := fun _ _ _ _ _ _ _ h => h.elim
structure Fun (K : PySem.W.Frag) (x qual : Str) (st : Stmt) (f : Addr) (fd : FuncData) : Prop where
 ex : ∃ (oc : Value) (od : Option Addr) (kV doc pm : Value) (an : Option Addr) (cdv ct : Value) (osl : Array (Option Value)),
  fd = PySem.W.fnOf x qual (j22 st) (j1t st) (j0c st) .none kV doc pm an cdv ct ∧ K.lookup f = some ⟨oc, od, .func fd, osl⟩ ∧ PySem.W.codeIn K cdv qual = true
 kp : PySem.W.keepIn K (.ref f) = true
section
variable {P : Program} {w : World} {K : PySem.W.Frag} {mg : Str → Option Value} {base : Heap}
theorem Fun.ok {x qual : Str} {st : Stmt} {f : Addr} {fd : FuncData} {N ps : List Str} {k : Nat} {sp : Sp} (F : Fun K x qual st f fd) (S : FnScope N ps (j0c st)) (len : ∀ vs H Q E, sp vs H Q E → vs.length = ps.length)
  (hbody : ∀ (cdv : Value) (A : Around) (outer : List Env) (s : Shared) (H : Hp) (vs : List V) (Q : VK) (E : XK), Room k (A.deeper (envOfC qual (j0c st) s.heap.objs.size f cdv)) → sp vs H Q E →
   ∃ t, PSs (cxOf CX0 P w K mg base N qual (j0c st) f cdv A outer s H E).nox (j1t st) t ∧ t { nx := fun _ H' => Q .non H', rt := Q } (start N vs) H) : FnOk P w K mg base CX0 (k + 1) f fd ps sp := by
 obtain ⟨oc, od, kV, doc, pm, an, cdv, ct, osl, rfl, lk, hcd⟩ := F.ex
 refine fn_of lk hcd S len fun A outer s H vs Q E hr hsp => ?_
 obtain ⟨t, h, q⟩ := hbody cdv A outer s H vs Q E hr hsp
 exact ⟨t, h.nox, q⟩
theorem Fun.binds {x qual : Str} {st : Stmt} {f : Addr} {fd : FuncData} {ps : List Str} (F : Fun K x qual st f fd)
  (h : ∀ (kV doc pm : Value) (an : Option Addr) (cdv ct : Value) (us : List Value), us.length = ps.length → bindArgs (PySem.W.fnOf x qual (j22 st) (j1t st) (j0c st) .none kV doc pm an cdv ct) ⟨us, []⟩ = pure (ps.zip us)) : Binds K fd ps [] := by
 obtain ⟨oc, od, kV, doc, pm, an, cdv, ct, osl, rfl, lk, hcd⟩ := F.ex
 exact .all (h kV doc pm an cdv ct)
theorem fun_mk {x qual : Str} {st : Stmt} {f : Addr} {oc : Value} {od an : Option Addr} {osl : Array (Option Value)} {kV doc pm cdv ct : Value} (l : K.lookup f = some ⟨oc, od, .func (PySem.W.fnOf x qual (j22 st) (j1t st) (j0c st) .none kV doc pm an cdv ct), osl⟩)
  (c : PySem.W.codeIn K cdv qual = true) (k : PySem.W.keepIn K (.ref f) = true) : Fun K x qual st f (PySem.W.fnOf x qual (j22 st) (j1t st) (j0c st) .none kV doc pm an cdv ct) := ⟨⟨oc, od, kV, doc, pm, an, cdv, ct, osl, rfl, l, c⟩, k⟩
end
section
variable {X : Cx}
end
theorem iteF {A B : Prop} (h : B) : if false = true then A else B := by
 rw [if_neg Bool.false_ne_true]
 exact h
theorem iteT {A B : Prop} (h : A) : if true = true then A else B := by
 rw [if_pos rfl]
 exact h
theorem ite2 {c A B : Prop} [Decidable c] (h1 : c → A) (h2 : ¬ c → B) : if c then A else B := by
 by_cases h : c
 ·rw [if_pos h]
  exact h1 h
 ·rw [if_neg h]
  exact h2 h
noncomputable def Same (H H' : Hp) : Prop := ∀ b o, H b = some o → H' b = some o
theorem Same.refl (H : Hp) : Same H H := fun _ _ h => h
theorem Same.trans {H H1 H2 : Hp} (a : Same H H1) (b : Same H1 H2) : Same H H2 := fun c o h => b c o (a c o h)
theorem Same.free {H H' : Hp} (e : Same H H') {l : Addr} (h : H' l = Option.none) : H l = Option.none := by
 cases q : H l with
 | none => rfl
 | some o =>
  rw [e l o q] at h
  cases h
theorem Same.seq {K : PySem.W.Frag} {H H' : Hp} {a : Addr} {xs : List V} (e : Same H H') (h : SqL K H a xs) : SqL K H' a xs := by
 rcases h with (h | ⟨o, h⟩) | h
 ·exact .inl (.inl (e _ _ h))
 ·exact .inl (.inr ⟨o, e _ _ h⟩)
 ·exact .inr h
end L2
namespace L2
open PySem PySem.Spec PyProof.Rows
section
variable {κ : Type} [DecidableEq κ]
noncomputable def valV (kvs : List (κ × V)) (k : κ) : Option V := (kvs.find? fun kv => decide (kv.1 = k)).map (·.2)
noncomputable def putK (kvs : List (κ × V)) (k : κ) (v : V) : List (κ × V) :=
 if (kvs.any fun kv => decide (kv.1 = k)) = true then kvs.map (fun kv => if kv.1 = k then (kv.1, v) else kv) else kvs ++ [(k, v)]
theorem j1a {p : κ × V} {r : List (κ × V)} {k : κ} (e : p.1 = k) : valV (p :: r) k = some p.2 := by simp [valV, List.find?_cons, e]
theorem j04 {p : κ × V} {r : List (κ × V)} {k : κ} (e : ¬ p.1 = k) : valV (p :: r) k = valV r k := by simp [valV, List.find?_cons, e]
theorem j28 (k : κ) : ∀ kvs : List (κ × V), (kvs.any fun kv => decide (kv.1 = k)) = (valV kvs k).isSome
 | [] => rfl
 | p :: r => by
  rw [List.any_cons]
  by_cases e : p.1 = k
  ·simp only [j1a e, decide_eq_true e, Bool.true_or, Option.isSome_some]
  ·rw [j04 e, decide_eq_false e, Bool.false_or]; exact j28 k r
theorem valV_map (k j : κ) (y : V) : ∀ kvs : List (κ × V), valV (kvs.map fun kv => if kv.1 = k then (kv.1, y) else kv) j = (valV kvs j).map fun x => if j = k then y else x
 | [] => rfl
 | p :: r => by
  have ih := valV_map k j y r
  rw [List.map_cons]
  by_cases h : p.1 = k
  ·rw [if_pos h]
   by_cases e : p.1 = j
   ·rw [j1a (p := (p.1, y)) e, j1a e, Option.map_some, if_pos (e.symm.trans h)]
   ·rw [j04 (p := (p.1, y)) e, j04 e, ih]
  ·rw [if_neg h]
   by_cases e : p.1 = j
   ·rw [j1a (p := p) e, j1a e, Option.map_some, if_neg (fun z => h (e.trans z))]
   ·rw [j04 (p := p) e, j04 e, ih]
theorem valV_snoc (k j : κ) (y : V) : ∀ kvs : List (κ × V), valV kvs k = none → valV (kvs ++ [(k, y)]) j = if j = k then some y else valV kvs j
 | [], _ => by
  by_cases e : k = j
  ·rw [if_pos e.symm]; exact j1a (p := (k, y)) e
  ·rw [if_neg (fun z => e z.symm)]; exact j04 (p := (k, y)) e
 | p :: r, hn => by
  rw [List.cons_append]
  have hk : ¬ p.1 = k := fun z => by rw [j1a z] at hn; cases hn
  rw [j04 hk] at hn
  have ih := valV_snoc k j y r hn
  by_cases e : p.1 = j
  ·rw [j1a e, j1a e, if_neg (fun z => hk (e.trans z))]
  ·rw [j04 e, j04 e, ih]
theorem j0q (kvs : List (κ × V)) (k j : κ) (y : V) : valV (putK kvs k y) j = if j = k then some y else valV kvs j := by
 unfold putK
 by_cases a : (kvs.any fun kv => decide (kv.1 = k)) = true
 ·rw [if_pos a, valV_map]
  rw [j28] at a
  by_cases e : j = k
  ·obtain ⟨x, hx⟩ := Option.isSome_iff_exists.mp a
   rw [if_pos e, e, hx, Option.map_some, if_pos rfl]
  ·rw [if_neg e]
   cases valV kvs j with
   | none => rfl
   | some x => rw [Option.map_some, if_neg e]
 ·rw [if_neg a]
  refine valV_snoc k j y kvs ?_
  rw [j28] at a
  cases q : valV kvs k with
  | none => rfl
  | some x => rw [q] at a; exact (a rfl).elim
theorem j0w (kvs : List (κ × V)) (k : κ) (v : V) : (putK kvs k v).length ≤ kvs.length + 1 := by
 unfold putK
 split
 ·rw [List.length_map]; omega
 ·rw [List.length_append, List.length_cons, List.length_nil]; omega
theorem putK_new {kvs : List (κ × V)} {k : κ} (v : V) (h : valV kvs k = none) : putK kvs k v = kvs ++ [(k, v)] := by
 unfold putK
 rw [j28, h]
 exact if_neg (by decide)
theorem RelO.isSome_eq {o : Option V} {u : Option Value} (r : RelO o u) : o.isSome = u.isSome := by
 cases o with
 | none => cases u with
  | none => rfl
  | some _ => exact (show False from r).elim
 | some _ => cases u with
  | none => exact (show False from r).elim
  | some _ => rfl
theorem KV.val {kvs : List (κ × V)} {vs : List (κ × Value)} (r : KV kvs vs) (k : κ) : RelO (valV kvs k) (valueAt vs k) := by
 unfold KV at r
 induction r with
 | nil => exact True.intro
 | @cons p q ps qs h t ih =>
  obtain ⟨h1, h2⟩ := h
  by_cases e : p.1 = k
  ·have e' : q.1 = k := h1.symm.trans e
   have b : valueAt (q :: qs) k = some q.2 := by simp [valueAt, List.find?_cons, e']
   rw [j1a e, b]; exact h2
  ·have e' : ¬ q.1 = k := fun z => e (h1.trans z)
   have b : valueAt (q :: qs) k = valueAt qs k := by simp [valueAt, List.find?_cons, e']
   rw [j04 e, b]; exact ih
theorem KV.any {kvs : List (κ × V)} {vs : List (κ × Value)} (r : KV kvs vs) (k : κ) : (kvs.any fun kv => decide (kv.1 = k)) = vs.any fun kv => decide (kv.1 = k) := by
 unfold KV at r
 induction r with
 | nil => rfl
 | cons h t ih => rw [List.any_cons, List.any_cons, ih, h.1]
theorem KV.repl {kvs : List (κ × V)} {vs : List (κ × Value)} (r : KV kvs vs) (k : κ) {y : V} {u : Value} (ry : RelV y u) :
  KV (kvs.map fun kv => if kv.1 = k then (kv.1, y) else kv) (vs.map fun kv => if kv.1 = k then (kv.1, u) else kv) := by
 unfold KV at r ⊢
 induction r with
 | nil => exact .nil
 | @cons p q ps qs h t ih =>
  rw [List.map_cons, List.map_cons]
  refine .cons ?_ ih
  obtain ⟨h1, h2⟩ := h
  by_cases e : p.1 = k
  ·rw [if_pos e, if_pos (h1.symm.trans e)]; exact ⟨h1, ry⟩
  ·rw [if_neg e, if_neg (fun z => e (h1.trans z))]; exact ⟨h1, h2⟩
theorem KV.put {kvs : List (κ × V)} {vs : List (κ × Value)} (r : KV kvs vs) (k : κ) {y : V} {u : Value} (ry : RelV y u) : KV (putK kvs k y) (stored vs k u) := by
 unfold putK stored
 rw [r.any k]
 by_cases e : (vs.any fun kv => decide (kv.1 = k)) = true
 ·rw [if_pos e, if_pos e]; exact r.repl k ry
 ·rw [if_neg e, if_neg e]; exact Paired.snoc r ⟨rfl, ry⟩
theorem KV.length {kvs : List (κ × V)} {vs : List (κ × Value)} (r : KV kvs vs) : kvs.length = vs.length := Paired.length r
end
theorem kV_is {P : Program} {w : World} {k : Key} {u : Value} (r : RelV (kV k) u) : (j0o P w).is k u = true := by
 cases k with
 | inl i => obtain ⟨t, e⟩ := (show ∃ t, u = Value.int i t from r); subst e; exact mixKind_int P w i t
 | inr x => obtain ⟨t, e⟩ := (show ∃ t, u = Value.str x t from r); subst e; exact mixKind_str P w x t
theorem items_are {P : Program} {w : World} : ∀ {ks : List Key} {us : List Value}, Vals (ks.map kV) us → ItemsAre (j0o P w) ks us
 | [], _, r => by rw [List.map_nil] at r; cases r; exact .nil
 | k :: ks, _, r => by
  rw [List.map_cons] at r
  cases r with
  | cons h t => exact .cons (kV_is h) (items_are t)
noncomputable abbrev KT (H : Hp) : List (List Key × V) → List (List Key × Addr × Value) → Prop := Paired fun p q => p.1 = q.1 ∧ H q.2.1 = some (.tup (p.1.map kV)) ∧ RelV p.2 q.2.2
theorem KT.val {H : Hp} {kvs : List (List Key × V)} {xs : List (List Key × Addr × Value)} (r : KT H kvs xs) (k : List Key) : RelO (valV kvs k) ((atKey xs k).map (·.2)) := by
 induction r with
 | nil => exact True.intro
 | @cons p q ps qs h t ih =>
  obtain ⟨h1, _, h2⟩ := h
  by_cases e : p.1 = k
  ·have e' : q.1 = k := h1.symm.trans e
   have b : atKey (q :: qs) k = some q.2 := by simp [atKey, List.find?_cons, e']
   rw [j1a e, b]; exact h2
  ·have e' : ¬ q.1 = k := fun z => e (h1.trans z)
   have b : atKey (q :: qs) k = atKey qs k := by simp [atKey, List.find?_cons, e']
   rw [j04 e, b]; exact ih
theorem KT.repl {H : Hp} {kvs : List (List Key × V)} {xs : List (List Key × Addr × Value)} (r : KT H kvs xs) (k : List Key) {y : V} {u : Value} (ry : RelV y u) :
  KT H (kvs.map fun kv => if kv.1 = k then (kv.1, y) else kv) (xs.map (putAt k u)) := by
 induction r with
 | nil => exact .nil
 | @cons p q ps qs h t ih =>
  rw [List.map_cons, List.map_cons]
  refine .cons ?_ ih
  obtain ⟨h1, h2, h3⟩ := h
  unfold putAt
  by_cases e : p.1 = k
  ·rw [if_pos e, if_pos (h1.symm.trans e)]; exact ⟨h1, h2, ry⟩
  ·rw [if_neg e, if_neg (fun z => e (h1.trans z))]; exact ⟨h1, h2, h3⟩
theorem KT.put {H : Hp} {kvs : List (List Key × V)} {xs : List (List Key × Addr × Value)} (r : KT H kvs xs) (k : List Key) {b : Addr} {y : V} {u : Value} (hb : H b = some (.tup (k.map kV))) (ry : RelV y u) :
  KT H (putK kvs k y) (storedH xs k b u) := by
 have e : (kvs.any fun kv => decide (kv.1 = k)) = (atKey xs k).isSome := by
  rw [j28, (r.val k).isSome_eq, Option.isSome_map]
 unfold putK storedH
 rw [e]
 by_cases q : (atKey xs k).isSome = true
 ·rw [if_pos q, if_pos q]; exact r.repl k ry
 ·rw [if_neg q, if_neg q]; exact Paired.snoc r ⟨rfl, hb, ry⟩
theorem KT.keeps {H H' : Hp} {kvs : List (List Key × V)} {xs : List (List Key × Addr × Value)} (r : KT H kvs xs) (ht : ∀ b ys, H b = some (.tup ys) → H' b = some (.tup ys)) : KT H' kvs xs :=
 Paired.mapP r fun _ _ z => ⟨z.1, ht _ _ z.2.1, z.2.2⟩
section
variable {P : Program} {w : World} {H : Hp} {h : Heap} {a : Addr}
theorem rd_of {u : HO} (ok : HOk P w H h) (e : Rd H a u) : ObjOk P w H h a u := e.ok ok
theorem dk_rd {kvs : List (Key × V)} (ok : HOk P w H h) (e : Rd H a (.dK kvs)) : kvs.length ≤ sizeLine ∧ (a == sysModules) = false ∧ ∃ vs, KV kvs vs ∧ h.DictOf (j0o P w) a vs :=
 show ObjOk P w H h a (.dK kvs) from rd_of ok e
theorem dk_of {kvs : List (Key × V)} (ok : HOk P w H h) (e : H a = some (.dK kvs)) : kvs.length ≤ sizeLine ∧ (a == sysModules) = false ∧ ∃ vs, KV kvs vs ∧ h.DictOf (j0o P w) a vs := dk_rd ok (.inl e)
theorem j3d {ks : List Key} (ok : HOk P w H h) (e : H a = some (.tup (ks.map kV))) : (tupleKind (j0o P w)).is h ks a := by
 obtain ⟨_, its, r, o, h1, h2, n, h3⟩ := (show ObjOk P w H h a (.tup (ks.map kV)) from ok a _ e)
 exact ⟨o, its.toArray, n, h1, h2, h3, by simpa using items_are r⟩
theorem dt_rd {kvs : List (List Key × V)} (ok : HOk P w H h) (e : Rd H a (.dT kvs)) : kvs.length ≤ sizeLine ∧ (a == sysModules) = false ∧
  ∃ xs, KT H kvs xs ∧ h.DictOfH (tupleKind (j0o P w)) a xs := by
 obtain ⟨z, y, xs, r, o, es, ep, h1, h2, h3, h4, h5⟩ := (show ObjOk P w H h a (.dT kvs) from rd_of ok e)
 refine ⟨z, y, xs, r, o, es, ep, h1, h2, h3, h4, fun x hx => ?_, h5⟩
 have all : ∀ {l : List (List Key × V)} {m : List (List Key × Addr × Value)}, KT H l m → ∀ x ∈ m, (tupleKind (j0o P w)).is h x.1 x.2.1 := by
  intro l m q
  induction q with
  | nil => intro x hx; exact nomatch hx
  | @cons p q ps qs hq t ih =>
   intro x hx
   rcases List.mem_cons.mp hx with e | hx
   ·subst e
    exact j3d ok (by rw [← hq.1]; exact hq.2.1)
   ·exact ih x hx
 exact all r x hx
theorem dt_of {kvs : List (List Key × V)} (ok : HOk P w H h) (e : H a = some (.dT kvs)) : kvs.length ≤ sizeLine ∧ (a == sysModules) = false ∧
  ∃ xs, KT H kvs xs ∧ h.DictOfH (tupleKind (j0o P w)) a xs := dt_rd ok (.inl e)
end
noncomputable def DGet (H : Hp) (a : Addr) (y : V) (r : Option V) : Prop :=
 (∃ kvs k, Rd H a (.dK kvs) ∧ y = kV k ∧ r = valV kvs k) ∨ ∃ kvs k b, Rd H a (.dT kvs) ∧ y = .ref b ∧ H b = some (.tup (k.map kV)) ∧ r = valV kvs k
noncomputable def DPut (H : Hp) (a : Addr) (y v : V) (H' : Hp) : Prop :=
 (∃ kvs k, H a = some (.dK kvs) ∧ y = kV k ∧ kvs.length < sizeLine ∧ H' = upd H a (.dK (putK kvs k v))) ∨
 ∃ kvs k b, H a = some (.dT kvs) ∧ y = .ref b ∧ H b = some (.tup (k.map kV)) ∧ kvs.length < sizeLine ∧ H' = upd H a (.dT (putK kvs k v))
theorem DGet.k {H : Hp} {a : Addr} {kvs : List (Key × V)} {k : Key} (e : H a = some (.dK kvs)) : DGet H a (kV k) (valV kvs k) := .inl ⟨kvs, k, .inl e, rfl, rfl⟩
theorem DGet.t {H : Hp} {a b : Addr} {kvs : List (List Key × V)} {k : List Key} (e : H a = some (.dT kvs)) (eb : H b = some (.tup (k.map kV))) : DGet H a (.ref b) (valV kvs k) := .inr ⟨kvs, k, b, .inl e, rfl, eb, rfl⟩
theorem DPut.k {H : Hp} {a : Addr} {kvs : List (Key × V)} {k : Key} {v : V} (e : H a = some (.dK kvs)) (hl : kvs.length < sizeLine) : DPut H a (kV k) v (upd H a (.dK (putK kvs k v))) := .inl ⟨kvs, k, e, rfl, hl, rfl⟩
theorem DPut.t {H : Hp} {a b : Addr} {kvs : List (List Key × V)} {k : List Key} {v : V} (e : H a = some (.dT kvs)) (eb : H b = some (.tup (k.map kV))) (hl : kvs.length < sizeLine) :
  DPut H a (.ref b) v (upd H a (.dT (putK kvs k v))) := .inr ⟨kvs, k, b, e, rfl, eb, hl, rfl⟩
section
variable {X : Cx} {pins : List (Addr × Obj)} {σ : St} {H : Hp} {s : Shared} {a : Addr} {y v : V} {u r : Value} {o : Option V} {A : Around} {E : Value → Shared → Prop}
theorem Inv.big (I : Inv X pins σ H s) : sysModules < s.heap.objs.size := by
 have h : mainGlobals < s.heap.objs.size := (I.mod.glob.keeps I.bk).lt
 exact Nat.lt_trans (by decide) h
theorem d_getItem {Q : Value → Shared → Prop} (hu : A.units + 1 < cLine) (I : Inv X pins σ H s) (g : DGet H a y (some v)) (ry : RelV y u) (h : ∀ w' s', Inv X pins σ H s' → RelV v w' → Q w' s') :
  wpAny (model X.prog X.w) A (getItem (.ref a) u) Q E s := by
 rcases g with ⟨kvs, k, e, ey, l⟩ | ⟨kvs, k, b, e, ey, eb, l⟩
 ·subst ey
  obtain ⟨z, hd, vs, rel, dd⟩ := dk_rd I.hok e
  obtain ⟨w', hw, rw'⟩ := RelO.some_of (v := v) (o := valueAt vs k) (by rw [l]; exact rel.val k)
  exact wpAny_getItem_of (kV_is ry) dd.mapOf hw (h w' _ (I.tok _) rw')
 ·subst ey
  cases (show u = Value.ref b from ry)
  obtain ⟨z, hd, xs, rel, dd⟩ := dt_rd I.hok e
  obtain ⟨w', hw, rw'⟩ := RelO.some_of (v := v) (o := (atKey xs k).map (·.2)) (by rw [l]; exact rel.val k)
  obtain ⟨p, hp, hp2⟩ := Option.map_eq_some_iff.mp hw
  refine wpAny_getItem_heap (tupleKind_room_in1 hu) (j3d I.hok eb) dd hp ?_
  rw [hp2]
  exact h w' _ (I.tok _) rw'
theorem d_in {Q : Value → Shared → Prop} (hu : A.units + 1 < cLine) (I : Inv X pins σ H s) (g : DGet H a y o) (ry : RelV y u) (h : ∀ s', Inv X pins σ H s' → Q (.bool o.isSome) s') :
  wpAny (model X.prog X.w) A (compareOp .In u (.ref a)) Q E s := by
 rcases g with ⟨kvs, k, e, ey, l⟩ | ⟨kvs, k, b, e, ey, eb, l⟩
 ·subst ey
  obtain ⟨z, hd, vs, rel, dd⟩ := dk_rd I.hok e
  refine wpAny_in_of (kV_is ry) hd dd.mapOf ?_
  rw [← (rel.val k).isSome_eq, ← l]
  exact h _ (I.tok _)
 ·subst ey
  cases (show u = Value.ref b from ry)
  obtain ⟨z, hd, xs, rel, dd⟩ := dt_rd I.hok e
  refine wpAny_in_heap (tupleKind_room_in1 hu) (j3d I.hok eb) hd dd ?_
  have q := (rel.val k).isSome_eq
  rw [Option.isSome_map] at q
  rw [← q, ← l]
  exact h _ (I.tok _)
theorem d_notIn {Q : Value → Shared → Prop} (hu : A.units + 1 < cLine) (I : Inv X pins σ H s) (g : DGet H a y o) (ry : RelV y u) (h : ∀ s', Inv X pins σ H s' → Q (.bool (!o.isSome)) s') :
  wpAny (model X.prog X.w) A (compareOp .NotIn u (.ref a)) Q E s := by
 rcases g with ⟨kvs, k, e, ey, l⟩ | ⟨kvs, k, b, e, ey, eb, l⟩
 ·subst ey
  obtain ⟨z, hd, vs, rel, dd⟩ := dk_rd I.hok e
  refine wpAny_notIn_of (kV_is ry) hd dd.mapOf ?_
  rw [← (rel.val k).isSome_eq, ← l]
  exact h _ (I.tok _)
 ·subst ey
  cases (show u = Value.ref b from ry)
  obtain ⟨z, hd, xs, rel, dd⟩ := dt_rd I.hok e
  refine wpAny_notIn_heap (tupleKind_room_in1 hu) (j3d I.hok eb) hd dd ?_
  have q := (rel.val k).isSome_eq
  rw [Option.isSome_map] at q
  rw [← q, ← l]
  exact h _ (I.tok _)
theorem j2w {h' : Heap} {t' : Nat} {ob : HO} (I : Inv X pins σ H s) (mu : Mut (H a)) (hs : Heap.SameBut a s.heap h') (he : ∃ q, h'.get? a = some q) (new : ObjOk X.prog X.w (upd H a ob) h' a ob) :
  Inv X pins σ (upd H a ob) { s with heap := h', toks := t' } :=
 I.write (x := a) (e := a) mu (.inl rfl) (fun b q hb z => (hs.2 b hb).trans z) he new
theorem dk_new {P : Program} {w : World} {H' : Hp} {h' : Heap} {kvs : List (Key × V)} {vs : List (Key × Value)} (z : kvs.length ≤ sizeLine) (hd : (a == sysModules) = false) (rel : KV kvs vs) (dd : h'.DictOf (j0o P w) a vs) :
  ObjOk P w H' h' a (.dK kvs) := ⟨z, hd, vs, rel, dd⟩
theorem d_setItem {H' : Hp} {Q : Unit → Shared → Prop} (hu : A.units + 1 < cLine) (I : Inv X pins σ H s) (g : DPut H a y v H') (ry : RelV y u) (rv : RelV v r) (h : ∀ s', Inv X pins σ H' s' → Q () s') :
  wpAny (model X.prog X.w) A (setItem (.ref a) u r) Q E s := by
 rcases g with ⟨kvs, k, e, ey, l, eH⟩ | ⟨kvs, k, b, e, ey, eb, l, eH⟩
 ·subst ey eH
  obtain ⟨z, hd, vs, rel, dd⟩ := dk_of I.hok e
  have hz : vs.length ≤ sizeLine := by rw [← rel.length]; exact z
  have hl : (putK kvs k v).length ≤ sizeLine := by have := j0w kvs k v; omega
  refine wpAny_setItem_pairs (hsz := hz) (kV_is ry) dd fun h' dd' hs => h _ ?_
  have he : ∃ q, h'.get? a = some q := let ⟨q, _, _, hq, _⟩ := dd'; ⟨q, hq⟩
  exact j2w I (by rw [e]; exact True.intro) hs he (dk_new hl hd (rel.put k rv) dd')
 ·subst ey eH
  cases (show u = Value.ref b from ry)
  obtain ⟨z, hd, xs, rel, dd⟩ := dt_of I.hok e
  have hz : xs.length ≤ sizeLine := by rw [← Paired.length rel]; exact z
  have hl : (putK kvs k v).length ≤ sizeLine := by have := j0w kvs k v; omega
  refine wpAny_setItem_heap (hsz := hz) (tupleKind_room_in1 hu) (j3d I.hok eb) dd fun h' dd' hs => h _ ?_
  obtain ⟨q, es, ep, hq, h2, h3, h4, _, h5⟩ := dd'
  refine j2w I (by rw [e]; exact True.intro) hs ⟨q, hq⟩ ⟨hl, hd, _, (rel.put k eb rv).keeps fun c ys ec => ?_, q, es, ep, hq, h2, h3, h4, h5⟩
  rw [j0d (j1q ec e (fun z => nomatch z))]
  exact ec
end
section
variable {X : Cx} {pins : List (Addr × Obj)} {σ : St} {H : Hp} {s : Shared} {a : Addr} {kvs : List (Key × V)} {k : Key} {u : Value} {A : Around} {E : Value → Shared → Prop}
theorem d_len {Q : Value → Shared → Prop} (I : Inv X pins σ H s) (e : Rd H a (.dK kvs)) (h : ∀ t s', Inv X pins σ H s' → Q (.int kvs.length t) s') : wpAny (model X.prog X.w) A (call (.builtin "len") [.ref a]) Q E s := by
 obtain ⟨z, hd, vs, rel, dd⟩ := dk_rd I.hok e
 refine call_len_dict hd dd (by rw [← rel.length]; rw [sizeLine_eq] at z; omega) ?_
 rw [← rel.length]
 exact h _ _ (I.tok _)
end
noncomputable def NoSl (i : Expr) : Prop := ∀ ov iv, subscripted i false ov iv = operate [ov, iv] (getItem ov iv)
theorem subD_of {prog : Program} {w : World} {A : Around} {E : Value → Shared → Prop} {s : Shared} {env : Env} {value slice : Expr} {pos : Pos} {T id : String} {Q : Value → Shared → Prop}
  (hl : typeLookup (.type T) "__getitem__" = pure (some (.builtin id))) (hs : NoSl slice)
  (h : wpAny (model prog w) A (eval value env) (fun o s₁ => wpAny (model prog w) A (eval slice env) (fun i s₂ => s₂.TypeIs o T ∧ wpAny (model prog w) A (getItem o i) Q E s₂) E s₁) E s) :
  wpAny (model prog w) A (eval (.Subscript value slice pos) env) Q E s := by
 refine Subscript_ (wpAny_mono h (fun o s₁ h₁ => wpAny_mono h₁ (fun i s₂ h₂ => ?_) fun _ _ x => x) fun _ _ x => x)
 obtain ⟨hT, h₂⟩ := h₂
 unfold subscriptTail
 refine wpAny_bind ?_
 rw [getitemInPython_of_ne hT.not_modules]
 refine wpAny_bind (wpAny_specialOf hT hl ?_)
 have fin : wpAny (model prog w) A (subscripted slice false o i) (fun r s₃ => wpAny (model prog w) A (letTemporaryGo value o r >>= fun _ => pure r) Q E s₃) E s₂ := by
  rw [hs o i]
  exact wpAny_operating (wpAny_mono h₂ (fun r s₃ h₃ => wpAny_bind (wpAny_letTemporaryGo (wpAny_pure h₃))) fun _ _ x => x)
 first
  | exact wpAny_pure (wpAny_bind fin)
  | exact wpAny_bind (wpAny_pure (wpAny_bind fin))
  | exact wpAny_bind fin
theorem dict_typeIs {X : Cx} {pins : List (Addr × Obj)} {σ : St} {H : Hp} {s : Shared} {a : Addr} {y : V} {o : Option V} (I : Inv X pins σ H s) (g : DGet H a y o) : s.TypeIs (.ref a) "dict" := by
 rcases g with ⟨kvs, k, e, _, _⟩ | ⟨kvs, k, b, e, _, _, _⟩
 ·obtain ⟨_, _, vs, _, dd⟩ := dk_rd I.hok e
  exact dd.typeIs
 ·obtain ⟨_, _, xs, _, dd⟩ := dt_rd I.hok e
  exact dd.typeIs
noncomputable def tDGet (td ty : TE) : TE := fun σ H Q => td σ H fun x H1 => ty σ H1 fun y H2 => ∃ a v, x = .ref a ∧ DGet H2 a y (some v) ∧ Q v H2
noncomputable def tDIn (ty td : TE) : TE := fun σ H Q => ty σ H fun y H1 => td σ H1 fun x H2 => ∃ a o, x = .ref a ∧ DGet H2 a y o ∧ Q (.bl o.isSome) H2
noncomputable def tDNotIn (ty td : TE) : TE := fun σ H Q => ty σ H fun y H1 => td σ H1 fun x H2 => ∃ a o, x = .ref a ∧ DGet H2 a y o ∧ Q (.bl (!o.isSome)) H2
noncomputable def sDPut (td ty tv : TE) : TS := fun D σ H => tv σ H fun v H1 => td σ H1 fun x H2 => ty σ H2 fun y H3 => ∃ a H4, x = .ref a ∧ DPut H3 a y v H4 ∧ D.nx σ H4
section
variable {X : Cx} {o i e value : Expr} {pos pos' tpos : Pos} {td ty tv : TE}
theorem pe_dget (hu : X.A.units + 1 < cLine) (ho : PE X o td) (hi : PE X i ty) (hs : NoSl i) : PE X (.Subscript o i pos) (tDGet td ty) := by
 intro pins s σ H Q I h
 refine subD_of PySem.F.slot_dict_getitem.lookup hs (thn (ho pins s σ H _ I h) fun u s1 ⟨x, H1, I1, rx, q1⟩ => thn (hi pins s1 σ H1 _ I1 q1) fun iv s2 ⟨y, H2, I2, ry, a, v, ex, g, q2⟩ => ?_)
 subst ex
 obtain rfl : u = Value.ref a := rx
 exact ⟨dict_typeIs I2 g, d_getItem hu I2 g ry fun w' s3 I3 rw' => ⟨v, H2, I3, rw', q2⟩⟩
theorem pc_din (hu : X.A.units + 1 < cLine) (hi : PE X i ty) (ho : PE X o td) : PC X .In i o (tDIn ty td) := by
 intro pins s σ H Q I h
 refine thn (hi pins s σ H _ I h) fun iv s1 ⟨y, H1, I1, ry, q1⟩ => thn (ho pins s1 σ H1 _ I1 q1) fun u s2 ⟨x, H2, I2, rx, a, ov, ex, g, q2⟩ => ?_
 subst ex
 obtain rfl : u = Value.ref a := rx
 exact d_in hu I2 g ry fun s3 I3 => ⟨.bl ov.isSome, H2, I3, rfl, q2⟩
theorem pc_dnotin (hu : X.A.units + 1 < cLine) (hi : PE X i ty) (ho : PE X o td) : PC X .NotIn i o (tDNotIn ty td) := by
 intro pins s σ H Q I h
 refine thn (hi pins s σ H _ I h) fun iv s1 ⟨y, H1, I1, ry, q1⟩ => thn (ho pins s1 σ H1 _ I1 q1) fun u s2 ⟨x, H2, I2, rx, a, ov, ex, g, q2⟩ => ?_
 subst ex
 obtain rfl : u = Value.ref a := rx
 exact d_notIn hu I2 g ry fun s3 I3 => ⟨.bl (!ov.isSome), H2, I3, rfl, q2⟩
theorem ps_dput (hu : X.A.units + 1 < cLine) (ho : PE X o td) (hi : PE X i ty) (hv : PE X value tv) (hs : swapsWith value (some (.Subscript o i pos')) pos.line X.env = pure false) :
  PS X (.Assign [.Subscript o i pos'] value pos) (sDPut td ty tv) := by
 intro pins s σ H D I h
 refine wpAny_Assign_Subscript (thn (hv pins s σ H _ I h) fun r s1 ⟨v, H1, I1, rv, q1⟩ => thn (ho pins s1 σ H1 _ I1 q1) fun u s2 ⟨x, H2, I2, rx, q2⟩ => thn (hi pins s2 σ H2 _ I2 q2) fun iv s3 ⟨y, H3, I3, ry, a, H4, ex, g, q3⟩ => ?_) hs
 subst ex
 obtain rfl : u = Value.ref a := rx
 exact d_setItem hu I3 g ry rv fun s4 I4 => ⟨σ, H4, I4, q3⟩
end
theorem dk_empty {P : Program} {w : World} {H : Hp} (h : Heap) (hb : sysModules < h.objs.size) : ObjOk P w H (h.push { cls := .type "dict", data := .dict #[] }) h.objs.size (.dK []) :=
 ⟨Nat.zero_le _, beq_eq_false_iff_ne.mpr (Ne.symm (Nat.ne_of_lt hb)), [], .nil, Heap.DictOf.new h⟩
theorem dt_empty {P : Program} {w : World} {H : Hp} (h : Heap) (hb : sysModules < h.objs.size) : ObjOk P w H (h.push { cls := .type "dict", data := .dict #[] }) h.objs.size (.dT []) :=
 ⟨Nat.zero_le _, beq_eq_false_iff_ne.mpr (Ne.symm (Nat.ne_of_lt hb)), [], .nil, _, #[], 0, Heap.get?_push_size _ rfl, ⟨rfl, rfl, rfl⟩, rfl, rfl, List.nodup_nil⟩
noncomputable def tDNewK : TE := fun _ H Q => ∀ p, H p = none → Q (.ref p) (upd H p (.dK []))
noncomputable def tDNewT : TE := fun _ H Q => ∀ p, H p = none → Q (.ref p) (upd H p (.dT []))
section
variable {X : Cx} {pos : Pos}
theorem pe_dnewK : PE X (.Dict [] [] pos) tDNewK := fun pins s σ H Q I h =>
 wpAny_Dict_empty ⟨.ref s.heap.objs.size, _, I.laid (a := s.heap.objs.size) (o := .dK []) (t' := s.toks) (fun _ _ q => Heap.get?_push_of_some _ q) (Nat.le_refl _) (dk_empty s.heap I.big), rfl, h _ (I.hok.fresh (Nat.le_refl _))⟩
theorem pe_dnewT : PE X (.Dict [] [] pos) tDNewT := fun pins s σ H Q I h =>
 wpAny_Dict_empty ⟨.ref s.heap.objs.size, _, I.laid (a := s.heap.objs.size) (o := .dT []) (t' := s.toks) (fun _ _ q => Heap.get?_push_of_some _ q) (Nat.le_refl _) (dt_empty s.heap I.big), rfl, h _ (I.hok.fresh (Nat.le_refl _))⟩
end
section
variable {X : Cx} {pins : List (Addr × Obj)} {σ : St} {H : Hp} {s : Shared} {a : Addr} {y d : V} {u r : Value} {o : Option V} {A : Around} {E : Value → Shared → Prop}
end
section
variable {X : Cx} {o e f : Expr} {apos cpos : Pos} {td ty tx : TE}
end
section
variable {X : Cx} {pins : List (Addr × Obj)} {σ : St} {H : Hp} {s : Shared} {a : Addr} {kvs : List (Key × V)} {A : Around} {E : Value → Shared → Prop}
end
section
variable {X : Cx} {pins : List (Addr × Obj)} {σ : St} {H : Hp} {s : Shared} {a : Addr} {y : V} {u : Value} {A : Around} {E : Value → Shared → Prop}
end
end L2
namespace L2
open PySem PySem.Spec PyProof.Rows
section
variable {X : Cx}
theorem call_lenD : j2k X (.builtin "len") (fun xs H Q => ∃ a kvs, xs = [V.ref a] ∧ H a = some (.dK kvs) ∧ Q (.int kvs.length) H) := by
 intro pins s σ H xs us Q I r h
 obtain ⟨a, kvs, rfl, ha, q⟩ := h
 obtain ⟨u, rfl, ru⟩ := vals1 r
 cases ru
 exact d_len I (.inl ha) fun t s' I' => ⟨.int kvs.length, H, I', ⟨t, rfl⟩, q⟩
end
section
variable {κ : Type} [DecidableEq κ]
theorem valV_in {kvs : List (κ × V)} {k : κ} {v : V} (h : valV kvs k = some v) : k ∈ kvs.map (·.1) := by
 have q : (kvs.any fun kv => decide (kv.1 = k)) = true := by
  rw [j28, h]
  all_goals rfl
 obtain ⟨p, hp, e⟩ := List.any_eq_true.mp q
 exact List.mem_map.mpr ⟨p, hp, of_decide_eq_true e⟩
theorem j2q : ∀ {l : List κ} {k : κ}, l.Nodup → ¬ k ∈ l → (l ++ [k]).Nodup
 | [], k, _, _ => by simp
 | a :: r, k, h, hk => by
  obtain ⟨h1, h2⟩ := List.nodup_cons.mp h
  show (a :: (r ++ [k])).Nodup
  refine List.nodup_cons.mpr ⟨fun m => ?_, j2q h2 fun m => hk (List.mem_cons.mpr (Or.inr m))⟩
  rcases List.mem_append.mp m with q | q
  ·exact h1 q
  ·exact hk (List.mem_cons.mpr (Or.inl (List.mem_singleton.mp q).symm))
end
end L2
set_option maxHeartbeats 4000000
namespace L2
open PySem PySem.Spec PyProof.Rows
noncomputable def Its (z : Str) : It := ⟨fun i _ => i < z.cps.size, fun i H x H' => H' = H ∧ ∃ c, z.cps[i]? = some c ∧ x = .str ⟨#[c]⟩, fun i _ => z.cps.size ≤ i⟩
theorem turn_strA {P : Program} {w : World} {K : PySem.W.Frag} {tg : Expr} (it : Addr) (z : Str) (t : Tok) : Turn P w K tg (Its z) [it] it (fun i h => h.IsStrIter it "str_ascii_iterator" z t i) where
 mem := by simp
 obj := fun i h st b hb => by
  have e : b = it := by simpa using hb
  subst e
  obtain ⟨o, e, c, d⟩ := st
  exact ⟨o, e, fun v z => by rw [d] at z; cases z⟩
 keep := fun i h h' st k => let ⟨o, ho, r⟩ := st; ⟨o, k it (by simp) o ho, r⟩
 item := by
  intro X hP hw hK hc i pins s σ H E I hf st hg
  subst hP hw hK
  obtain ⟨f0, f1, f2, f3, f4, f5⟩ := hf it (by simp)
  have hi : i < z.cps.size := hg
  refine wpAny_pyNext_ascii_item st (c := z.cps[i]) (by simp [hi]) fun h' st' hs' => ?_
  have I1 : Inv X pins σ H { s with heap := h', toks := s.toks + 1 } := I.turned (fun b o hb e => hs'.extBut b o hb e) f0 f1 f3 f4 f5
  obtain ⟨o, e, c, d⟩ := id st'
  exact ⟨_, rfl, go_of (s := { s with heap := h', toks := s.toks + 1 }) e c d (by decide) ⟨.str ⟨#[z.cps[i]]⟩, H, I1, ⟨_, rfl⟩, ⟨rfl, z.cps[i], by simp [hi], rfl⟩, st', fun b hb => (hf b hb).1⟩⟩
 done := by
  intro X hP hw hK hc i pins s σ H E I hf st hg
  subst hP hw hK
  obtain ⟨f0, f1, f2, f3, f4, f5⟩ := hf it (by simp)
  have hi : z.cps.size ≤ i := hg
  exact wpAny_pyNext_ascii_end (I.ok.hd hc) st (by simp; exact hi) fun h' eb => ⟨rfl, I.turned (t' := s.toks) (fun b o hb e => eb b o hb e) f0 f1 f3 f4 f5⟩
 self := fun _ _ _ _ _ st h => wpAny_pyIter_striter_ascii st h
theorem turn_strW {P : Program} {w : World} {K : PySem.W.Frag} {tg : Expr} (it : Addr) (z : Str) (t : Tok) : Turn P w K tg (Its z) [it] it (fun i h => h.IsStrIter it "str_iterator" z t i) where
 mem := by simp
 obj := fun i h st b hb => by
  have e : b = it := by simpa using hb
  subst e
  obtain ⟨o, e, c, d⟩ := st
  exact ⟨o, e, fun v z => by rw [d] at z; cases z⟩
 keep := fun i h h' st k => let ⟨o, ho, r⟩ := st; ⟨o, k it (by simp) o ho, r⟩
 item := by
  intro X hP hw hK hc i pins s σ H E I hf st hg
  subst hP hw hK
  obtain ⟨f0, f1, f2, f3, f4, f5⟩ := hf it (by simp)
  have hi : i < z.cps.size := hg
  refine wpAny_pyNext_wide_item st (c := z.cps[i]) (by simp [hi]) fun h' st' hs' => ?_
  have I1 : Inv X pins σ H { s with heap := h', toks := s.toks + 1 } := I.turned (fun b o hb e => hs'.extBut b o hb e) f0 f1 f3 f4 f5
  obtain ⟨o, e, c, d⟩ := id st'
  exact ⟨_, rfl, go_of (s := { s with heap := h', toks := s.toks + 1 }) e c d (by decide) ⟨.str ⟨#[z.cps[i]]⟩, H, I1, ⟨_, rfl⟩, ⟨rfl, z.cps[i], by simp [hi], rfl⟩, st', fun b hb => (hf b hb).1⟩⟩
 done := by
  intro X hP hw hK hc i pins s σ H E I hf st hg
  subst hP hw hK
  obtain ⟨f0, f1, f2, f3, f4, f5⟩ := hf it (by simp)
  have hi : z.cps.size ≤ i := hg
  exact wpAny_pyNext_wide_end (I.ok.hd hc) st (by simp; exact hi) fun h' eb => ⟨rfl, I.turned (t' := s.toks) (fun b o hb e => eb b o hb e) f0 f1 f3 f4 f5⟩
 self := fun _ _ _ _ _ st h => wpAny_pyIter_striter_wide st h
noncomputable def iStr (tl : TE) : TI := fun σ H R => tl σ H fun x H1 => ∃ z, x = .str z ∧ R (Its z) H1
section
variable {X : Cx} {tg : Expr}
theorem pi_str {l : Expr} {tl : TE} (hl : PE X l tl) : PI X tg l (iStr tl) := by
 intro pins s σ H R I h
 refine thn (hl pins s σ H _ I h) fun v s1 ⟨x, H1, I1, r1, q1⟩ => ?_
 obtain ⟨z, e, q⟩ := q1
 subst e
 obtain ⟨t, rfl⟩ := r1
 have fp : ∀ b ∈ [s1.heap.objs.size], FpOk X pins H1 b := fun b hb => by
  have e : b = s1.heap.objs.size := by simpa using hb
  subst e
  exact I1.fpOk (Nat.le_refl _) (I1.hok.fresh (Nat.le_refl _))
 cases ha : z.cps.all (· < 128)
 ·exact wpAny_pyIter_wide ha ⟨s1.heap.objs.size, [s1.heap.objs.size], _, _, H1, rfl, I1.kept (t' := s1.toks) fun b o e => Heap.get?_push_of_some _ e, turn_strW _ z t, ⟨_, Heap.get?_push_size _ rfl, rfl, rfl⟩, fp, q⟩
 ·exact wpAny_pyIter_ascii ha ⟨s1.heap.objs.size, [s1.heap.objs.size], _, _, H1, rfl, I1.kept (t' := s1.toks) fun b o e => Heap.get?_push_of_some _ e, turn_strA _ z t, ⟨_, Heap.get?_push_size _ rfl, rfl, rfl⟩, fp, q⟩
end
theorem for_str {z : Str} {g : TG} {tb : TS} {D : Ends} {σ : St} {H : Hp} (Pv : Nat → St → Hp → Prop) (h0 : Pv 0 σ H)
  (hs : ∀ i c σ H, z.cps[i]? = some c → Pv i σ H → g (.str ⟨#[c]⟩) σ H fun σ2 H2 => tb { D with nx := Pv (i + 1), ct := Pv (i + 1), bk := D.nx } σ2 H2) (hd : ∀ σ H, Pv z.cps.size σ H → D.nx σ H) :
  ∃ W : Nat → Nat → St → Hp → Prop, (∃ m, W 0 m σ H) ∧ ∀ i m σ H, W i m σ H →
   ((Its z).stop i H ∧ D.nx σ H) ∨ ((Its z).go i H ∧ ∃ N : St → Hp → Prop, (∀ σ' H', N σ' H' → ∃ m', m' < m ∧ W (i + 1) m' σ' H') ∧ ∀ x H', (Its z).yld i H x H' → g x σ H' fun σ2 H2 => tb { D with nx := N, ct := N, bk := D.nx } σ2 H2) := by
 refine ⟨fun i m σ H => m = z.cps.size - i ∧ i ≤ z.cps.size ∧ Pv i σ H, ⟨z.cps.size, by simp, Nat.zero_le _, h0⟩, ?_⟩
 rintro i m σ H ⟨rfl, hi, p⟩
 by_cases hlt : i < z.cps.size
 ·refine .inr ⟨hlt, Pv (i + 1), fun σ' H' p' => ⟨z.cps.size - (i + 1), by omega, rfl, hlt, p'⟩, fun x H' y => ?_⟩
  obtain ⟨e, c, hc, y⟩ := y
  subst e y
  exact hs i c σ _ hc p
 ·have e : i = z.cps.size := by omega
  subst e
  exact .inl ⟨Nat.le_refl _, hd σ H p⟩
theorem j1e {env : Env} : ∀ {names : List (Str × NameKind)} {x : Str} {k' : NameKind},
  (names.map fun (n, k) => if (k == NameKind.free && env.scope.kind == .function && env.kindOf n == some .cell) then (n, NameKind.cell) else (n, k)).lookup x = some k' →
  ∃ k, names.lookup x = some k ∧ (k' = k ∨ (k = .free ∧ k' = .cell))
 | [], _, _, h => by simp at h
 | (n, k) :: r, x, k', h => by
  have ih := @j1e env r x k'
  change List.lookup x ((if (k == NameKind.free && env.scope.kind == .function && env.kindOf n == some .cell) = true then (n, NameKind.cell) else (n, k)) :: _) = _ at h
  cases hx : x == n with
  | true =>
   by_cases hc : (k == NameKind.free && env.scope.kind == .function && env.kindOf n == some .cell) = true
   ·rw [if_pos hc] at h
    simp only [List.lookup_cons, hx] at h
    cases h
    have hk : k = .free := by
     have := (Bool.and_eq_true _ _ ▸ (Bool.and_eq_true _ _ ▸ hc).1).1
     cases k <;> first | rfl | (exact absurd this (by decide))
    exact ⟨k, by simp [List.lookup_cons, hx], .inr ⟨hk, rfl⟩⟩
   ·rw [if_neg hc] at h
    simp only [List.lookup_cons, hx] at h
    cases h
    exact ⟨k, by simp [List.lookup_cons, hx], .inl rfl⟩
  | false =>
   have h2 : ∃ k, r.lookup x = some k ∧ (k' = k ∨ (k = .free ∧ k' = .cell)) := by
    by_cases hc : (k == NameKind.free && env.scope.kind == .function && env.kindOf n == some .cell) = true
    ·rw [if_pos hc] at h
     simp only [List.lookup_cons, hx] at h
     exact ih h
    ·rw [if_neg hc] at h
     simp only [List.lookup_cons, hx] at h
     exact ih h
   obtain ⟨k2, e2, r2⟩ := h2
   exact ⟨k2, by simp [List.lookup_cons, hx, e2], r2⟩
noncomputable def j03 (names : List (Str × NameKind)) (cells : List (Str × Addr)) (acc : List (Str × Addr)) : List (Str × Addr) :=
 names.foldl (fun a x => if x.2 == .free then (match cells.lookup x.1 with | some c => (x.1, c) :: a | none => a) else a) acc
theorem j2j {scope : Scope} {env : Env} (h : ∀ x ∈ scope.names, x.2 = .free → ∃ c, env.cells.lookup x.1 = some c) : closureFor scope env = pure (j03 scope.names env.cells []) := by
 have all : ∀ (l : List (Str × NameKind)) (acc : List (Str × Addr)), (∀ x ∈ l, x.2 = .free → ∃ c, env.cells.lookup x.1 = some c) →
   (forIn l acc fun (x : Str × NameKind) (cs : List (Str × Addr)) => (if x.2 == .free then (do let c ← cellOf env x.1; pure (ForInStep.yield ((x.1, c) :: cs))) else pure (ForInStep.yield cs) : Sem _)) = pure (j03 l env.cells acc) := by
  intro l
  induction l with
  | nil => intro acc _; rfl
  | cons x r ih =>
   intro acc hl
   rw [List.forIn_cons]
   have hr : ∀ y ∈ r, y.2 = .free → ∃ c, env.cells.lookup y.1 = some c := fun y hy => hl y (List.mem_cons_of_mem _ hy)
   cases hk : x.2 == .free with
   | true =>
    have hkk : x.2 = .free := by
     revert hk
     cases x.2 <;> intro hk <;> first | rfl | (exact absurd hk (by decide))
    obtain ⟨c, hc⟩ := hl x List.mem_cons_self hkk
    simp only [if_true, cellOf, hc]
    rw [show j03 (x :: r) env.cells acc = j03 r env.cells ((x.1, c) :: acc) by unfold j03; rw [List.foldl_cons]; simp [hk, hc]]
    exact ih _ hr
   | false =>
    simp only [Bool.false_eq_true, if_false]
    rw [show j03 (x :: r) env.cells acc = j03 r env.cells acc by unfold j03; rw [List.foldl_cons]; simp [hk]]
    exact ih _ hr
 have q := all scope.names [] h
 simp only [closureFor]
 exact (congrArg (· >>= fun r => pure r) q).trans rfl
end L2
namespace L2
open PySem PySem.Spec PyProof.Rows
theorem j26 : ∀ (names : List (Str × NameKind)) (cells acc : List (Str × Addr)), (∀ x c, (x, c) ∈ acc → cells.lookup x = some c) → ∀ x c, (x, c) ∈ j03 names cells acc → cells.lookup x = some c
 | [], _, _, h => h
 | y :: r, cells, acc, h => by
  have e : j03 (y :: r) cells acc = j03 r cells (if y.2 == .free then (match cells.lookup y.1 with | some c => (y.1, c) :: acc | none => acc) else acc) := rfl
  rw [e]
  refine j26 r cells _ ?_
  cases hk : y.2 == .free with
  | false => simpa using h
  | true =>
   cases hc : cells.lookup y.1 with
   | none => simpa using h
   | some c =>
    intro x d hx
    simp only [if_true] at hx
    rcases List.mem_cons.mp hx with e | hx
    ·cases e; exact hc
    ·exact h x d hx
theorem closeL_keep : ∀ (names : List (Str × NameKind)) (cells acc : List (Str × Addr)) (x : Str) (c : Addr), (x, c) ∈ acc → (x, c) ∈ j03 names cells acc
 | [], _, _, _, _, h => h
 | y :: r, cells, acc, x, c, h => by
  have e : j03 (y :: r) cells acc = j03 r cells (if y.2 == .free then (match cells.lookup y.1 with | some c => (y.1, c) :: acc | none => acc) else acc) := rfl
  rw [e]
  refine closeL_keep r cells _ x c ?_
  cases hk : y.2 == .free with
  | false => simpa using h
  | true =>
   cases hc : cells.lookup y.1 with
   | none => simpa using h
   | some d => simp only [if_true]; exact List.mem_cons_of_mem _ h
theorem closeL_has : ∀ (names : List (Str × NameKind)) (cells acc : List (Str × Addr)) (x : Str) (c : Addr), (x, NameKind.free) ∈ names → cells.lookup x = some c → (x, c) ∈ j03 names cells acc
 | [], _, _, _, _, h, _ => by cases h
 | y :: r, cells, acc, x, c, h, hc => by
  have e : j03 (y :: r) cells acc = j03 r cells (if y.2 == .free then (match cells.lookup y.1 with | some c => (y.1, c) :: acc | none => acc) else acc) := rfl
  rw [e]
  rcases List.mem_cons.mp h with e2 | h
  ·subst e2
   refine closeL_keep r cells _ x c ?_
   have : (NameKind.free == NameKind.free) = true := rfl
   simp only [hc, this, if_true]
   exact List.mem_cons_self
  ·exact closeL_has r cells _ x c h hc
theorem j1o {α : Type} : ∀ {l : List (Str × α)} {x : Str} {c : α}, (x, c) ∈ l → ∃ d, l.lookup x = some d
 | [], _, _, h => by cases h
 | (n, d) :: r, x, c, h => by
  cases hx : x == n with
  | true => exact ⟨d, by simp [List.lookup_cons, hx]⟩
  | false =>
   rcases List.mem_cons.mp h with e | h
   ·cases e; simp at hx
   ·obtain ⟨d', e⟩ := j1o h
    exact ⟨d', by simp [List.lookup_cons, hx, e]⟩
section
variable {prog : Program} {w : World} {A : Around} {R : Result → Shared → Prop} {s : Shared}
theorem j3b {elt target iter : Expr} {ifs : List Expr} {scope : Scope} {pos : Pos} {it acc : Value} {env : Env} (I : Nat → Shared → Prop)
  (turn : ∀ n s, I n s → wpAny (model prog w) A (pyNext it) (fun r s₁ => match r with
   | none => R (.ok .next) s₁
   | some v => wpAny (model prog w) A (letOwnedTupleGo target it v) (fun _ s₁' => wpAny (model prog w) A (assign target env v) (fun _ s₂ =>
     wpAny (model prog w) A (forIn ifs true fun c r => if r = true then do let ok ← isTrue c env (eval c env); pure (ForInStep.yield ok) else pure (ForInStep.yield r)) (fun ok s₃ =>
      if ok = true then wpAny (model prog w) A (eval elt env) (fun x s₄ =>
       wpAny (model prog w) A (call (.builtin "list.append") [acc, x]) (fun _ s₅ => ∃ m, m < n ∧ I m s₅) (notedBy (model prog w) A env fun e s' => R (.error e) s') s₄) (notedBy (model prog w) A env fun e s' => R (.error e) s') s₃
      else ∃ m, m < n ∧ I m s₃) (notedBy (model prog w) A env fun e s' => R (.error e) s') s₂) (notedBy (model prog w) A env fun e s' => R (.error e) s') s₁') (notedBy (model prog w) A env fun e s' => R (.error e) s') s₁) (notedBy (model prog w) A env fun e s' => R (.error e) s') s)
  (n : Nat) (h : I n s) :
  codeAny (model prog w) A (.compLoop (.ListComp elt [⟨target, iter, ifs, 0⟩] scope pos) 0 it acc env) R s := by
 refine codeAny_loop rfl I (fun n s hI => ?_) n h
 show wpAny _ A ((compTurn (.ListComp elt [⟨target, iter, ifs, 0⟩] scope pos) 0 it acc env).onRaise (fun x => do noteFrame x env; theTreesLotGoes x)) _ _ s
 refine wpAny_noted ?_
 rw [compTurn_list]
 refine wpAny_bind (wpAny_standAt (wpAny_bind (wpAny_mono (turn n s hI) (fun r s₁ h₁ => ?_) fun _ _ h' => h')))
 cases r with
 | none => exact wpAny_pure h₁
 | some v =>
  refine wpAny_bind (wpAny_mono h₁ (fun _ s₁' h₁' => ?_) fun _ _ h' => h')
  refine wpAny_bind (wpAny_mono h₁' (fun _ s₂ h₂ => wpAny_bind (wpAny_mono h₂ (fun ok s₃ h₃ => ?_) fun _ _ h' => h')) fun _ _ h' => h')
  cases ok with
  | false => exact wpAny_pure ⟨rfl, h₃⟩
  | true =>
   exact wpAny_bind (wpAny_bind (wpAny_mono h₃ (fun x s₄ h₄ => wpAny_bind (wpAny_mono h₄ (fun _ s₅ h₅ => wpAny_pure (wpAny_pure ⟨rfl, h₅⟩)) fun _ _ h' => h')) fun _ _ h' => h'))
end
noncomputable def PIf (X : Cx) (ifs : List Expr) (t : TT) : Prop :=
 ∀ (pins : List (Addr × Obj)) (s : Shared) (σ : St) (H : Hp) (Q : Bool → Hp → Prop), Inv X pins σ H s → t σ H Q →
  wpAny (model X.prog X.w) X.A (forIn ifs true fun c r => if r = true then do let ok ← isTrue c X.env (eval c X.env); pure (ForInStep.yield ok) else pure (ForInStep.yield r)) (TP X pins σ Q) X.xe s
noncomputable def tYes : TT := fun _ H Q => Q true H
theorem pif_nil {X : Cx} : PIf X [] tYes := fun _ _ _ H _ I h => wpAny_tests_nil ⟨H, I, h⟩
noncomputable def j1d (X : Cx) (N' : List Str) (scope : Scope) (cl : List (Str × Addr)) (C : Addr) (s₀ : Shared) (H₀ : Hp) (ex : List Addr) : Cx :=
 { prog := X.prog, w := X.w, K := X.K, mg := X.mg, base := X.base, A := X.A, N := N', s₀ := s₀, H₀ := H₀, env := compEnvC scope cl C X.env, outer := X.stack, stack := X.stack, ex := ex, fn := fun _ => false, calm := X.calm, pn := [], xe := fun _ _ => False }
noncomputable def compOk (sc scope : Scope) (N N' : List Str) : Bool :=
 (match scope.kind with | .function => true | _ => false) &&
 scope.names.all (fun y => match y.2 with
  | .cell => false
  | .local => (match scope.names.lookup y.1 with | some .local => true | _ => false)
  | .free => (match sc.names.lookup y.1 with | some .cell => true | some .free => true | _ => false)
  | _ => true) &&
 (List.range N'.length).all fun i => match N'[i]? with
  | none => true
  | some x => match scope.names.lookup x with
   | some .local => decide (N.length ≤ i)
   | some .free => decide (N[i]? = some x)
   | _ => true
structure CompOk (sc scope : Scope) (N N' : List Str) : Prop where
 kind : scope.kind = .function
 cell : ∀ y ∈ scope.names, y.2 ≠ .cell
 names : ∀ y ∈ scope.names, y.2 = .local → scope.names.lookup y.1 = some .local
 free : ∀ y ∈ scope.names, y.2 = .free → sc.names.lookup y.1 = some .cell ∨ sc.names.lookup y.1 = some .free
 own : ∀ (i : Nat) x, N'[i]? = some x → scope.names.lookup x = some .local → N.length ≤ i
 out : ∀ (i : Nat) x, N'[i]? = some x → scope.names.lookup x = some .free → N[i]? = some x
theorem CompOk.of {sc scope : Scope} {N N' : List Str} (h : compOk sc scope N N' = true) : CompOk sc scope N N' := by
 unfold compOk at h
 rw [Bool.and_eq_true, Bool.and_eq_true] at h
 obtain ⟨⟨h1, h2⟩, h3⟩ := h
 have h2' := List.all_eq_true.mp h2
 have h3' := List.all_eq_true.mp h3
 refine ⟨?_, fun y hy e => ?_, fun y hy e => ?_, fun y hy e => ?_, fun i x hi e => ?_, fun i x hi e => ?_⟩
 ·revert h1; cases scope.kind <;> intro h1 <;> first | rfl | cases h1
 ·have q := h2' y hy
  rw [e] at q
  cases q
 ·have q := h2' y hy
  rw [e] at q
  simp only at q
  split at q
  ·assumption
  ·cases q
 ·have q := h2' y hy
  rw [e] at q
  simp only at q
  split at q
  ·exact .inl (by assumption)
  ·exact .inr (by assumption)
  ·cases q
 ·have q := h3' i (List.mem_range.mpr (List.getElem?_eq_some_iff.mp hi).1)
  rw [hi] at q
  simp only [e] at q
  exact of_decide_eq_true q
 ·have q := h3' i (List.mem_range.mpr (List.getElem?_eq_some_iff.mp hi).1)
  rw [hi] at q
  simp only [e] at q
  exact of_decide_eq_true q
section
variable {X : Cx} {pins : List (Addr × Obj)} {σ : St} {H : Hp} {s : Shared}
theorem inv_comp {N' : List Str} {scope : Scope} {n : Nat} {fp : List Addr} {h₁ : Heap} {t' : Nat} {m : Str → Option Value} (I : Inv X pins σ H s) (ck : CompOk X.env.scope scope X.N N') (hl : N'.length = X.N.length + n)
  (hns : h₁.Ns s.heap.objs.size m) (old : ∀ b o, s.heap.get? b = some o → h₁.get? b = some o) (hfp : ∀ b ∈ fp, FpOk X pins H b ∧ b < s.heap.objs.size) :
  Inv (j1d X N' scope (j03 scope.names X.env.cells []) s.heap.objs.size s H fp) [] (σ ++ List.replicate n none) H { s with heap := h₁, toks := t' } := by
 have sub : ∀ x c, (j03 scope.names X.env.cells []).lookup x = some c → X.env.cells.lookup x = some c := fun x c e => j26 _ _ _ (fun _ _ z => by simp at z) x c (PySem.mem_of_lookup e)
 have fre : H s.heap.objs.size = none := I.hok.fresh (Nat.le_refl _)
 have ok' : (j1d X N' scope (j03 scope.names X.env.cells []) s.heap.objs.size s H fp).Ok := by
  refine ⟨I.ok.mod, ck.kind, I.ok.glob, I.ok.blt, Nat.le_refl _, fun x y c e1 e2 => I.ok.inj x y c (sub x c e1) (sub y c e2), fun x hx => ?_, fun x c hf _ => ?_, I.ok.hd, I.ok.frames, .inl rfl, fun b hb => ⟨Nat.ne_of_lt (hfp b hb).2, fun x c e => (hfp b hb).1.2.2.2.2.1 x c (sub x c e)⟩,
   I.bs, Nat.le_trans I.ok.bsz I.sz, fun b o e hb => ?_, fun b hb hf => ?_, I.stack, I.stkFree⟩
  ·have hx' : (relabel scope X.env).names.lookup x = some .cell ∨ (relabel scope X.env).names.lookup x = some .free := hx
   have : ∃ k, scope.names.lookup x = some k ∧ k = .free := by
    rcases hx' with z | z
    ·obtain ⟨k, e, r⟩ := j1e z
     rcases r with r | ⟨r, _⟩
     ·exact absurd (r.symm ▸ rfl : k = .cell) (ck.cell (x, k) (PySem.mem_of_lookup e))
     ·exact ⟨k, e, r⟩
    ·obtain ⟨k, e, r⟩ := j1e z
     rcases r with r | ⟨r, _⟩
     ·exact ⟨k, e, r.symm⟩
     ·exact ⟨k, e, r⟩
   obtain ⟨k, e, rfl⟩ := this
   have hm := PySem.mem_of_lookup e
   obtain ⟨c, hc⟩ := I.ok.has x (ck.free _ hm rfl)
   exact j1o (closeL_has scope.names X.env.cells [] x c hm hc)
  ·cases hf
  ·have := (hfp b hb).1.2.2.2.1
   rcases this with z | z
   ·exact I.ok.noex b o e z
   ·exact absurd (Nat.lt_of_lt_of_le (Heap.lt_size e) (Nat.le_trans I.ok.bsz z)) (Nat.lt_irrefl _)
  ·rcases List.mem_cons.mp (I.stkSub b hf) with z | z
   ·exact (hfp b hb).1.2.1 z
   ·exact (hfp b hb).1.2.2.1 z
 refine ⟨ok', rfl, I.bare, Un.kept old, ⟨m, hns, fun i x v e1 e2 e3 => ?_⟩, fun x c e => ?_, fre, fun x c e => I.freeC x c (sub x c e), fun p hp => absurd hp (by simp [j1d]), I.hok.kept old, ?_⟩
 ·have hi : i < σ.length := by
   by_cases hi : i < σ.length
   ·exact hi
   ·rw [List.getElem?_append_right (by omega), List.getElem?_replicate] at e2
    split at e2 <;> cases e2
  rw [List.getElem?_append_left hi] at e2
  have e1' : N'[i]? = some x := e1
  have vis : ∃ k', (relabel scope X.env).names.lookup x = some k' ∧ (k' = .local ∨ k' = .cell ∨ k' = .free) := by
   rcases e3 with z | z | z
   ·exact ⟨_, z, .inl rfl⟩
   ·exact ⟨_, z, .inr (.inl rfl)⟩
   ·exact ⟨_, z, .inr (.inr rfl)⟩
  obtain ⟨k', ek', hk'⟩ := vis
  obtain ⟨k, ek, r⟩ := j1e ek'
  have kf : k = .free := by
   rcases r with r | ⟨r, _⟩
   ·subst r
    rcases hk' with z | z | z
    ·subst z
     have := ck.own i x e1' ek
     rw [I.len] at hi
     omega
    ·subst z
     exact absurd rfl (ck.cell _ (PySem.mem_of_lookup ek))
    ·exact z
   ·exact r
  subst kf
  have hm := PySem.mem_of_lookup ek
  have hxN := ck.out i x e1' ek
  obtain ⟨m0, hn0, hl0⟩ := I.loc
  have kx := ck.free _ hm rfl
  obtain ⟨u, ru, lk⟩ := hl0 i x v hxN e2 (by rcases kx with z | z; exact .inr (.inl z); exact .inr (.inr z))
  refine ⟨u, ru, .inr ⟨?_, ?_⟩⟩
  ·rcases r with r | ⟨_, r⟩
   ·subst r
    exact .inr ek'
   ·subst r
    exact .inl ek'
  ·rcases lk with ⟨k1, _⟩ | ⟨_, c, hc, hcell⟩
   ·have k1' : X.env.scope.names.lookup x = some .local := k1
    rcases kx with z | z
    ·rw [k1'] at z; cases z
    ·rw [k1'] at z; cases z
   ·have hin := closeL_has scope.names X.env.cells [] x c hm hc
    obtain ⟨d, hd⟩ := j1o hin
    have : d = c := Option.some.inj ((sub x d hd).symm.trans hc)
    subst this
    obtain ⟨o, ho, hdat⟩ := hcell
    exact ⟨d, hd, o, old _ _ ho, hdat⟩
 ·obtain ⟨v, o, ho, hdat⟩ := I.cell x c (sub x c e)
  exact ⟨v, o, old _ _ ho, hdat⟩
 ·rw [List.length_append, List.length_replicate, I.len]
  exact hl.symm
end
noncomputable def tComp (n : Nat) (wi : TI) (g : TG) (tc : TT) (te : TE) : TE := fun σ H Q => wi σ H fun J H1 => ∀ D, H1 D = none → ∃ W : Nat → Nat → St → Hp → Prop, (∃ m, W 0 m (σ ++ List.replicate n none) (upd H1 D (.lst []))) ∧ ∀ i m σ' H', W i m σ' H' →
 (J.stop i H' ∧ Q (.ref D) H') ∨ (J.go i H' ∧ ∃ N : St → Hp → Prop, (∀ σ' H', N σ' H' → ∃ m', m' < m ∧ W (i + 1) m' σ' H') ∧ ∀ x H2, J.yld i H' x H2 → g x σ' H2 fun σ2 H3 => tc σ2 H3 fun b H4 =>
  if b = true then te σ2 H4 fun v H5 => ∃ ys, H5 D = some (.lst ys) ∧ ys.length < sizeLine ∧ N σ2 (upd H5 D (.lst (ys ++ [v]))) else N σ2 H4)
theorem thnF {α : Type} {t : Sem α} {Q Q' : α → Shared → Prop} {M : Model} {A : Around} {E : Value → Shared → Prop} {s : Shared} (h : wpAny M A t Q (fun _ _ => False) s) (hQ : ∀ a s, Q a s → Q' a s) : wpAny M A t Q' E s := wpAny_mono h hQ fun _ _ z => z.elim
section
variable {X : Cx} {elt tg iter : Expr} {ifs : List Expr} {scope : Scope} {pos : Pos} {N' : List Str} {n : Nat} {wi : TI} {g : TG} {tc : TT} {te : TE}
theorem comp_core {pins : List (Addr × Obj)} {σ : St} {H2 : Hp} {s2 : Shared} {E : Value → Shared → Prop} {RR : Value → Addr → Result → Shared → Prop} {it : Addr} {fp : List Addr} {tn : Nat → Heap → Prop} {J : It} {Q : VK}
  (hc : X.calm = true) (ck : CompOk X.env.scope scope X.N N') (hl : N'.length = X.N.length + n)
  (hg : ∀ cl C s₀ H₀ ex, PG (j1d X N' scope cl C s₀ H₀ ex) tg g) (hif : ∀ cl C s₀ H₀ ex, PIf (j1d X N' scope cl C s₀ H₀ ex) ifs tc) (he : ∀ cl C s₀ H₀ ex, PE (j1d X N' scope cl C s₀ H₀ ex) elt te)
  (I2 : Inv X pins σ H2 s2) (T : Turn X.prog X.w X.K tg J fp it tn) (st2 : tn 0 s2.heap) (f2 : ∀ b ∈ fp, FpOk X pins H2 b)
  (q : ∀ D, H2 D = none → ∃ W : Nat → Nat → St → Hp → Prop, (∃ m, W 0 m (σ ++ List.replicate n none) (upd H2 D (.lst []))) ∧ ∀ i m σ' H', W i m σ' H' →
   (J.stop i H' ∧ Q (.ref D) H') ∨ (J.go i H' ∧ ∃ N : St → Hp → Prop, (∀ σ' H', N σ' H' → ∃ m', m' < m ∧ W (i + 1) m' σ' H') ∧ ∀ x H2, J.yld i H' x H2 → g x σ' H2 fun σ2 H3 => tc σ2 H3 fun b H4 =>
    if b = true then te σ2 H4 fun v H5 => ∃ ys, H5 D = some (.lst ys) ∧ ys.length < sizeLine ∧ N σ2 (upd H5 D (.lst (ys ++ [v]))) else N σ2 H4))
  (hRR : ∀ D C H' s' m, Inv X pins σ H' s' → s'.heap.Ns C m → H' C = none → C ≠ X.env.locals → X.s₀.heap.objs.size ≤ C → (∀ x c, X.env.cells.lookup x = some c → c ≠ C) → (∀ p ∈ X.pn ++ pins, p.1 ≠ C) → Q (.ref D) H' → RR (.ref D) C (.ok .next) s') :
  wpAny (model X.prog X.w) X.A (newList []) (fun acc s₃ => wpAny (model X.prog X.w) X.A (newFunctionEnv scope X.env.globals (j03 scope.names X.env.cells []) [] X.env.qual none .none (some X.env)) (fun cenv s₄ =>
   codeAny (model X.prog X.w) X.A (.compStart (.ListComp elt [⟨tg, iter, ifs, 0⟩] scope pos) 0 (.ref it) acc { cenv with scope := relabel scope X.env }) (RR acc cenv.locals) s₄) E s₃) E s2 := by
 refine wpAny_newObj_type (wpAny_newFunctionEnv ck.cell (by intro y hy; simp at hy) (fun h₁ hns₁ hsb₁ => ?_) ck.kind) (by show (0 : Nat) ≤ sizeLine; exact Nat.zero_le _)
 have hD : H2 s2.heap.objs.size = none := I2.hok.fresh (Nat.le_refl _)
 obtain ⟨W, ⟨m0, w0⟩, turn⟩ := q s2.heap.objs.size hD
 have fl : ∀ b ∈ fp, b < s2.heap.objs.size := fun b hb => by
  obtain ⟨o, e, _⟩ := T.obj 0 _ st2 b hb
  exact Heap.lt_size e
 have I3 : Inv X pins σ (upd H2 s2.heap.objs.size (.lst [])) { s2 with heap := s2.heap.push { cls := .type "list", dict := none, data := .seq ([] : List Value).toArray } } :=
  I2.laid (t' := s2.toks) (fun b o e => Heap.get?_push_of_some _ e) (Nat.le_refl _) (show ObjOk X.prog X.w _ _ _ (.lst []) from ⟨Nat.zero_le _, [], 0, .nil, Heap.get?_push_size _ rfl⟩)
 generalize hs3 : ({ s2 with heap := s2.heap.push { cls := .type "list", dict := none, data := .seq ([] : List Value).toArray } } : Shared) = s3 at I3 hns₁ hsb₁ ⊢
 have hz3 : s3.heap.objs.size = s2.heap.objs.size + 1 := by rw [← hs3]; exact Heap.size_push ..
 have old2 : ∀ b o, s2.heap.get? b = some o → s3.heap.get? b = some o := fun b o e => by rw [← hs3]; exact Heap.get?_push_of_some _ e
 have old : ∀ b o, s3.heap.get? b = some o → h₁.get? b = some o := fun b o e =>
  hsb₁.extBut b o (Nat.ne_of_lt (Heap.lt_size e)) (Heap.get?_push_of_some _ e)
 have f3 : ∀ b ∈ fp, FpOk X pins (upd H2 s2.heap.objs.size (.lst [])) b ∧ b < s3.heap.objs.size := fun b hb => by
  refine ⟨⟨?_, (f2 b hb).2⟩, by rw [hz3]; exact Nat.lt_succ_of_lt (fl b hb)⟩
  rw [j0d (Nat.ne_of_lt (fl b hb))]
  exact (f2 b hb).1
 have I4 := fun (t' : Nat) => inv_comp (N' := N') (scope := scope) (n := n) (fp := fp) (h₁ := h₁) (t' := t') I3 ck hl hns₁ old f3
 generalize hX : j1d X N' scope (j03 scope.names X.env.cells []) s3.heap.objs.size s3 (upd H2 s2.heap.objs.size (.lst [])) fp = X' at I4
 have eP : X'.prog = X.prog := by rw [← hX]; rfl
 have ew : X'.w = X.w := by rw [← hX]; rfl
 have eK : X'.K = X.K := by rw [← hX]; rfl
 have eA : X'.A = X.A := by rw [← hX]; rfl
 have eE : X'.env = compEnvC scope (j03 scope.names X.env.cells []) s3.heap.objs.size X.env := by rw [← hX]; rfl
 have ec : X'.calm = true := by rw [← hX]; exact hc
 have ex' : X'.xe = fun _ _ => False := by rw [← hX]; rfl
 have hg' : PG X' tg g := by rw [← hX]; exact hg _ _ _ _ _
 have hif' : PIf X' ifs tc := by rw [← hX]; exact hif _ _ _ _ _
 have he' : PE X' elt te := by rw [← hX]; exact he _ _ _ _ _
 have stat : ∀ {H' : Hp}, (∀ b ∈ fp, H' b = none) → ∀ b ∈ fp, FpOk X' [] H' b := fun hn b hb => by
  refine ⟨hn b hb, ?_, ?_, ?_, ?_, ?_⟩
  ·rw [eE]; exact Nat.ne_of_lt (f3 b hb).2
  ·rw [← hX]
   intro hf
   rcases List.mem_cons.mp (I3.stkSub b hf) with z | z
   ·exact (f3 b hb).1.2.1 z
   ·exact (f3 b hb).1.2.2.1 z
  ·rw [← hX]; exact .inl hb
  ·rw [eE]
   intro x c e
   exact (f3 b hb).1.2.2.2.2.1 x c (j26 _ _ _ (fun _ _ z => by simp at z) x c (PySem.mem_of_lookup e))
  ·rw [← hX]; intro p hp; exact absurd hp (by simp [j1d])
 have fin : ∀ {σ' : St} {H' : Hp} {s' : Shared}, Inv X' [] σ' H' s' → Q (.ref s2.heap.objs.size) H' → RR (.ref s2.heap.objs.size) s3.heap.objs.size (.ok .next) s' := fun {σ' H' s'} I' q' => by
  obtain ⟨m', hn', _⟩ := id I'.loc
  rw [eE] at hn'
  have hos : s'.os = s3.os := by have := I'.os; rw [← hX] at this; exact this
  have hun : Un (frs X.stack) fp (upd H2 s2.heap.objs.size (.lst [])) H' s3.heap s'.heap := by have := I'.base; rw [← hX] at this; exact this
  have hok : HOk X.prog X.w H' s'.heap := by have := I'.hok; rw [eP, ew] at this; exact this
  have IX : Inv X pins σ H' s' := I3.call' (ch := fp) hos hun hok I'.bare fun b hb => ⟨(f3 b hb).1.2.2.2.1, (f3 b hb).1.2.1, (f3 b hb).1.2.2.2.2.1, (f3 b hb).1.2.2.2.2.2⟩
  have hfr := I'.free
  rw [eE] at hfr
  refine hRR _ _ H' s' m' IX hn' hfr (Nat.ne_of_gt I3.lt) I3.sz (fun x c e z => ?_) (fun p hp z => ?_) q'
  ·obtain ⟨v, o, ho, _⟩ := I3.cell x c e
   exact absurd (Heap.lt_size ho) (by rw [z]; exact Nat.lt_irrefl _)
  ·exact absurd (Heap.lt_size (I3.pin p hp).1) (by rw [z]; exact Nat.lt_irrefl _)
 have loop : ∀ t', codeAny (model X.prog X.w) X.A (.compLoop (.ListComp elt [⟨tg, iter, ifs, 0⟩] scope pos) 0 (.ref it) (.ref s2.heap.objs.size) (compEnvC scope (j03 scope.names X.env.cells []) s3.heap.objs.size X.env)) (RR (.ref s2.heap.objs.size) s3.heap.objs.size) { s3 with heap := h₁, toks := t' } := fun t' => by
  refine j3b (fun k s' => ∃ i σ' H', Inv X' [] σ' H' s' ∧ tn i s'.heap ∧ (∀ b ∈ fp, H' b = none) ∧ W i k σ' H') ?_ m0
   ⟨0, _, _, I4 t', T.keep 0 _ _ st2 fun b _ o e => old b o (old2 b o e), fun b hb => (f3 b hb).1.1, w0⟩
  rintro k s4 ⟨i, σ4, H4, J4, st4, fr4, w4⟩
  rw [← eP, ← ew, ← eA, ← eE]
  rcases turn i k σ4 H4 w4 with ⟨stop, qn⟩ | ⟨go, N, hN, step⟩
  ·have d1 := T.done X' eP ew eK ec i [] s4 σ4 H4 (fun _ _ => False) J4 (stat fr4) st4 stop
   rw [← eP, ← ew] at d1
   refine thnF d1 fun r s5 ⟨hr, I5⟩ => ?_
   subst hr
   exact fin I5 qn
  ·have d1 := T.item X' eP ew eK ec i [] s4 σ4 H4 (fun _ _ => False) J4 (stat fr4) st4 go
   rw [← eP, ← ew] at d1
   refine thnF d1 fun r s5 ⟨u, hr, h5⟩ => ?_
   subst hr
   refine thnF h5 fun _ s6 ⟨x, H6, I6, r6, y6, st6, fr6⟩ => ?_
   have I6' := I6.pinned (stat fr6) (T.obj _ _ st6)
   have again : ∀ {σ7 : St} {H7 : Hp} {s7 : Shared}, Inv X' ([] ++ pinsAt fp s6.heap) σ7 H7 s7 → N σ7 H7 → ∃ m, m < k ∧ ∃ i σ' H', Inv X' [] σ' H' s7 ∧ tn i s7.heap ∧ (∀ b ∈ fp, H' b = none) ∧ W i m σ' H' := fun {σ7 H7 s7} I7 n7 => by
    obtain ⟨m', hm, w7⟩ := hN σ7 H7 n7
    refine ⟨m', hm, i + 1, σ7, H7, I7.unpinned, T.keep _ _ _ st6 fun b hb o e => (I7.pin (b, o) (List.mem_append_right _ (List.mem_append_right _ (j17 hb e)))).1, fun b hb => ?_, w7⟩
    obtain ⟨o, e, d⟩ := T.obj _ _ st6 b hb
    exact (I7.pin (b, o) (List.mem_append_right _ (List.mem_append_right _ (j17 hb e)))).2.1
   have a1 := hg' _ s6 σ4 H6 x u _ I6' r6 (step x H6 y6)
   rw [ex'] at a1
   refine thnF a1 fun _ s7 ⟨σ7, H7, I7, q7⟩ => ?_
   have a2 := hif' _ s7 σ7 H7 _ I7 q7
   rw [ex'] at a2
   refine thnF a2 fun ok s8 ⟨H8, I8, q8⟩ => ?_
   cases ok with
   | false =>
    rw [if_neg Bool.false_ne_true] at q8 ⊢
    exact again I8 q8
   | true =>
    rw [if_pos rfl] at q8 ⊢
    have a3 := he' _ s8 σ7 H8 _ I8 q8
    rw [ex'] at a3
    refine thnF a3 fun v s9 ⟨vv, H9, I9, r9, ys, hy, hz, q9⟩ => ?_
    have a4 := mt_append (X := X') _ s9 σ7 H9 (.ref s2.heap.objs.size) [vv] (.ref s2.heap.objs.size) [v] (fun _ H' => N σ7 H') I9 rfl (.cons r9 .nil) ⟨_, ys, vv, rfl, rfl, hy, hz, q9⟩
    rw [ex'] at a4
    exact thnF a4 fun _ s10 ⟨_, H10, I10, _, q10⟩ => again I10 q10
 refine codeAny_compStart_list (loop _) (T.self _ 0 _ _ _ ?_ (loop _))
 exact T.keep 0 _ _ st2 fun b _ o e => old b o (old2 b o e)
theorem pe_comp (sc : Scope) (N N' : List Str) (n : Nat) (hi : PI X tg iter wi)
  (hg : ∀ cl C s₀ H₀ ex, PG (j1d X N' scope cl C s₀ H₀ ex) tg g) (hif : ∀ cl C s₀ H₀ ex, PIf (j1d X N' scope cl C s₀ H₀ ex) ifs tc) (he : ∀ cl C s₀ H₀ ex, PE (j1d X N' scope cl C s₀ H₀ ex) elt te)
  (hc : X.calm = true := by rfl) (hsc : X.env.scope = sc := by rfl) (hN : X.N = N := by rfl) (hk : compOk sc scope N N' = true := by decide +kernel) (hl : N'.length = N.length + n := by rfl)
  (hs : ∀ x, foldedSetIterable iter X.env x = pure x := by intro _; rfl) : PE X (.ListComp elt [⟨tg, iter, ifs, 0⟩] scope pos) (tComp n wi g tc te) := by
 intro pins s σ H Q I h
 subst hsc hN
 have ck := CompOk.of hk
 rw [eval_ListComp]
 refine wpAny_comprehension_free (use := none) rfl hs (j2j fun x hx hf => I.ok.has x.1 (ck.free x hx hf)) ck.kind ck.names (thn (hi pins s σ H _ I h) fun v s1 h1 => thn h1 fun itv s2 h2 => ?_)
 obtain ⟨it, fp, tn, J, H2, e, I2, T, st2, f2, q⟩ := h2
 subst e
 refine comp_core (RR := fun acc C => compPost (model X.prog X.w) X.A X.xe none (EP X pins σ Q) acc C) hc ck hl hg hif he I2 T st2 f2 q ?_
 intro D C H' s' m IX hn hC c1 c2 c3 c4 qq
 exact ⟨m, hn, fun h' hs' => ⟨.ref D, H', IX.turned (t' := s'.toks) (fun b o hb e => hs'.extBut b o hb e) hC (Ne.symm (Ne.symm c1)) (.inr c2) c3 c4, rfl, qq⟩⟩
theorem ps_setC {y : Str} {py spos : Pos} {i : Nat} (sc : Scope) (N N' : List Str) (n : Nat) (hnd : X.N.Nodup) (hiN : X.N[i]? = some y) (hy : Loc X.env.scope y) (hi : PI X tg iter wi)
  (hg : ∀ cl C s₀ H₀ ex, PG (j1d X N' scope cl C s₀ H₀ ex) tg g) (hif : ∀ cl C s₀ H₀ ex, PIf (j1d X N' scope cl C s₀ H₀ ex) ifs tc) (he : ∀ cl C s₀ H₀ ex, PE (j1d X N' scope cl C s₀ H₀ ex) elt te)
  (hsw : swapsWith (.ListComp elt [⟨tg, iter, ifs, 0⟩] scope pos) (some (.Name y py)) spos.line X.env = pure true := by rfl)
  (hc : X.calm = true := by rfl) (hsc : X.env.scope = sc := by rfl) (hN : X.N = N := by rfl) (hk : compOk sc scope N N' = true := by decide +kernel) (hl : N'.length = N.length + n := by rfl)
  (hs : ∀ x, foldedSetIterable iter X.env x = pure x := by intro _; rfl) (hf : X.fn y = true ∨ X.env.scope.names.lookup y = some .local := by first | exact .inl rfl | exact .inr rfl | assumption) :
  PS X (.Assign [.Name y py] (.ListComp elt [⟨tg, iter, ifs, 0⟩] scope pos) spos) (tAsg (tComp n wi g tc te) (gName i)) := by
 intro pins s σ H D I h
 subst hsc hN
 have ck := CompOk.of hk
 rw [exec_Assign_Name_used _ _ _ _ hsw]
 refine wpAny_bind (wpAny_standAt (wpAny_bind ?_))
 show wpAny _ X.A (do let _ ← comprehension (.ListComp elt [⟨tg, iter, ifs, 0⟩] scope pos) scope X.env _ (newList []) false (eval iter X.env) (some (assign (.Name y py) X.env))) _ _ s
 refine wpAny_bind (wpAny_mono (wpAny_comprehension_free (use := some (assign (.Name y py) X.env)) (Q := fun _ s' => SP X pins D .next s') rfl hs (j2j fun x hx hf => I.ok.has x.1 (ck.free x hx hf)) ck.kind ck.names
  (thn (hi pins s σ H _ I h) fun v s1 h1 => thn h1 fun itv s2 h2 => ?_)) (fun _ s' hq => wpAny_pure (wpAny_pure hq)) fun _ _ e => e)
 obtain ⟨it, fp, tn, J, H2, e, I2, T, st2, f2, q⟩ := h2
 subst e
 refine comp_core (Q := fun x H1 => gName i x σ H1 D.nx) (RR := fun acc C => compPost (model X.prog X.w) X.A X.xe (some (assign (.Name y py) X.env)) (fun _ s' => SP X pins D .next s') acc C) hc ck hl hg hif he I2 T st2 f2 q ?_
 intro D' C H' s' m IX hn hC c1 c2 c3 c4 qq
 show wpAny _ X.A (assign (.Name y py) X.env (.ref D')) _ _ _
 refine wpAny_assign_Name (store_ok2 IX hnd hiN hy (v := .ref D') rfl (fun s'' I'' hsb => ?_) hf)
 obtain ⟨a, hsb, ha⟩ := hsb
 have hCa : C ≠ a := by
  rcases ha with ha | ha
  ·rw [ha]; exact c1
  ·exact Ne.symm (c3 _ _ ha)
 refine ⟨m, hn.sameBut hsb hCa, fun h' hs' => ⟨_, H', I''.turned (t' := s''.toks) (fun b o hb e => hs'.extBut b o hb e) hC c1 (.inr c2) c3 c4, qq⟩⟩
end
end L2
namespace L2
open PySem PySem.Spec PyProof.Rows
section
variable {X : Cx}
theorem op_isB : OpR X (compareOp .Is) (fun x y H Q => ∃ c d, x = .bl c ∧ y = .bl d ∧ Q (.bl (c == d)) H) := by
 intro pins s σ H x y v u Q I rx ry h
 obtain ⟨c, d, rfl, rfl, q⟩ := h
 cases rx
 cases ry
 exact is_bool (j0z I q rfl)
theorem call_isi : j2k X (.builtin "isinstance") (fun xs H Q => ∃ x t T b, xs = [x, .ty T] ∧ TyOf X.K H x t ∧ PySem.W.kitOne X.K t (.type T) = some b ∧ Q (.bl b) H) := by
 intro pins s σ H xs us Q I r h
 obtain ⟨x, t, T, b, rfl, ty, e, q⟩ := h
 obtain ⟨u, w', rfl, ru, rw'⟩ := vals2 r
 cases (show w' = Value.type T from rw')
 exact isinst_ok I ru ty e fun tk => ⟨.bl b, H, I.tok tk, rfl, q⟩
theorem vals_bls : ∀ {bs : List Bool} {its : List Value}, Vals (bs.map V.bl) its → its = bs.map Value.bool
 | [], _, r => by cases r; rfl
 | b :: bs, _, r => by
  cases r with
  | cons r1 r2 =>
   cases (show _ = Value.bool b from r1)
   rw [vals_bls r2, List.map_cons]
theorem range_all (bs : List Bool) : (List.range bs.length).all (fun i => bs.getD i true) = bs.all id := by
 rw [Bool.eq_iff_iff, List.all_eq_true, List.all_eq_true]
 constructor
 ·intro h x hx
  obtain ⟨i, hi, rfl⟩ := List.mem_iff_getElem.mp hx
  have := h i (List.mem_range.mpr hi)
  simpa [List.getD_eq_getElem?_getD, hi] using this
 ·intro h i hi
  have hi' := List.mem_range.mp hi
  have := h bs[i] (List.getElem_mem hi')
  simpa [List.getD_eq_getElem?_getD, hi'] using this
theorem call_allB (hc : X.calm = true) : j2k X (.builtin "all") (fun xs H Q => ∃ (p : Addr) (bs : List Bool), xs = [.ref p] ∧ SqL X.K H p (bs.map V.bl) ∧ Q (.bl (bs.all id)) H) := by
 intro pins s σ H xs us Q I r h
 obtain ⟨p, bs, rfl, hp, q⟩ := h
 obtain ⟨u, rfl, ru⟩ := vals1 r
 cases (show u = Value.ref p from ru)
 obtain ⟨its, rv, pl, hz⟩ := I.list hp
 have hits := vals_bls rv
 obtain ⟨o, _, ho, _⟩ := id pl
 have hpl : p < s.heap.objs.size := Heap.lt_size ho
 refine call_all_walk (wpAny_pyIter_list pl.isList ⟨s.heap.objs.size, _, _, _, _, _, fun i => bs.getD i true, rfl, Walks.list (A := X.A.in1) (show X.A.in1.handled = none from I.ok.hd hc) s.heap.objs.size p (Nat.ne_of_lt hpl) its.toArray,
  ⟨⟨_, Heap.get?_push_size _ rfl, rfl, rfl⟩, pl.isList.push _⟩, ?_, fun h' tk hk => ?_⟩)
 ·intro i v s' Q' E' hv hQ
  have hv' : its[i]? = some v := by simpa using hv
  rw [hits, List.getElem?_map] at hv'
  cases e : bs[i]? with
  | none => rw [e] at hv'; cases hv'
  | some b =>
   rw [e] at hv'
   cases hv'
   refine wpAny_truthy_bool ?_
   have : bs.getD i true = b := by rw [List.getD_eq_getElem?_getD, e]; rfl
   have hQ' : Q' (bs.getD i true) s' := hQ
   rw [this] at hQ'
   exact hQ'
 ·have e : its.toArray.size = bs.length := by rw [List.size_toArray, hits, List.length_map]
  rw [e, range_all]
  refine ⟨.bl (bs.all id), H, I.kept (t' := tk) fun b o e => hk b o ?_ (Heap.get?_push_of_some _ e), rfl, q⟩
  intro hb
  have : b = s.heap.objs.size := by simpa using hb
  exact absurd (Heap.lt_size e) (by rw [this]; exact Nat.lt_irrefl _)
theorem op_repS : OpR X (binaryOp .Mult) (fun x y H Q => ∃ z i, x = .str z ∧ y = .int i ∧ 0 ≤ i ∧ i ≤ 100000 ∧ z.length * i.toNat ≤ 100000 ∧ Q (.str (Txt.mul z i)) H) := by
 intro pins s σ H x y v u Q I rx ry h
 obtain ⟨z, i, rfl, rfl, h0, h1, h2, q⟩ := h
 obtain ⟨t, rfl⟩ := rx
 obtain ⟨t', rfl⟩ := ry
 have hsz : sizeLine = 16777216 := sizeLine_eq
 refine SB.mul ⟨?_, fun h3 h4 => ?_, fun h3 h4 => ?_⟩ fun t' k => ⟨.str _, H, I.tok k, ⟨_, rfl⟩, q⟩
 ·rw [decide_eq_false (by omega), decide_eq_false (by omega)]; rfl
 ·have h5 : (z.length : Int) ≤ 100000 := by
   have h6 : z.length * 1 ≤ z.length * i.toNat := Nat.mul_le_mul_left _ (by omega)
   omega
  have h7 : (100000 : Int) ≤ (2 ^ 63 - 1) / i := by
   rw [Int.le_ediv_iff_mul_le (by omega)]
   have : (100000 : Int) * i ≤ 100000 * 100000 := Int.mul_le_mul_of_nonneg_left h1 (by decide)
   have e : (2 : Int) ^ 63 - 1 = 9223372036854775807 := by decide
   omega
  omega
 ·unfold Builtin.Str.tooLong
  rw [hsz]
  exact decide_eq_false (by omega)
end
end L2
namespace L2
open PySem PySem.Spec PyProof.Rows
noncomputable def isStar : Expr → Bool
 | .Starred _ _ => true
 | _ => false
noncomputable def noStar (es : List Expr) : Bool := es.all fun e => !isStar e
theorem j2l (e : Expr) (es : List Expr) (env : Env) (h : isStar e = false) : starEach (e :: es) env = (false, eval e env) :: starEach es env := by
 cases e <;> first | rfl | (exact absurd h (by simp [isStar]))
theorem star_any (pos : Pos) (env : Env) : ∀ es : List Expr, noStar es = true → (backTo pos (starEach es env)).any (·.1) = false
 | [], _ => rfl
 | e :: es, h => by
  have h' : (!isStar e) = true ∧ noStar es = true := by
   have := h
   unfold noStar at this ⊢
   rw [List.all_cons, Bool.and_eq_true] at this
   exact this
  have hs : isStar e = false := by
   have := h'.1
   cases q : isStar e with
   | true => rw [q] at this; cases this
   | false => rfl
  rw [j2l e es env hs]
  show (false || (backTo pos (starEach es env)).any (·.1)) = false
  rw [star_any pos env es h'.2]; rfl
theorem j1v {e : Expr} {es : List Expr} (h : noStar (e :: es) = true) : isStar e = false ∧ noStar es = true := by
 unfold noStar at h ⊢
 rw [List.all_cons, Bool.and_eq_true] at h
 refine ⟨?_, h.2⟩
 cases q : isStar e with
 | true => rw [q] at h; cases h.1
 | false => rfl
section
variable {X : Cx} {CX : CXT} {k : Nat} {f C : Addr} {fd : FuncData} {ps : List Str} {sp : Sp} {dvs : List V} {ds : List Value} {E : XK} {x m : Str} {p pos apos : Pos} {e o : Expr} {es : List Expr} {ta te : TE} {t : TA} {id T : String} {r : List V → Hp → VK → Prop}
theorem pac (ha : PE X e te) (hr : PA X es t) (hs : isStar e = false := by rfl) : PA X (e :: es) (tCons te t) := pa_cons ha hr (j2l _ _ _ hs)
theorem pcall (F : FnOk X.prog X.w X.K X.mg X.base CX k f fd ps sp) (hr : Room k X.A) (hm : X.mg x = some (.ref f)) (hk : PySem.W.keepIn X.K (.ref f) = true) (hb : Binds X.K fd ps []) (hx : Passes CX X E)
  (ha : PA X (e :: es) t) (hg : Gl X x := by rfl) (hdb : (x == ("__debug__" : Str)) = false := by decide) (hs : noStar (e :: es) = true := by rfl) : PE X (.Call (.Name x p) (e :: es) [] pos) (tCall sp [] E t) :=
 pe_call F hr hg hm hk hb .nil hx ha hdb (j2l _ _ _ (j1v hs).1) (star_any _ _ _ (j1v hs).2)
theorem pblt (hc : j2k X (.builtin id) r) (hm : X.mg x = none) (hv : bootBuiltins x = some (.builtin id)) (ha : PA X (e :: es) t) (hg : Gl X x := by rfl) (hn : x ≠ "__name__" := by decide) (hdb : (x == ("__debug__" : Str)) = false := by decide)
  (hs : noStar (e :: es) = true := by rfl) : PE X (.Call (.Name x p) (e :: es) [] pos) (tCB r t) :=
 pe_callB hc hg hm hv ha hn hdb (j2l _ _ _ (j1v hs).1) (star_any _ _ _ (j1v hs).2)
theorem ptyp (hc : j2k X (.type T) r) (hm : X.mg x = none) (hv : bootBuiltins x = some (.type T)) (ha : PA X (e :: es) t) (hg : Gl X x := by rfl) (hn : x ≠ "__name__" := by decide) (hdb : (x == ("__debug__" : Str)) = false := by decide)
  (hs : noStar (e :: es) = true := by rfl) : PE X (.Call (.Name x p) (e :: es) [] pos) (tCB r t) :=
 pe_callTy hc hg hm hv ha hn hdb (j2l _ _ _ (j1v hs).1) (star_any _ _ _ (j1v hs).2)
end
end L2
namespace L2
open PySem PySem.Spec PyProof.Rows
structure Ev (X : Cx) (e : Expr) (σ : St) (H : Hp) (Q : VK) : Prop where
 run : ∀ (pins : List (Addr × Obj)) (s : Shared), Inv X pins σ H s → wpAny (model X.prog X.w) X.A (eval e X.env) (EP X pins σ Q) X.xe s
structure Et (X : Cx) (e : Expr) (σ : St) (H : Hp) (Q : Bool → Hp → Prop) : Prop where
 run : ∀ (pins : List (Addr × Obj)) (s : Shared), Inv X pins σ H s → wpAny (model X.prog X.w) X.A (isTrue e X.env (eval e X.env)) (TP X pins σ Q) X.xe s
structure Ew (X : Cx) (e : Expr) (σ : St) (H : Hp) (Q : Bool → Hp → Prop) : Prop where
 run : ∀ (whole : Sem Value) (pins : List (Addr × Obj)) (s : Shared), Inv X pins σ H s → wpAny (model X.prog X.w) X.A (isTrue e X.env whole) (TP X pins σ Q) X.xe s
structure Ea (X : Cx) (es : List Expr) (σ : St) (H : Hp) (Q : List V → Hp → Prop) : Prop where
 run : ∀ (pos : Pos) (pins : List (Addr × Obj)) (s : Shared), Inv X pins σ H s → wpAny (model X.prog X.w) X.A (spliced (backTo pos (starEach es X.env))) (AP X pins σ Q) X.xe s
structure Eg (X : Cx) (e : Expr) (v : V) (σ : St) (H : Hp) (Q : St → Hp → Prop) : Prop where
 run : ∀ (pins : List (Addr × Obj)) (s : Shared) (u : Value), Inv X pins σ H s → RelV v u → wpAny (model X.prog X.w) X.A (assign e X.env u) (fun _ s' => ∃ σ' H', Inv X pins σ' H' s' ∧ Q σ' H') X.xe s
structure Run (X : Cx) (l : List Stmt) (D : Ends) (σ : St) (H : Hp) : Prop where
 run : ∀ (pins : List (Addr × Obj)) (s : Shared), Inv X pins σ H s → wpAny (model X.prog X.w) X.A (execs l X.env) (SP X pins D) X.xe s
noncomputable def tEv (X : Cx) (e : Expr) : TE := fun σ H Q => Ev X e σ H Q
noncomputable def tEt (X : Cx) (e : Expr) : TT := fun σ H Q => Et X e σ H Q
noncomputable def tEw (X : Cx) (e : Expr) : TT := fun σ H Q => Ew X e σ H Q
noncomputable def tEa (X : Cx) (es : List Expr) : TA := fun σ H Q => Ea X es σ H Q
noncomputable def tEg (X : Cx) (e : Expr) : TG := fun v σ H Q => Eg X e v σ H Q
noncomputable def tRun (X : Cx) (l : List Stmt) : TS := fun D σ H => Run X l D σ H
section
variable {X : Cx} {e a b c o : Expr} {es : List Expr} {st : Stmt} {rest body els : List Stmt} {σ : St} {H : Hp} {Q : VK} {T : Bool → Hp → Prop} {L : List V → Hp → Prop} {D : Ends} {pos p p2 : Pos}
theorem j0y : PE X e (tEv X e) := fun pins s _ _ _ I h => h.run pins s I
theorem pt_et : PT X e (tEt X e) := fun pins s _ _ _ I h => h.run pins s I
theorem pw_ew : PW X e (tEw X e) := fun wh pins s _ _ _ I h => h.run wh pins s I
theorem pa_ea : PA X es (tEa X es) := fun pos pins s _ _ _ I h => h.run pos pins s I
theorem pg_eg : PG X e (tEg X e) := fun pins s _ _ _ u _ I r h => h.run pins s u I r
theorem pss_run {l : List Stmt} : PSs X l (tRun X l) := fun pins s _ _ _ I h => h.run pins s I
theorem j10 {t : TE} (h1 : PE X e t) (h2 : t σ H Q) : Ev X e σ H Q := ⟨fun pins s I => h1 pins s σ H Q I h2⟩
theorem et_of {t : TT} (h1 : PT X e t) (h2 : t σ H T) : Et X e σ H T := ⟨fun pins s I => h1 pins s σ H T I h2⟩
theorem ew_of {t : TT} (h1 : PW X e t) (h2 : t σ H T) : Ew X e σ H T := ⟨fun wh pins s I => h1 wh pins s σ H T I h2⟩
theorem ea_of {t : TA} (h1 : PA X es t) (h2 : t σ H L) : Ea X es σ H L := ⟨fun pos pins s I => h1 pos pins s σ H L I h2⟩
theorem eg_of {t : TG} {v : V} {R : St → Hp → Prop} (h1 : PG X e t) (h2 : t v σ H R) : Eg X e v σ H R := ⟨fun pins s u I r => h1 pins s σ H v u R I r h2⟩
theorem j1j {t : TS} (h1 : PS X st t) (h2 : t { D with nx := fun σ' H' => Run X rest D σ' H' } σ H) : Run X (st :: rest) D σ H := ⟨fun pins s I => pss_cons h1 pss_run pins s σ H D I h2⟩
theorem j0i (h : D.nx σ H) : Run X [] D σ H := ⟨fun pins s I => pss_nil pins s σ H D I h⟩
theorem Ev.mono {Q' : VK} (h : Ev X e σ H Q) (f : ∀ v H', Q v H' → Q' v H') : Ev X e σ H Q' := ⟨fun pins s I => thn (h.run pins s I) fun _ _ ⟨v, H', I', r, q⟩ => ⟨v, H', I', r, f v H' q⟩⟩
theorem Et.mono {T' : Bool → Hp → Prop} (h : Et X e σ H T) (f : ∀ v H', T v H' → T' v H') : Et X e σ H T' := ⟨fun pins s I => thn (h.run pins s I) fun v _ ⟨H', I', q⟩ => ⟨H', I', f v H' q⟩⟩
theorem Ea.mono {L' : List V → Hp → Prop} (h : Ea X es σ H L) (f : ∀ v H', L v H' → L' v H') : Ea X es σ H L' := ⟨fun pos pins s I => thn (h.run pos pins s I) fun _ _ ⟨v, H', I', r, q⟩ => ⟨v, H', I', r, f v H' q⟩⟩
theorem ev_v (i : Nat) {x : Str} {v : V} (h : Q v H) (hv : σ[i]? = some (some v) := by rfl) (hN : X.N[i]? = some x := by rfl) (hs : Vis X.env.scope x := by first | exact Or.inl rfl | exact Or.inr (Or.inl rfl) | exact Or.inr (Or.inr rfl)) (hd : (x == ("__debug__" : Str)) = false := by decide)
  (hcd : (x == ("__classdict__" : Str)) = false := by decide) : Ev X (.Name x p) σ H Q := j10 (pe_var (i := i) hN hs hd hcd) ⟨v, hv, h⟩
theorem j0h {i : Int} {j : Nat} (h : Q (.int i) H) : Ev X (.Constant (.int i) j p) σ H Q := j10 (pe_int) h
theorem j13 {i : Bool} {j : Nat} (h : Q (.bl i) H) : Ev X (.Constant (.bool i) j p) σ H Q := j10 (pe_bl) h
theorem ev_non {j : Nat} (h : Q .non H) : Ev X (.Constant .none j p) σ H Q := j10 (pe_non) h
theorem ev_str {i : Str} {j : Nat} (h : Q (.str i) H) : Ev X (.Constant (.str i) j p) σ H Q := j10 (pe_str) h
theorem ev_glob {x : Str} {v : V} {u : Value} (hm : X.mg x = some u) (r : RelV v u) (h : Q v H) (hg : Gl X x := by rfl) (hd : (x == ("__debug__" : Str)) = false := by decide) : Ev X (.Name x p) σ H Q := j10 (pe_glob hg hm r hd) h
theorem ev_bltn {x : Str} (v : V) {u : Value} (hm : X.mg x = none) (hv : bootBuiltins x = some u) (r : RelV v u) (h : Q v H) (hg : Gl X x := by rfl) (hn : x ≠ "__name__" := by decide) (hd : (x == ("__debug__" : Str)) = false := by decide) : Ev X (.Name x p) σ H Q := j10 (pe_bltn hg hm hv r hn hd) h
theorem j0t {op : Operator} {r : R2} (ho : OpR X (binaryOp op) r) (h : Ev X a σ H fun x H1 => Ev X b σ H1 fun y H2 => r x y H2 Q) : Ev X (.BinOp a op b pos) σ H Q := j10 (pe_op ho j0y j0y) h
theorem ev_cmp {op : CmpOp} {r : R2} (ho : OpR X (compareOp op) r) (h : Ev X a σ H fun x H1 => Ev X b σ H1 fun y H2 => r x y H2 Q) (hm : behindInMarks op b = false := by with_unfolding_all rfl) : Ev X (.Compare a [op] [b] pos) σ H Q := j10 (pe_cmpR ho j0y j0y hm) h
theorem ev_and (h : Ev X a σ H fun x H1 => ∃ k, x = .bl k ∧ if k = true then Ev X (.BoolOp .And (b :: es) pos) σ H1 Q else Q (.bl false) H1) : Ev X (.BoolOp .And (a :: b :: es) pos) σ H Q := j10 (pe_and j0y j0y) h
theorem ev_or (h : Ev X a σ H fun x H1 => ∃ k, x = .bl k ∧ if k = true then Q (.bl true) H1 else Ev X (.BoolOp .Or (b :: es) pos) σ H1 Q) : Ev X (.BoolOp .Or (a :: b :: es) pos) σ H Q := j10 (pe_or j0y j0y) h
theorem ev_last {op : BoolOp} (h : Ev X a σ H Q) : Ev X (.BoolOp op [a] pos) σ H Q := j10 (pe_one j0y) h
theorem j09 {r : R2} (hr : IxR X r) (h : Ev X a σ H fun x H1 => Ev X b σ H1 fun y H2 => r x y H2 Q) (hs : PlainIx b := by intro _ _; rfl) : Ev X (.Subscript a b pos) σ H Q := j10 (pe_ix hr j0y j0y hs) h
theorem j0e (h : L [] H) : Ea X [] σ H L := ea_of (pa_nil) h
theorem j0a (h : Ev X e σ H fun x H1 => Ea X es σ H1 fun xs H2 => L (x :: xs) H2) (hs : isStar e = false := by rfl) : Ea X (e :: es) σ H L := ea_of (pac j0y pa_ea hs) h
theorem j1f {k : Nat} (h : Ea X es σ H fun xs H1 => xs.length ≤ sizeLine ∧ ∀ p, H1 p = none → Q (.ref p) (upd H1 p (.tup xs))) : Ev X (.Tuple es k pos) σ H Q := j10 (pe_tup pa_ea) h
theorem j2p (h : Ea X es σ H fun xs H1 => xs.length ≤ sizeLine ∧ ∀ p, H1 p = none → Q (.ref p) (upd H1 p (.lst xs))) : Ev X (.List es pos) σ H Q := j10 (pe_lst pa_ea) h
theorem ev_call {CX : CXT} {k : Nat} {f : Addr} {fd : FuncData} {ps : List Str} {sp : Sp} {E : XK} {x : Str} (F : FnOk X.prog X.w X.K X.mg X.base CX k f fd ps sp) (hr : Room k X.A) (hm : X.mg x = some (.ref f)) (hk : PySem.W.keepIn X.K (.ref f) = true) (hb : Binds X.K fd ps []) (hx : Passes CX X E)
  (h : Ea X (e :: es) σ H fun vs H1 => sp vs H1 Q E) (hg : Gl X x := by rfl) (hdb : (x == ("__debug__" : Str)) = false := by decide) (hs : noStar (e :: es) = true := by rfl) : Ev X (.Call (.Name x p) (e :: es) [] pos) σ H Q :=
 j10 (pcall F hr hm hk hb hx pa_ea hg hdb hs) (show Ea X (e :: es) σ H _ from h.mono fun vs H1 q => by rw [List.append_nil]; exact q)
theorem j0u {id : String} {r : List V → Hp → VK → Prop} {x : Str} (hc : j2k X (.builtin id) r) (hm : X.mg x = none) (hv : bootBuiltins x = some (.builtin id)) (h : Ea X (e :: es) σ H fun vs H1 => r vs H1 Q) (hg : Gl X x := by rfl) (hn : x ≠ "__name__" := by decide) (hdb : (x == ("__debug__" : Str)) = false := by decide)
  (hs : noStar (e :: es) = true := by rfl) : Ev X (.Call (.Name x p) (e :: es) [] pos) σ H Q := j10 (pblt hc hm hv pa_ea hg hn hdb hs) h
theorem ev_typ {T : String} {r : List V → Hp → VK → Prop} {x : Str} (hc : j2k X (.type T) r) (hm : X.mg x = none) (hv : bootBuiltins x = some (.type T)) (h : Ea X (e :: es) σ H fun vs H1 => r vs H1 Q) (hg : Gl X x := by rfl) (hn : x ≠ "__name__" := by decide) (hdb : (x == ("__debug__" : Str)) = false := by decide)
  (hs : noStar (e :: es) = true := by rfl) : Ev X (.Call (.Name x p) (e :: es) [] pos) σ H Q := j10 (ptyp hc hm hv pa_ea hg hn hdb hs) h
theorem j14 {op : CmpOp} {r : R2} (ho : OpR X (compareOp op) r) (h : Ev X a σ H fun x H1 => Ev X b σ H1 fun y H2 => r x y H2 fun z H3 => ∃ k, z = .bl k ∧ T k H3) (hm : behindInMarks op b = false := by with_unfolding_all rfl) : Et X (.Compare a [op] [b] pos) σ H T := et_of (pt_cmpR ho j0y j0y hm) h
theorem et_not (h : Et X a σ H fun k H1 => T (!k) H1) : Et X (.UnaryOp .Not a pos) σ H T := et_of (pt_not pt_et) h
theorem et_val (h : Ev X e σ H fun x H1 => ∃ k, x = .bl k ∧ T k H1) (he : ∀ whole, isTrue e X.env whole = (do let v ← whole; standAt e.pos; holding [v] (truthy v)) := by intro _; rfl) : Et X e σ H T := et_of (pt_val j0y he) h
theorem et_truth (h : Ev X e σ H fun x H1 => ∃ k, TruV X.K x H1 k ∧ T k H1) (he : ∀ whole, isTrue e X.env whole = (do let v ← whole; standAt e.pos; holding [v] (truthy v)) := by intro _; rfl) : Et X e σ H T := et_of (pt_truth j0y he) h
theorem et_bool (h : Ew X e σ H T) : Et X e σ H T := ⟨fun pins s I => h.run _ pins s I⟩
theorem ew_and (h : Et X a σ H fun k H1 => if k = true then Ew X (.BoolOp .And (b :: es) pos) σ H1 T else T false H1) : Ew X (.BoolOp .And (a :: b :: es) pos) σ H T := ew_of (pw_and pt_et pw_ew) h
theorem ew_or (h : Et X a σ H fun k H1 => if k = true then T true H1 else Ew X (.BoolOp .Or (b :: es) pos) σ H1 T) : Ew X (.BoolOp .Or (a :: b :: es) pos) σ H T := ew_of (pw_or pt_et pw_ew) h
theorem ew_and1 (h : Et X a σ H T) : Ew X (.BoolOp .And [a] pos) σ H T := ew_of (pw_and1 pt_et) h
theorem ew_or1 (h : Et X a σ H T) : Ew X (.BoolOp .Or [a] pos) σ H T := ew_of (pw_or1 pt_et) h
theorem j0l (i : Nat) {x : Str} {v : V} {R : St → Hp → Prop} (hN : X.N.Nodup) (h : R (σ.set i (some v)) H) (hi : X.N[i]? = some x := by rfl) (hx : Loc X.env.scope x := by first | exact Or.inl rfl | exact Or.inr rfl) (hf : X.fn x = true ∨ X.env.scope.names.lookup x = some .local := by first | exact .inl rfl | exact .inr rfl | assumption) : Eg X (.Name x p) v σ H R := eg_of (pg_name hN hi hx hf) h
theorem j0k (i : Nat) {x : Str} {pos' : Pos} (hN : X.N.Nodup) (h : Ev X e σ H fun v H1 => Run X rest D (σ.set i (some v)) H1) (hi : X.N[i]? = some x := by rfl) (hx : Loc X.env.scope x := by first | exact Or.inl rfl | exact Or.inr rfl) (hs : swapsWith e (some (.Name x pos')) pos.line X.env = pure false := by rfl)
  (hf : X.fn x = true ∨ X.env.scope.names.lookup x = some .local := by first | exact .inl rfl | exact .inr rfl | assumption) : Run X (.Assign [.Name x pos'] e pos :: rest) D σ H := j1j (ps_set hN hi hx j0y hs hf) h
theorem j1n (h : Et X c σ H fun k H1 => if k = true then Run X body { D with nx := fun σ' H' => Run X rest D σ' H' } σ H1 else Run X els { D with nx := fun σ' H' => Run X rest D σ' H' } σ H1) : Run X (.If c body els pos :: rest) D σ H := j1j (ps_if pt_et pss_run pss_run) h
theorem run_ifJ (φ ψ : Prop) (hc : ∀ T : Bool → Hp → Prop, (∀ k : Bool, (k = true → φ) → (k = false → ψ) → T k H) → Et X c σ H T) (ht : φ → Run X body { D with nx := fun σ' H' => Run X rest D σ' H' } σ H) (hu : ψ → Run X els { D with nx := fun σ' H' => Run X rest D σ' H' } σ H) : Run X (.If c body els pos :: rest) D σ H :=
 j1n (hc _ fun k p q => by
  cases k with
  | true => rw [if_pos rfl]; exact ht (p rfl)
  | false => rw [if_neg Bool.false_ne_true]; exact hu (q rfl))
theorem j0p (h : Ev X e σ H D.rt) : Run X (.Return (some e) pos :: rest) D σ H := j1j (ps_ret j0y) h
theorem j1w (h : Ev X e σ H fun _ H1 => Run X rest D σ H1) (hs : swapsWith e none pos.line X.env = pure false := by rfl) : Run X (.Expr e pos :: rest) D σ H := j1j (ps_expr j0y hs) h
theorem run_asg {tg : Expr} (h : Ev X e σ H fun v H1 => Eg X tg v σ H1 fun σ' H' => Run X rest D σ' H') (hs : swapsWithSole [tg] e pos.line X.env = pure false := by rfl) (hw : swappedStores [tg] e X.env = pure none := by rfl)
  (h1 : (assignEach [tg] X.env).map (·.2) = [assign tg X.env] := by rfl) : Run X (.Assign [tg] e pos :: rest) D σ H := j1j (ps_asg j0y pg_eg hs hw h1) h
noncomputable def Loop (X : Cx) (tg : Expr) (body : List Stmt) (J : It) (D : Ends) (after : St → Hp → Prop) (σ : St) (H : Hp) : Prop :=
 ∃ W : Nat → Nat → St → Hp → Prop, (∃ m, W 0 m σ H) ∧ ∀ i m σ H, W i m σ H → (J.stop i H ∧ after σ H) ∨ (J.go i H ∧ ∃ N : St → Hp → Prop, (∀ σ' H', N σ' H' → ∃ m', m' < m ∧ W (i + 1) m' σ' H') ∧
  ∀ x H', J.yld i H x H' → Eg X tg x σ H' fun σ2 H2 => Run X body { D with nx := N, ct := N, bk := after } σ2 H2)
theorem run_for {tg iter : Expr} {wi : TI} (hi : PI X tg iter wi) (h : wi σ H fun J H1 => Loop X tg body J D (fun σ' H' => Run X rest D σ' H') σ H1) (hp : PassesOwn (model X.prog X.w) X.A X.env X.xe := by exact PassesOwn.never) (hc : X.calm = true := by rfl)
  (hs : ∀ x, foldedSetIterable iter X.env x = pure x := by intro _; rfl) : Run X (.For tg iter body [] pos :: rest) D σ H := j1j (ps_for hp hc hi pg_eg pss_run hs) h
theorem j1z {tg : Expr} {q : Pos} (hm : X.mg "range" = none) (h : Ev X a σ H fun x H1 => ∃ j : Int, x = .int j ∧ -(2 ^ 62) ≤ j ∧ j < 2 ^ 62 ∧ Loop X tg body (Itr 0 j.toNat) D (fun σ' H' => Run X rest D σ' H') σ H1) (hg : Gl X "range" := by rfl) (hp : PassesOwn (model X.prog X.w) X.A X.env X.xe := by exact PassesOwn.never) (hc : X.calm = true := by rfl) (hs : isStar a = false := by rfl) :
  Run X (.For tg (.Call (.Name "range" q) [a] [] p) body [] pos :: rest) D σ H :=
 run_for (wi := iRng1 (tEa X [a])) (pi_range1 hg hm pa_ea (j2l a [] _ hs)) (show Ea X [a] σ H _ from j0a (h.mono fun x H1 ⟨j, e, h1, h2, h3⟩ => j0e ⟨j, by rw [e], h1, h2, h3⟩) hs) hp hc (by intro _; rfl)
theorem run_forT {tg iter : Expr} (h : Ev X iter σ H fun x H1 => ∃ a, x = .ref a ∧ (∃ xs, SqT X.K H1 a xs) ∧ Loop X tg body (Itt X.K a) D (fun σ' H' => Run X rest D σ' H') σ H1) (hp : PassesOwn (model X.prog X.w) X.A X.env X.xe := by exact PassesOwn.never) (hc : X.calm = true := by rfl)
  (hs : ∀ x, foldedSetIterable iter X.env x = pure x := by intro _; rfl) : Run X (.For tg iter body [] pos :: rest) D σ H := run_for (pi_tup j0y) h hp hc hs
theorem j2g {tg iter : Expr} (h : Ev X iter σ H fun x H1 => ∃ a, x = .ref a ∧ (∃ xs, SqL X.K H1 a xs) ∧ Loop X tg body (Itl X.K a) D (fun σ' H' => Run X rest D σ' H') σ H1) (hp : PassesOwn (model X.prog X.w) X.A X.env X.xe := by exact PassesOwn.never) (hc : X.calm = true := by rfl)
  (hs : ∀ x, foldedSetIterable iter X.env x = pure x := by intro _; rfl) : Run X (.For tg iter body [] pos :: rest) D σ H := run_for (j1u j0y) h hp hc hs
theorem j1l {tg : Expr} {lo : Int} {n : Nat} {after : St → Hp → Prop} (Pv : Nat → St → Hp → Prop) (h0 : Pv 0 σ H)
  (hs : ∀ i σ H, i < n → Pv i σ H → Eg X tg (.int (lo + i)) σ H fun σ2 H2 => Run X body { D with nx := Pv (i + 1), ct := Pv (i + 1), bk := after } σ2 H2) (hd : ∀ σ H, Pv n σ H → after σ H) : Loop X tg body (Itr lo n) D after σ H := by
 refine ⟨fun i m σ H => m = n - i ∧ i ≤ n ∧ Pv i σ H, ⟨n, by simp, Nat.zero_le _, h0⟩, ?_⟩
 rintro i m σ H ⟨rfl, hi, p⟩
 by_cases hlt : i < n
 ·refine .inr ⟨hlt, Pv (i + 1), fun σ' H' p' => ⟨n - (i + 1), by omega, rfl, hlt, p'⟩, fun x H' y => ?_⟩
  obtain ⟨e, y⟩ := y
  subst e y
  exact hs i σ _ hlt p
 ·have e : i = n := by omega
  subst e
  exact .inl ⟨Nat.le_refl _, hd σ H p⟩
theorem loop_tup {tg : Expr} {at_ : Addr} {xs : List V} {after : St → Hp → Prop} (Pv : Nat → St → Hp → Prop) (h0 : Pv 0 σ H) (hl : ∀ i σ H, i ≤ xs.length → Pv i σ H → SqT X.K H at_ xs)
  (hs : ∀ i x σ H, xs[i]? = some x → Pv i σ H → Eg X tg x σ H fun σ2 H2 => Run X body { D with nx := Pv (i + 1), ct := Pv (i + 1), bk := after } σ2 H2) (hd : ∀ σ H, Pv xs.length σ H → after σ H) : Loop X tg body (Itt X.K at_) D after σ H := by
 refine ⟨fun i m σ H => m = xs.length - i ∧ i ≤ xs.length ∧ Pv i σ H, ⟨xs.length, by simp, Nat.zero_le _, h0⟩, ?_⟩
 rintro i m σ H ⟨rfl, hi, p⟩
 have q := hl i σ H hi p
 by_cases hlt : i < xs.length
 ·refine .inr ⟨⟨xs, xs[i], q, by simp [hlt]⟩, Pv (i + 1), fun σ' H' p' => ⟨xs.length - (i + 1), by omega, rfl, hlt, p'⟩, fun x H' y => ?_⟩
  obtain ⟨e, y⟩ := y
  subst e
  exact hs i x σ _ (y xs q) p
 ·have e : i = xs.length := by omega
  subst e
  exact .inl ⟨⟨xs, q, Nat.le_refl _⟩, hd σ H p⟩
theorem j1x {tg : Expr} {at_ : Addr} {xs : List V} {after : St → Hp → Prop} (Pv : Nat → St → Hp → Prop) (h0 : Pv 0 σ H) (hl : ∀ i σ H, i ≤ xs.length → Pv i σ H → SqL X.K H at_ xs)
  (hs : ∀ i x σ H, xs[i]? = some x → Pv i σ H → Eg X tg x σ H fun σ2 H2 => Run X body { D with nx := Pv (i + 1), ct := Pv (i + 1), bk := after } σ2 H2) (hd : ∀ σ H, Pv xs.length σ H → after σ H) : Loop X tg body (Itl X.K at_) D after σ H := by
 refine ⟨fun i m σ H => m = xs.length - i ∧ i ≤ xs.length ∧ Pv i σ H, ⟨xs.length, by simp, Nat.zero_le _, h0⟩, ?_⟩
 rintro i m σ H ⟨rfl, hi, p⟩
 have q := hl i σ H hi p
 by_cases hlt : i < xs.length
 ·refine .inr ⟨⟨xs, xs[i], q, by simp [hlt]⟩, Pv (i + 1), fun σ' H' p' => ⟨xs.length - (i + 1), by omega, rfl, hlt, p'⟩, fun x H' y => ?_⟩
  obtain ⟨e, y⟩ := y
  subst e
  exact hs i x σ _ (y xs q) p
 ·have e : i = xs.length := by omega
  subst e
  exact .inl ⟨⟨xs, q, Nat.le_refl _⟩, hd σ H p⟩
theorem Fun.go {P : Program} {w : World} {K : PySem.W.Frag} {mg : Str → Option Value} {base : Heap} {x qual : Str} {st : Stmt} {f : Addr} {fd : FuncData} {N ps : List Str} {k : Nat} {sp : Sp} (F : Fun K x qual st f fd) (S : FnScope N ps (j0c st)) (len : ∀ vs H Q E, sp vs H Q E → vs.length = ps.length)
  (hbody : ∀ (cdv : Value) (A : Around) (outer : List Env) (s : Shared) (H : Hp) (vs : List V) (Q : VK) (E : XK), Room k (A.deeper (envOfC qual (j0c st) s.heap.objs.size f cdv)) → sp vs H Q E →
   Run (cxOf CX0 P w K mg base N qual (j0c st) f cdv A outer s H E).nox (j1t st) { nx := fun _ H' => Q .non H', rt := Q } (start N vs) H) : FnOk P w K mg base CX0 (k + 1) f fd ps sp :=
 F.ok S len fun cdv A outer s H vs Q E hr hsp => ⟨_, pss_run, hbody cdv A outer s H vs Q E hr hsp⟩
end
end L2
namespace L2
open PySem PySem.Spec PyProof.Rows
structure Ei (X : Cx) (ifs : List Expr) (σ : St) (H : Hp) (Q : Bool → Hp → Prop) : Prop where
 run : ∀ (pins : List (Addr × Obj)) (s : Shared), Inv X pins σ H s →
  wpAny (model X.prog X.w) X.A (forIn ifs true fun c r => if r = true then do let ok ← isTrue c X.env (eval c X.env); pure (ForInStep.yield ok) else pure (ForInStep.yield r)) (TP X pins σ Q) X.xe s
noncomputable def CEv (X : Cx) (N' : List Str) (scope : Scope) (e : Expr) (σ : St) (H : Hp) (Q : VK) : Prop := ∀ cl C s₀ H₀ ex, Ev (j1d X N' scope cl C s₀ H₀ ex) e σ H Q
noncomputable def CEg (X : Cx) (N' : List Str) (scope : Scope) (e : Expr) (v : V) (σ : St) (H : Hp) (Q : St → Hp → Prop) : Prop := ∀ cl C s₀ H₀ ex, Eg (j1d X N' scope cl C s₀ H₀ ex) e v σ H Q
noncomputable def CEi (X : Cx) (N' : List Str) (scope : Scope) (ifs : List Expr) (σ : St) (H : Hp) (Q : Bool → Hp → Prop) : Prop := ∀ cl C s₀ H₀ ex, Ei (j1d X N' scope cl C s₀ H₀ ex) ifs σ H Q
noncomputable def CompL (X : Cx) (N' : List Str) (scope : Scope) (tg : Expr) (ifs : List Expr) (elt : Expr) (J : It) (D : Addr) (after : Hp → Prop) (σ : St) (H : Hp) : Prop :=
 ∃ W : Nat → Nat → St → Hp → Prop, (∃ m, W 0 m σ H) ∧ ∀ i m σ' H', W i m σ' H' →
  (J.stop i H' ∧ after H') ∨ (J.go i H' ∧ ∃ N : St → Hp → Prop, (∀ σ' H', N σ' H' → ∃ m', m' < m ∧ W (i + 1) m' σ' H') ∧ ∀ x H2, J.yld i H' x H2 → CEg X N' scope tg x σ' H2 fun σ2 H3 => CEi X N' scope ifs σ2 H3 fun b H4 =>
   if b = true then CEv X N' scope elt σ2 H4 fun v H5 => ∃ ys, H5 D = some (.lst ys) ∧ ys.length < sizeLine ∧ N σ2 (upd H5 D (.lst (ys ++ [v]))) else N σ2 H4)
section
variable {X : Cx} {elt tg iter c : Expr} {ifs : List Expr} {scope : Scope} {pos p : Pos} {wi : TI} {σ : St} {H : Hp} {Q : VK} {T : Bool → Hp → Prop} {rest : List Stmt} {D : Ends}
theorem j2f (h : T true H) : Ei X [] σ H T := ⟨fun pins s I => pif_nil pins s σ H T I h⟩
theorem ev_comp (sc : Scope) (N N' : List Str) (n : Nat) (hi : PI X tg iter wi)
  (h : wi σ H fun J H1 => ∀ D, H1 D = none → CompL X N' scope tg ifs elt J D (fun H' => Q (.ref D) H') (σ ++ List.replicate n none) (upd H1 D (.lst [])))
  (hc : X.calm = true := by rfl) (hsc : X.env.scope = sc := by rfl) (hN : X.N = N := by rfl) (hk : compOk sc scope N N' = true := by decide +kernel) (hl : N'.length = N.length + n := by rfl)
  (hs : ∀ x, foldedSetIterable iter X.env x = pure x := by intro _; rfl) : Ev X (.ListComp elt [⟨tg, iter, ifs, 0⟩] scope pos) σ H Q :=
 j10 (pe_comp (g := fun v σ H Q => CEg X N' scope tg v σ H Q) (tc := fun σ H Q => CEi X N' scope ifs σ H Q) (te := fun σ H Q => CEv X N' scope elt σ H Q) sc N N' n hi
  (fun cl C s₀ H₀ ex pins s σ H v u Q I r h => (h cl C s₀ H₀ ex).run pins s u I r) (fun cl C s₀ H₀ ex pins s σ H Q I h => (h cl C s₀ H₀ ex).run pins s I) (fun cl C s₀ H₀ ex pins s σ H Q I h => (h cl C s₀ H₀ ex).run pins s I) hc hsc hN hk hl hs) h
theorem run_setC (i : Nat) {y : Str} {py spos : Pos} (sc : Scope) (N N' : List Str) (n : Nat) (hnd : X.N.Nodup) (hi : PI X tg iter wi)
  (h : wi σ H fun J H1 => ∀ A, H1 A = none → CompL X N' scope tg ifs elt J A (fun H' => Run X rest D (σ.set i (some (.ref A))) H') (σ ++ List.replicate n none) (upd H1 A (.lst [])))
  (hiN : X.N[i]? = some y := by rfl) (hy : Loc X.env.scope y := by first | exact Or.inl rfl | exact Or.inr rfl)
  (hsw : swapsWith (.ListComp elt [⟨tg, iter, ifs, 0⟩] scope pos) (some (.Name y py)) spos.line X.env = pure true := by rfl)
  (hc : X.calm = true := by rfl) (hsc : X.env.scope = sc := by rfl) (hN : X.N = N := by rfl) (hk : compOk sc scope N N' = true := by decide +kernel) (hl : N'.length = N.length + n := by rfl)
  (hs : ∀ x, foldedSetIterable iter X.env x = pure x := by intro _; rfl) (hf : X.fn y = true ∨ X.env.scope.names.lookup y = some .local := by first | exact .inl rfl | exact .inr rfl | assumption) :
  Run X (.Assign [.Name y py] (.ListComp elt [⟨tg, iter, ifs, 0⟩] scope pos) spos :: rest) D σ H :=
 j1j (ps_setC (g := fun v σ H Q => CEg X N' scope tg v σ H Q) (tc := fun σ H Q => CEi X N' scope ifs σ H Q) (te := fun σ H Q => CEv X N' scope elt σ H Q) sc N N' n hnd hiN hy hi
  (fun cl C s₀ H₀ ex pins s σ H v u Q I r h => (h cl C s₀ H₀ ex).run pins s u I r) (fun cl C s₀ H₀ ex pins s σ H Q I h => (h cl C s₀ H₀ ex).run pins s I) (fun cl C s₀ H₀ ex pins s σ H Q I h => (h cl C s₀ H₀ ex).run pins s I) hsw hc hsc hN hk hl hs hf) h
theorem comp_strL {N' : List Str} {x : Str} {z : Str} {A : Addr} {after : Hp → Prop} (f : Nat → V) (hz : z.cps.size < sizeLine) (hg : ∀ cl C s₀ H₀ ex v v0 H' R, R (σ ++ [some v]) H' → Eg (j1d X N' scope cl C s₀ H₀ ex) tg v (σ ++ [v0]) H' R)
  (he : ∀ cl C s₀ H₀ ex c H' R, (∃ j : Nat, z.cps[j]? = some c) → R (f c) H' → Ev (j1d X N' scope cl C s₀ H₀ ex) elt (σ ++ [some (.str ⟨#[c]⟩)]) H' R) (q : after (upd H A (.lst (z.cps.toList.map f)))) :
  CompL X N' scope tg [] elt (Its z) A after (σ ++ List.replicate 1 none) (upd H A (.lst [])) := by
 refine ⟨fun k m σ' H' => m = z.cps.size - k ∧ k ≤ z.cps.size ∧ (∃ v, σ' = σ ++ [v]) ∧ H' = upd H A (.lst ((z.cps.toList.take k).map f)), ⟨_, rfl, Nat.zero_le _, ⟨none, rfl⟩, by simp⟩, ?_⟩
 rintro k m σ' H' ⟨rfl, hk, ⟨v, rfl⟩, rfl⟩
 by_cases hlt : k < z.cps.size
 ·refine .inr ⟨hlt, fun σ' H' => (∃ v, σ' = σ ++ [v]) ∧ H' = upd H A (.lst ((z.cps.toList.take (k + 1)).map f)), fun σ' H' hh => ⟨z.cps.size - (k + 1), by omega, rfl, hlt, hh⟩, ?_⟩
  rintro x H2 ⟨rfl, c, hc, rfl⟩
  intro cl C s₀ H₀ ex
  refine hg cl C s₀ H₀ ex _ _ _ _ ?_
  intro cl C s₀ H₀ ex
  refine j2f ?_
  rw [if_pos rfl]
  intro cl C s₀ H₀ ex
  refine he cl C s₀ H₀ ex c _ _ ⟨k, hc⟩ ⟨_, j0b, ?_, ⟨_, rfl⟩, ?_⟩
  ·rw [List.length_map, List.length_take]
   have : z.cps.toList.length = z.cps.size := by simp
   omega
  ·rw [upd_upd]
   congr 2
   have hc' : z.cps.toList[k]? = some c := by simpa using hc
   rw [List.take_add_one, hc', List.map_append]
   rfl
 ·have e : k = z.cps.size := by omega
  subst e
  refine .inl ⟨Nat.le_refl _, ?_⟩
  have e2 : z.cps.toList.take z.cps.size = z.cps.toList := List.take_of_length_le (by simp)
  rw [e2]
  exact q
end
end L2
namespace L2
open PySem PySem.Spec PyProof.Rows
structure Has (P : Program) (w : World) (K : PySem.W.Frag) (mg : Str → Option Value) (base : Heap) (k : Nat) (x : Str) (ps : List Str) (sp : Sp) : Prop where
 ex : ∃ f fd, FnOk P w K mg base CX0 k f fd ps sp ∧ Binds K fd ps [] ∧ PySem.W.keepIn K (.ref f) = true ∧ mg x = some (.ref f)
theorem Has.mono {P : Program} {w : World} {K : PySem.W.Frag} {mg : Str → Option Value} {base : Heap} {j k : Nat} {x : Str} {ps : List Str} {sp : Sp} (h : Has P w K mg base j x ps sp) (le : j ≤ k) : Has P w K mg base k x ps sp :=
 let ⟨f, fd, F, r⟩ := h.ex; ⟨f, fd, F.mono le, r⟩
theorem j0v {X : Cx} {k : Nat} {ps : List Str} {sp : Sp} {x : Str} {e : Expr} {es : List Expr} {σ : St} {H : Hp} {Q : VK} {p pos : Pos} (G : Has X.prog X.w X.K X.mg X.base k x ps sp) (hr : Room k X.A)
  (h : Ea X (e :: es) σ H fun vs H1 => sp vs H1 Q E0) (hg : Gl X x := by rfl) (hdb : (x == ("__debug__" : Str)) = false := by decide) (hs : noStar (e :: es) = true := by rfl) : Ev X (.Call (.Name x p) (e :: es) [] pos) σ H Q :=
 let ⟨_, _, F, b, kp, m⟩ := G.ex; ev_call F hr m kp b pass0 h hg hdb hs
theorem _root_.L2.Room.u100 {k : Nat} {A : Around} (hr : Room k A) : A.units + 100 < cLine := by have := hr.un; omega
theorem _root_.L2.Room.u1 {k : Nat} {A : Around} (hr : Room k A) : A.units + 1 < cLine := by have := hr.un; omega
noncomputable def Df (K : PySem.W.Frag) (x : Str) (st : Stmt) : Prop := ∃ (f : Addr) (fd : FuncData), PySem.W.nsIn K mainGlobals x = some (some (.ref f)) ∧ Fun K x x st f fd
theorem df_mk {K : PySem.W.Frag} {x : Str} {st : Stmt} {f : Addr} {oc kV doc pm cdv ct : Value} {od an : Option Addr} {sl : Array (Option Value)} (a : PySem.W.nsIn K mainGlobals x = some (some (.ref f)))
  (l : K.lookup f = some ⟨oc, od, .func (PySem.W.fnOf x x (j22 st) (j1t st) (j0c st) .none kV doc pm an cdv ct), sl⟩) (c : PySem.W.codeIn K cdv x = true) (k : PySem.W.keepIn K (.ref f) = true) : Df K x st := ⟨f, _, a, fun_mk l c k⟩
structure Bun where
 f : Addr
 cdv : Value
 A : Around
 outer : List Env
 s : Shared
 H : Hp
 E : XK
noncomputable def cxB (N : List Str) (qual : Str) (scope : Scope) (P : Program) (w : World) (K : PySem.W.Frag) (mg : Str → Option Value) (base : Heap) (b : Bun) : Cx := (cxOf CX0 P w K mg base N qual scope b.f b.cdv b.A b.outer b.s b.H b.E).nox
noncomputable def En (Q : VK) : Ends := { nx := fun _ H' => Q .non H', rt := Q }
theorem Fun.gb {P : Program} {w : World} {K : PySem.W.Frag} {mg : Str → Option Value} {base : Heap} {x qual : Str} {st : Stmt} {f : Addr} {fd : FuncData} {N ps : List Str} {k : Nat} {sp : Sp} (F : Fun K x qual st f fd) (S : FnScope N ps (j0c st)) (len : ∀ vs H Q E, sp vs H Q E → vs.length = ps.length)
  (hbody : ∀ (b : Bun) (H : Hp) (vs : List V) (Q : VK) (E : XK), Room k (b.A.deeper (envOfC qual (j0c st) b.s.heap.objs.size b.f b.cdv)) → sp vs H Q E → Run (cxB N qual (j0c st) P w K mg base b) (j1t st) (En Q) (start N vs) H) : FnOk P w K mg base CX0 (k + 1) f fd ps sp :=
 F.go S len fun cdv A outer s H vs Q E hr hsp => hbody ⟨f, cdv, A, outer, s, H, E⟩ H vs Q E hr hsp
theorem len_s {us : List Value} {k : Nat} (h : us.length = k + 1) : ∃ a r, us = a :: r ∧ r.length = k := by
 cases us with
 | nil => cases h
 | cons a r => exact ⟨a, r, rfl, Nat.succ.inj h⟩
theorem bd1 {fd : FuncData} {ps : List Str} (f : ∀ a : Value, bindArgs fd ⟨[a], []⟩ = pure (ps.zip [a])) : ∀ us : List Value, us.length = 1 → bindArgs fd ⟨us, []⟩ = pure (ps.zip us) := fun us h => by
 obtain ⟨a, r0, e0, h0⟩ := len_s h
 have z := List.length_eq_zero_iff.mp h0
 subst z e0
 exact f a
theorem bd2 {fd : FuncData} {ps : List Str} (f : ∀ a b : Value, bindArgs fd ⟨[a, b], []⟩ = pure (ps.zip [a, b])) : ∀ us : List Value, us.length = 2 → bindArgs fd ⟨us, []⟩ = pure (ps.zip us) := fun us h => by
 obtain ⟨a, r0, e0, h0⟩ := len_s h
 obtain ⟨b, r1, e1, h1⟩ := len_s h0
 have z := List.length_eq_zero_iff.mp h1
 subst z e1 e0
 exact f a b
theorem bd3 {fd : FuncData} {ps : List Str} (f : ∀ a b c : Value, bindArgs fd ⟨[a, b, c], []⟩ = pure (ps.zip [a, b, c])) : ∀ us : List Value, us.length = 3 → bindArgs fd ⟨us, []⟩ = pure (ps.zip us) := fun us h => by
 obtain ⟨a, r0, e0, h0⟩ := len_s h
 obtain ⟨b, r1, e1, h1⟩ := len_s h0
 obtain ⟨c, r2, e2, h2⟩ := len_s h1
 have z := List.length_eq_zero_iff.mp h2
 subst z e2 e1 e0
 exact f a b c
theorem bd4 {fd : FuncData} {ps : List Str} (f : ∀ a b c d : Value, bindArgs fd ⟨[a, b, c, d], []⟩ = pure (ps.zip [a, b, c, d])) : ∀ us : List Value, us.length = 4 → bindArgs fd ⟨us, []⟩ = pure (ps.zip us) := fun us h => by
 obtain ⟨a, r0, e0, h0⟩ := len_s h
 obtain ⟨b, r1, e1, h1⟩ := len_s h0
 obtain ⟨c, r2, e2, h2⟩ := len_s h1
 obtain ⟨d, r3, e3, h3⟩ := len_s h2
 have z := List.length_eq_zero_iff.mp h3
 subst z e3 e2 e1 e0
 exact f a b c d
theorem Df.has {P : Program} {w : World} {K : PySem.W.Frag} {mg : Str → Option Value} {h base : Heap} {k : Nat} {x : Str} {st : Stmt} {ps : List Str} {sp : Sp} (d : Df K x st) (X : K.In h) (G : h.Ns mainGlobals mg)
  (hb : ∀ (kV doc pm : Value) (an : Option Addr) (cdv ct : Value) (us : List Value), us.length = ps.length → bindArgs (PySem.W.fnOf x x (j22 st) (j1t st) (j0c st) .none kV doc pm an cdv ct) ⟨us, []⟩ = pure (ps.zip us))
  (ok : ∀ {f : Addr} {fd : FuncData}, Fun K x x st f fd → FnOk P w K mg base CX0 k f fd ps sp) : Has P w K mg base k x ps sp :=
 let ⟨f, fd, a, F⟩ := d; ⟨f, fd, ok F, F.binds hb, F.kp, PySem.W.mg_of X G a⟩
theorem Df.law {P : Program} {w : World} {K : PySem.W.Frag} {mg : Str → Option Value} {h : Heap} {k : Nat} {x y : Str} {st : Stmt} {sp : Sp} {fa : Addr} (d : Df K x st) (X : K.In h) (G : h.Ns mainGlobals mg) (hfa : mg x = some (.ref fa))
  (hb : ∀ (kV doc pm : Value) (an : Option Addr) (cdv ct : Value) (s : Shared) (v : Value), BindsTo s (PySem.W.fnOf x x (j22 st) (j1t st) (j0c st) .none kV doc pm an cdv ct) ⟨[v], []⟩ [(y, v)])
  (ok : ∀ (base : Heap) {f : Addr} {fd : FuncData}, Fun K x x st f fd → FnOk P w K mg base CX0 k f fd [y] sp) :
  ∃ fd : FuncData, (∀ (s : Shared) (v : Value), BindsTo s fd ⟨[v], []⟩ [(y, v)]) ∧ ∀ base : Heap, K.In base → base.Ns mainGlobals mg → FnOk P w K mg base CX0 k fa fd [y] sp := by
 obtain ⟨f, fd, a, F⟩ := d
 have e := hfa.symm.trans (PySem.W.mg_of X G a)
 cases e
 obtain ⟨oc, od, kV, doc, pm, an, cdv, ct, osl, rfl, lk, hcd⟩ := id F.ex
 exact ⟨_, hb kV doc pm an cdv ct, fun base _ _ => ok base F⟩
end L2
namespace SetT
open PySem
noncomputable def lcg (m i : Nat) : Nat := (i * 5 + 1) % m
noncomputable def orb (m : Nat) : Nat → Nat → List Nat
 | 0, _ => []
 | n + 1, i => i :: orb m n (lcg m i)
noncomputable def itr (m : Nat) : Nat → Nat → Nat
 | 0, i => i
 | n + 1, i => itr m n (lcg m i)
theorem itr_add (m : Nat) : ∀ a b i, itr m (a + b) i = itr m b (itr m a i)
 | 0, b, i => by rw [Nat.zero_add]; rfl
 | a + 1, b, i => by
  rw [show a + 1 + b = (a + b) + 1 by omega]
  exact itr_add m a b (lcg m i)
theorem orb_mem (m : Nat) : ∀ n t i, t < n → itr m t i ∈ orb m n i
 | 0, _, _, h => by omega
 | n + 1, 0, i, _ => List.mem_cons_self
 | n + 1, t + 1, i, h => List.mem_cons_of_mem _ (orb_mem m n t (lcg m i) (by omega))
theorem orb_of (m : Nat) : ∀ n i j, j ∈ orb m n i → ∃ t, t < n ∧ itr m t i = j
 | 0, _, _, h => by cases h
 | n + 1, i, j, h => by
  rcases List.mem_cons.mp h with rfl | h
  ·exact ⟨0, Nat.succ_pos _, rfl⟩
  ·obtain ⟨t, ht, e⟩ := orb_of m n (lcg m i) j h
   exact ⟨t + 1, Nat.succ_lt_succ ht, e⟩
noncomputable def covers (m : Nat) : Bool := itr m m 0 == 0 && (List.range m).all fun j => (orb m m 0).contains j
theorem covers8 : covers 8 = true := by decide +kernel
theorem covers16 : covers 16 = true := by decide +kernel
theorem covers32 : covers 32 = true := by decide +kernel
theorem covers64 : covers 64 = true := by decide +kernel
theorem covers128 : covers 128 = true := by decide +kernel
theorem covers512 : covers 512 = true := by decide +kernel
noncomputable def Pow (m : Nat) : Prop := m = 8 ∨ m = 16 ∨ m = 32 ∨ m = 64 ∨ m = 128 ∨ m = 512
theorem Pow.covers {m : Nat} (h : Pow m) : SetT.covers m = true := by
 rcases h with rfl | rfl | rfl | rfl | rfl | rfl
 ·exact covers8
 ·exact covers16
 ·exact covers32
 ·exact covers64
 ·exact covers128
 ·exact covers512
theorem Pow.pos {m : Nat} (h : Pow m) : 8 ≤ m ∧ m ≤ 512 := by rcases h with rfl | rfl | rfl | rfl | rfl | rfl <;> decide
theorem Pow.mem {m i j : Nat} (h : Pow m) (hi : i < m) (hj : j < m) : j ∈ orb m m i := by
 have q := h.covers
 unfold SetT.covers at q
 rw [Bool.and_eq_true, List.all_eq_true, beq_iff_eq] at q
 obtain ⟨z, q⟩ := q
 obtain ⟨a, ha, ea⟩ := orb_of m m 0 i (List.contains_iff_mem.mp (q i (List.mem_range.mpr hi)))
 obtain ⟨b, hb, eb⟩ := orb_of m m 0 j (List.contains_iff_mem.mp (q j (List.mem_range.mpr hj)))
 rcases Nat.lt_or_ge b a with c | c
 ·have e : itr m (b + m - a) i = j := by
   rw [← ea, ← itr_add, show a + (b + m - a) = m + b by omega, itr_add, z, eb]
  rw [← e]
  exact orb_mem m m _ i (by omega)
 ·have e : itr m (b - a) i = j := by
   rw [← ea, ← itr_add, show a + (b - a) = b by omega, eb]
  rw [← e]
  exact orb_mem m m _ i (by omega)
noncomputable def spots (mask : Nat) : Nat → Nat → Nat → List Nat
 | 0, _, _ => []
 | n + 1, i, p => i :: spots mask n (SetTable.leap mask i p).1 (SetTable.leap mask i p).2
theorem spots_zero (mask : Nat) : ∀ n i, spots mask n i 0 = orb (mask + 1) n i
 | 0, _ => rfl
 | n + 1, i => by
  show i :: spots mask n ((i * 5 + 1 + 0 / 32) % (mask + 1)) (0 / 32) = i :: orb (mask + 1) n (lcg (mask + 1) i)
  rw [show (0 / 32 : Nat) = 0 by decide, Nat.add_zero, spots_zero mask n]
  rfl
theorem leap_lt {mask i p : Nat} : (SetTable.leap mask i p).1 < mask + 1 := Nat.mod_lt _ (Nat.succ_pos _)
theorem spots_late {mask : Nat} : ∀ (t n i p : Nat), i < mask + 1 → p < 32 ^ t → ∃ i', i' < mask + 1 ∧ ∀ j ∈ orb (mask + 1) n i', j ∈ spots mask (t + n) i p
 | 0, n, i, p, hi, hp => by
  have e : p = 0 := by simpa using hp
  subst e
  refine ⟨i, hi, fun j hj => ?_⟩
  rw [Nat.zero_add, spots_zero]
  exact hj
 | t + 1, n, i, p, hi, hp => by
  have h2 : p / 32 < 32 ^ t := by
   rw [Nat.div_lt_iff_lt_mul (by decide)]
   rw [Nat.pow_succ] at hp
   exact hp
  obtain ⟨i', h', q⟩ := spots_late t n (SetTable.leap mask i p).1 (p / 32) leap_lt h2
  refine ⟨i', h', fun j hj => ?_⟩
  rw [show t + 1 + n = (t + n) + 1 by omega]
  exact List.mem_cons_of_mem _ (q j hj)
theorem spots_all {mask i p j : Nat} (hm : Pow (mask + 1)) (hi : i < mask + 1) (hp : p < 2 ^ 64) (hj : j < mask + 1) : j ∈ spots mask (mask + 15) i p := by
 obtain ⟨i', h', q⟩ := spots_late (mask := mask) 14 (mask + 1) i p hi (Nat.lt_of_lt_of_le hp (by decide))
 have := q j (hm.mem h' hj)
 rwa [show 14 + (mask + 1) = mask + 15 by omega] at this
noncomputable abbrev Own := Array (Option Nat)
noncomputable def nil? (owner : Own) (j : Nat) : Bool := (owner.getD j (some 0)).isNone
theorem run_self (mask i : Nat) : i ≤ SetTable.runEnd mask i := by unfold SetTable.runEnd; split <;> omega
theorem free_none {mask : Nat} {owner : Own} : ∀ {fuel i p : Nat}, SetTable.layClean.free mask owner fuel i p = none → ∀ j ∈ spots mask fuel i p, nil? owner j = false
 | 0, _, _, _, j, hj => by cases hj
 | fuel + 1, i, p, h, j, hj => by
  unfold SetTable.layClean.free at h
  split at h
  ·cases h
  ·rename_i hf
   rcases List.mem_cons.mp hj with rfl | hj
   ·have := List.find?_eq_none.mp hf 0 (List.mem_range.mpr (by have := run_self mask j; omega))
    rw [Nat.add_zero] at this
    exact Bool.eq_false_iff.mpr this
   ·exact free_none (fuel := fuel) h j hj
theorem free_some {mask : Nat} {owner : Own} : ∀ {fuel i p j : Nat}, SetTable.layClean.free mask owner fuel i p = some j → nil? owner j = true
 | 0, _, _, _, h => by cases h
 | fuel + 1, i, p, j, h => by
  unfold SetTable.layClean.free at h
  split at h
  ·rename_i k hf
   cases h
   have := List.find?_some hf
   exact this
  ·exact free_some (fuel := fuel) h
theorem nil?_iff {owner : Own} {j : Nat} : nil? owner j = true ↔ owner[j]? = some none := by
 unfold nil?
 rw [Array.getD_eq_getD_getElem?]
 cases h : owner[j]? with
 | none => simp
 | some v => cases v <;> simp
structure Lies (m : Nat) (owner : Own) (k : Nat) : Prop where
 size : owner.size = m
 lt : ∀ (j v : Nat), owner[j]? = some (some v) → v < k
 has : ∀ v : Nat, v < k → ∃ j : Nat, owner[j]? = some (some v)
 inj : ∀ (i j v : Nat), owner[i]? = some (some v) → owner[j]? = some (some v) → i = j
theorem Lies.start (m : Nat) : Lies m (Array.replicate m none) 0 where
 size := by simp
 lt := fun j v h => by
  rw [Array.getElem?_replicate] at h
  split at h <;> cases h
 has := fun v h => by omega
 inj := fun i j v h => by
  rw [Array.getElem?_replicate] at h
  split at h <;> cases h
theorem Lies.put {m k j : Nat} {owner : Own} (L : Lies m owner k) (hj : owner[j]? = some none) : Lies m (owner.setIfInBounds j (some k)) (k + 1) := by
 have hlt : j < owner.size := by
  rcases Nat.lt_or_ge j owner.size with h | h
  ·exact h
  ·rw [Array.getElem?_eq_none h] at hj; cases hj
 have at' : ∀ i : Nat, (owner.setIfInBounds j (some k))[i]? = if j = i then some (some k) else owner[i]? := by
  intro i
  rw [Array.getElem?_setIfInBounds]
  split
  ·rename_i e; subst e; first | rfl | rw [if_pos hlt]
  ·rfl
 refine ⟨by rw [Array.size_setIfInBounds]; exact L.size, fun i v h => ?_, fun v h => ?_, fun a b v ha hb => ?_⟩
 ·rw [at'] at h
  split at h
  ·cases h; exact Nat.lt_succ_self _
  ·exact Nat.lt_succ_of_lt (L.lt i v h)
 ·rcases Nat.lt_succ_iff_lt_or_eq.mp h with h | rfl
  ·obtain ⟨i, hi⟩ := L.has v h
   refine ⟨i, ?_⟩
   rw [at', if_neg (fun e => by subst e; rw [hj] at hi; cases hi)]
   exact hi
  ·exact ⟨j, by rw [at', if_pos rfl]⟩
 ·rw [at'] at ha hb
  split at ha
  ·rename_i e
   cases ha
   split at hb
   ·rename_i e2; exact e.symm.trans e2
   ·have := L.lt b k hb; omega
  ·split at hb
   ·cases hb; have := L.lt a k ha; omega
   ·exact L.inj a b v ha hb
noncomputable def live (m : Nat) (owner : Own) : List (Nat × Nat) := (List.range m).filterMap fun j => (owner.getD j none).map (j, ·)
theorem getD_some {owner : Own} {j v : Nat} : owner.getD j none = some v ↔ owner[j]? = some (some v) := by
 rw [Array.getD_eq_getD_getElem?]
 cases h : owner[j]? with
 | none => simp
 | some x => simp
theorem mem_live {m : Nat} {owner : Own} {p : Nat × Nat} : p ∈ live m owner ↔ p.1 < m ∧ owner[p.1]? = some (some p.2) := by
 unfold live
 rw [List.mem_filterMap]
 constructor
 ·rintro ⟨j, hj, e⟩
  cases hv : owner.getD j none with
  | none => rw [hv] at e; cases e
  | some v =>
   rw [hv] at e
   cases e
   exact ⟨List.mem_range.mp hj, getD_some.mp hv⟩
 ·rintro ⟨h1, h2⟩
  exact ⟨p.1, List.mem_range.mpr h1, by rw [getD_some.mpr h2]; rfl⟩
theorem Lies.nodup {m k : Nat} {owner : Own} (L : Lies m owner k) : ((live m owner).map (·.2)).Nodup := by
 have q : ∀ l : List Nat, l.Nodup → ((l.filterMap fun j => (owner.getD j none).map (j, ·)).map (·.2)).Nodup := by
  intro l
  induction l with
  | nil => intro _; exact List.nodup_nil
  | cons a r ih =>
   intro hn
   rw [List.nodup_cons] at hn
   rw [List.filterMap_cons]
   cases hv : owner.getD a none with
   | none => exact ih hn.2
   | some v =>
    show (v :: (r.filterMap fun j => (owner.getD j none).map (j, ·)).map (·.2)).Nodup
    rw [List.nodup_cons]
    refine ⟨fun h => ?_, ih hn.2⟩
    obtain ⟨p, hp, e⟩ := List.mem_map.mp h
    obtain ⟨j, hj, e2⟩ := List.mem_filterMap.mp hp
    cases hw : owner.getD j none with
    | none => rw [hw] at e2; cases e2
    | some u =>
     rw [hw] at e2
     cases e2
     have e3 : u = v := e
     subst e3
     have := L.inj a j u (getD_some.mp hv) (getD_some.mp hw)
     subst this
     exact hn.1 hj
 exact q _ List.nodup_range
theorem Lies.perm {m k : Nat} {owner : Own} (L : Lies m owner k) : ((live m owner).map (·.2)).Perm (List.range k) := by
 rw [List.perm_ext_iff_of_nodup L.nodup List.nodup_range]
 intro v
 rw [List.mem_range, List.mem_map]
 constructor
 ·rintro ⟨p, hp, rfl⟩
  exact L.lt _ _ (mem_live.mp hp).2
 ·intro h
  obtain ⟨j, hj⟩ := L.has v h
  have hlt : j < m := by
   rw [← L.size]
   rcases Nat.lt_or_ge j owner.size with h | h
   ·exact h
   ·rw [Array.getElem?_eq_none h] at hj; cases hj
  exact ⟨(j, v), mem_live.mpr ⟨hlt, hj⟩, rfl⟩
theorem Lies.length {m k : Nat} {owner : Own} (L : Lies m owner k) : (live m owner).length = k := by
 have := L.perm.length_eq
 rwa [List.length_map, List.length_range] at this
theorem Lies.room {m k : Nat} {owner : Own} (L : Lies m owner k) (h : k < m) : ∃ j, j < m ∧ nil? owner j = true := by
 refine Classical.byContradiction fun hn => ?_
 have all : ∀ j, j < m → ∃ v, owner.getD j none = some v := by
  intro j hj
  have hs : j < owner.size := by rw [L.size]; exact hj
  cases hv : owner[j] with
  | none => exact absurd ⟨j, hj, nil?_iff.mpr (by rw [Array.getElem?_eq_getElem hs, hv])⟩ hn
  | some v => exact ⟨v, getD_some.mpr (by rw [Array.getElem?_eq_getElem hs, hv])⟩
 have len : ∀ l : List Nat, (∀ j ∈ l, j < m) → (l.filterMap fun j => (owner.getD j none).map (j, ·)).length = l.length := by
  intro l
  induction l with
  | nil => intro _; rfl
  | cons a r ih =>
   intro hl
   obtain ⟨v, hv⟩ := all a (hl a List.mem_cons_self)
   rw [List.filterMap_cons, hv]
   show (_ :: _).length = _
   rw [List.length_cons, List.length_cons, ih fun j hj => hl j (List.mem_cons_of_mem _ hj)]
 have e := len (List.range m) fun j hj => List.mem_range.mp hj
 have e2 := L.length
 unfold live at e2
 rw [e, List.length_range] at e2
 omega
theorem bits_lt (h : Int) : SetTable.bits h < 2 ^ 64 := by
 unfold SetTable.bits
 have h1 : 0 ≤ h % (2 ^ 64 : Int) := Int.emod_nonneg _ (by decide)
 have h2 : h % (2 ^ 64 : Int) < 2 ^ 64 := Int.emod_lt_of_pos _ (by decide)
 omega
theorem Lies.free {mask k : Nat} {owner : Own} (L : Lies (mask + 1) owner k) (hm : Pow (mask + 1)) (h : k < mask + 1) (x : Int) :
  ∃ j, SetTable.layClean.free mask owner (SetTable.turns mask) (SetTable.bits x % (mask + 1)) (SetTable.bits x) = some j ∧ owner[j]? = some none := by
 cases e : SetTable.layClean.free mask owner (SetTable.turns mask) (SetTable.bits x % (mask + 1)) (SetTable.bits x) with
 | some j => exact ⟨j, rfl, nil?_iff.mp (free_some e)⟩
 | none =>
  obtain ⟨j, hj, q⟩ := L.room h
  have := free_none e j (spots_all hm (Nat.mod_lt _ (Nat.succ_pos _)) (bits_lt x) hj)
  rw [q] at this
  cases this
noncomputable def layStep (mask : Nat) (acc : Option (Own × Nat)) (h : Int) : Option (Own × Nat) := do
 let (owner, k) ← acc
 let j ← SetTable.layClean.free mask owner (SetTable.turns mask) (SetTable.bits h % (mask + 1)) (SetTable.bits h)
 pure (owner.setIfInBounds j (some k), k + 1)
end SetT
namespace SetT
open PySem
noncomputable def byTx (w : World) : Bool := w.params.followText "set-order"
noncomputable def keyOf (e : Int × Value) : Str := match e.2 with
 | .str x _ => x
 | _ => ⟨#[]⟩
section
variable (prog : Program) (w : World)
noncomputable def Elt (e : Int × Value) : Prop := ∃ z t, e = ((strKind prog w).hash z, Value.str z t)
structure Tab (es : Array (Int × Value)) (t : SetTable) (zs : List Str) : Prop where
 elts : ∀ e ∈ es.toList, Elt prog w e
 keys : (es.toList.map keyOf).Perm zs
 nodup : zs.Nodup
 few : zs.length < 1000
 fits : t.fits es.size = true
 led : t.led = !byTx w
 plain : es = #[] ∨ t.plain = false
noncomputable def SetAt (h : Heap) (a : Addr) (zs : List Str) : Prop := ∃ o es ep t, h.get? a = some o ∧ o.ExactSet ∧ o.data = .set es ep t ∧ Tab prog w es t zs
end
section
variable {prog : Program} {w : World} {es : Array (Int × Value)} {t : SetTable} {zs : List Str} {h h' : Heap} {a : Addr}
theorem Tab.elems (T : Tab prog w es t zs) : ElemsOf (strKind prog w) es.toList := fun e he => by
 obtain ⟨z, u, rfl⟩ := T.elts e he
 exact ⟨⟨z, strKind_is _ _ _ _, rfl⟩, rfl⟩
theorem Tab.size (T : Tab prog w es t zs) : es.size = zs.length := by
 have := T.keys.length_eq
 rw [List.length_map, Array.length_toList] at this
 exact this
theorem Tab.few' (T : Tab prog w es t zs) : es.size < 1000 := by rw [T.size]; exact T.few
theorem Tab.scan (T : Tab prog w es t zs) : es.size < scanBound := by have := T.few'; unfold scanBound; omega
theorem Tab.perm {es' : Array (Int × Value)} {t' : SetTable} (T : Tab prog w es t zs) (p : es'.toList.Perm es.toList) (hf : t'.fits es'.size = true) (hl : t'.led = t.led) (hp : es' = #[] ∨ t'.plain = false) : Tab prog w es' t' zs :=
 ⟨fun e he => T.elts e (p.mem_iff.mp he), (p.map keyOf).trans T.keys, T.nodup, T.few, hf, hl.trans T.led, hp⟩
theorem SetAt.keep (S : SetAt prog w h a zs) (k : ∀ o, h.get? a = some o → h'.get? a = some o) : SetAt prog w h' a zs := let ⟨o, es, ep, t, h1, h2⟩ := S; ⟨o, es, ep, t, k o h1, h2⟩
theorem set_put {o : Obj} {ep : Nat} {es' : Array (Int × Value)} {t' : SetTable} {zs' : List Str} (ho : h.get? a = some o) (hx : o.ExactSet) (hd : o.data = .set es ep t) (T' : Tab prog w es' t' zs') :
  (h.update a (Obj.putSet es' t')).get? a = some { o with data := .set es' (ep + 1) t' } ∧ SetAt prog w (h.update a (Obj.putSet es' t')) a zs' := by
 have q := Heap.get?_update_self (Obj.putSet es' t') ho (by rw [putSet_of es' t' hd]; rfl)
 rw [putSet_of es' t' hd] at q
 exact ⟨q, _, es', ep + 1, t', q, hx, rfl, T'⟩
theorem is_key {e : Int × Value} (he : Elt prog w e) (z : Str) : (strKind prog w).is z e.2 = decide (z = keyOf e) := by
 obtain ⟨y, u, rfl⟩ := he
 exact KeyKind.is_eq_decide (strKind_is prog w y u) z
theorem find_none (T : Tab prog w es t zs) {z : Str} (hz : z ∉ zs) : es.toList.findIdx? (fun e => (strKind prog w).is z e.2) = none := by
 rw [List.findIdx?_eq_none_iff]
 intro e he
 rw [is_key (T.elts e he), decide_eq_false_iff_not]
 rintro rfl
 exact hz (T.keys.mem_iff.mp (List.mem_map_of_mem he))
theorem find_some (T : Tab prog w es t zs) {z : Str} (hz : z ∈ zs) : ∃ j, ∃ hj : j < es.toList.length, es.toList.findIdx? (fun e => (strKind prog w).is z e.2) = some j ∧ keyOf es.toList[j] = z := by
 obtain ⟨e, he, e2⟩ := List.mem_map.mp (T.keys.mem_iff.mpr hz)
 cases q : es.toList.findIdx? (fun e => (strKind prog w).is z e.2) with
 | none =>
  have := List.findIdx?_eq_none_iff.mp q e he
  rw [is_key (T.elts e he), decide_eq_false_iff_not] at this
  exact absurd e2.symm this
 | some j =>
  obtain ⟨hj, p, _⟩ := List.findIdx?_eq_some_iff_getElem.mp q
  rw [is_key (T.elts _ (List.getElem_mem hj)), decide_eq_true_eq] at p
  exact ⟨j, hj, rfl, p.symm⟩
theorem orIn_led (t : SetTable) (n : Nat) : (t.orStandIn n).led = t.led ∧ ((t.orStandIn n).plain = true → t.plain = true) := by
 unfold SetTable.orStandIn
 split
 ·exact ⟨rfl, id⟩
 ·exact ⟨rfl, fun h => by cases h⟩
theorem layNew_led (t : SetTable) (es : Array (Int × Value)) (x : Int) (v : Value) : (layNew t es x v).2.1.led = t.led := by
 unfold layNew
 split
 ·exact (orIn_led _ _).1
 ·rfl
theorem laid_led {mask f m : Nat} {l p : Bool} {hs : Array Int} {t' : SetTable} {o : Array Nat} (e : SetTable.laid mask f m l p hs = some (t', o)) : t'.led = l ∧ t'.plain = p := by
 unfold SetTable.laid at e
 cases c : SetTable.layClean mask hs with
 | none => rw [c] at e; cases e
 | some ow => rw [c] at e; cases e; exact ⟨rfl, rfl⟩
theorem relay_led (t : SetTable) (es : Array (Int × Value)) (n : Nat) (hp : t.plain = false) : (relayAll t es n).2.1.led = t.led ∧ (relayAll t es n).2.1.plain = false := by
 unfold relayAll
 split
 ·rename_i t' o e
  have q := laid_led e
  dsimp only
  split
  ·exact ⟨q.1, q.2.trans hp⟩
  ·exact ⟨rfl, rfl⟩
 ·exact ⟨rfl, rfl⟩
end
section
variable {prog : Program} {w : World} {A : Around} {E : Value → Shared → Prop} {s : Shared} {a : Addr} {zs : List Str}
theorem sz_ok {n : Nat} (h : n < 1001) : n ≤ sizeLine := by rw [sizeLine_eq]; omega
theorem wp_laid {g : Bool → Sem Unit} (hg : ∀ (b : Bool) (s₁ : Shared) (Q' : Unit → Shared → Prop), Q' () s₁ → wpAny (model prog w) A (g b) Q' E s₁)
  {o : Obj} {es : Array (Int × Value)} {ep : Nat} {t : SetTable} (ho : s.heap.get? a = some o) (hx : o.ExactSet) (hd : o.data = .set es ep t)
  {es1 : Array (Int × Value)} {t2 : SetTable} (T : Tab prog w es1 t2 zs) (hp : t2.plain = false) {c : Bool} {R : Option Bool → Shared → Prop}
  (k : ∀ h', Heap.SameBut a s.heap h' → SetAt prog w h' a zs → R (some true) { s with heap := h' }) :
  wpAny (model prog w) A (do
   storeSet a es1 t2
   if c = true then do
     g (relayAll t2 es1 (SetTable.grown es1.size)).2.2
     storeSet a (relayAll t2 es1 (SetTable.grown es1.size)).1 (relayAll t2 es1 (SetTable.grown es1.size)).2.1
     pure (some true)
    else pure (some true)) R E s := by
 refine wpAny_bind (wpAny_storeSet_of ho hd ?_ (sz_ok (Nat.lt_succ_of_lt T.few')))
 obtain ⟨q1, q2⟩ := set_put ho hx hd T
 have sb := Heap.SameBut.update s.heap a (Obj.putSet es1 t2)
 cases c with
 | false => exact wpAny_pure (k _ sb q2)
 | true =>
  have p := relayAll_perm t2 es1 (SetTable.grown es1.size)
  have T3 := T.perm p (relayAll_fits t2 es1 (SetTable.grown es1.size)) (relay_led t2 es1 _ hp).1 (.inr (relay_led t2 es1 _ hp).2)
  refine wpAny_bind (hg _ _ _ ?_)
  refine wpAny_bind (wpAny_storeSet_of q1 rfl ?_ (sz_ok (Nat.lt_succ_of_lt T3.few')))
  exact wpAny_pure (k _ (sb.trans (Heap.SameBut.update _ a _)) (set_put q1 hx rfl T3).2)
noncomputable def added (zs : List Str) (z : Str) : List Str := if z ∈ zs then zs else zs ++ [z]
theorem wp_add {z : Str} {tk : Tok} {Q : Bool → Shared → Prop} (S : SetAt prog w s.heap a zs) (hb : zs.length + 1 < 1000)
  (k : ∀ (b : Bool) h', Heap.SameBut a s.heap h' → SetAt prog w h' a (added zs z) → Q b { s with heap := h' }) :
  wpAny (model prog w) A (setAddHashed a (.str z tk) ((strKind prog w).hash z)) Q E s := by
 obtain ⟨o, es, ep, t, ho, hx, hd, T⟩ := S
 unfold setAddHashed setAddHashedIn
 refine wpAny_holding (wpAny_bind (wpAny_setState_of ho hd T.fits ?_))
 dsimp only
 rw [byScan_of (knd := strKind prog w) (x := .str z tk) rfl T.scan T.elems]
 simp only [↓reduceIte]
 unfold setAddByScan
 refine wpAny_bind (wpAny_bind (wpAny_rule (wpAny_bind (wpAny_setScan_of (knd := strKind prog w) (k := z) (strKind_is _ _ _ _) ho hd T.fits T.elems ?_))))
 by_cases hz : z ∈ zs
 ·obtain ⟨j, hj, e, _⟩ := find_some T hz
  rw [e]
  dsimp only
  refine wpAny_pure (wpAny_pure (k false s.heap (Heap.SameBut.refl a s.heap) ?_))
  unfold added
  rw [if_pos hz]
  exact ⟨o, es, ep, t, ho, hx, hd, T⟩
 ·rw [find_none T hz]
  dsimp only
  have gw : ∀ (b : Bool) (s₁ : Shared) (Q' : Unit → Shared → Prop), Q' () s₁ → wpAny (model prog w) A (match b with | true => rule "set.scan.the-table-gave-way" | false => pure ()) Q' E s₁ :=
   fun b s₁ Q' q => by cases b <;> first | exact wpAny_pure q | exact wpAny_rule q
  have p := layNew_perm t es ((strKind prog w).hash z) (.str z tk)
  have f := layNew_fits t es ((strKind prog w).hash z) (.str z tk)
  have l := layNew_led t es ((strKind prog w).hash z) (.str z tk)
  generalize layNew t es ((strKind prog w).hash z) (.str z tk) = L at p f l ⊢
  obtain ⟨es1, t1, wd, gv⟩ := L
  dsimp only at p f l ⊢
  rw [Array.toList_push] at p
  have tab : ∀ t2 : SetTable, t2.fits es1.size = true → t2.led = t1.led → t2.plain = false → Tab prog w es1 t2 (zs ++ [z]) := fun t2 h1 h2 h3 => {
   elts := fun e he => by
    rcases List.mem_append.mp (p.mem_iff.mp he) with he | he
    ·exact T.elts e he
    ·exact ⟨z, tk, List.mem_singleton.mp he⟩
   keys := by
    refine (p.map keyOf).trans ?_
    rw [List.map_append]
    exact T.keys.append (List.Perm.refl _)
   nodup := by
    rw [List.nodup_append]
    refine ⟨T.nodup, by simp, fun x hx y hy e => ?_⟩
    rw [List.mem_singleton] at hy
    subst hy e
    exact hz hx
   few := by rw [List.length_append]; exact hb
   fits := h1
   led := h2.trans (l.trans T.led)
   plain := .inr h3 }
  have fin : ∀ h', Heap.SameBut a s.heap h' → SetAt prog w h' a (zs ++ [z]) → Q true { s with heap := h' } := fun h' q1 q2 => k true h' q1 (by unfold added; rw [if_neg hz]; exact q2)
  refine wpAny_bind (gw _ _ _ ?_)
  split
  ·rename_i hp
   refine wpAny_bind ?_
   rw [hashByValue_scannable 8 rfl]
   refine wpAny_pure ?_
   refine wp_laid gw ho hx hd (tab { t1 with plain := false } (SetTable.fits_plain_off f) rfl rfl) rfl fun h' q1 q2 => ?_
   dsimp only
   exact wpAny_pure (fin h' q1 q2)
  ·rename_i hp
   refine wpAny_bind (wpAny_pure ?_)
   simp only [↓reduceIte]
   refine wp_laid gw ho hx hd (tab t1 f rfl (Bool.eq_false_iff.mpr hp)) (Bool.eq_false_iff.mpr hp) fun h' q1 q2 => ?_
   dsimp only
   exact wpAny_pure (fin h' q1 q2)
theorem pick_perm {α : Type} : ∀ (l : List α) (j : Nat) (hj : j < l.length), (l[j] :: l.eraseIdx j).Perm l
 | [], _, h => by simp at h
 | x :: r, 0, _ => List.Perm.refl _
 | x :: r, j + 1, h => (List.Perm.swap x _ _).trans ((pick_perm r j (Nat.lt_of_succ_lt_succ h)).cons x)
end
end SetT
namespace SetT
open PySem
theorem pick_go {α : Type} (next : Nat → Nat) : ∀ (fuel k : Nat) (left : List α) (out : Array α), left.length ≤ fuel → (pickOrder.go next fuel k left out).toList.Perm (out.toList ++ left)
 | 0, k, left, out, h => by
  have : left = [] := List.length_eq_zero_iff.mp (by omega)
  subst this
  unfold pickOrder.go
  simp
 | fuel + 1, k, left, out, h => by
  unfold pickOrder.go
  cases e : left[next k % left.length]? with
  | none =>
   have : left = [] := by
    cases left with
    | nil => rfl
    | cons x r =>
     have hl : next k % (x :: r).length < (x :: r).length := Nat.mod_lt _ (by simp)
     rw [List.getElem?_eq_getElem hl] at e
     cases e
   subst this
   simp
  | some x =>
   dsimp only
   obtain ⟨hl, e2⟩ := List.getElem?_eq_some_iff.mp e
   refine (pick_go next fuel (k + 1) _ _ (by rw [List.length_eraseIdx, if_pos hl]; omega)).trans ?_
   rw [Array.toList_push, List.append_assoc]
   refine List.Perm.append_left _ ?_
   have := pick_perm left _ hl
   rw [e2] at this
   exact this
theorem pick_ok {α : Type} (next : Nat → Nat) (xs : Array α) : (pickOrder next xs).toList.Perm xs.toList := by
 have := pick_go next xs.size 0 xs.toList #[] (by simp)
 simpa [pickOrder] using this
section
variable {prog : Program} {w : World} {A : Around} {E : Value → Shared → Prop} {s : Shared} {a : Addr} {zs : List Str}
theorem wp_choose {src : Source} {n : Nat} {Q : Nat → Shared → Prop} (hn : n ≠ 0) (h : ∀ i d, i < n → Q i { s with drawn := d }) : wpAny (model prog w) A (choose src n) Q E s :=
 fun Γ p _ => ⟨hn, h _ _ (Nat.mod_lt _ (Nat.pos_of_ne_zero hn))⟩
theorem wp_draw {α : Type} : ∀ (n : Nat) (xs : List α) (s : Shared) (Q : List α → Shared → Prop), xs.length ≤ n → (∀ ys d, ys.Perm xs → Q ys { s with drawn := d }) → wpAny (model prog w) A (drawOrder n xs) Q E s
 | 0, xs, s, Q, h, k => by
  have : xs = [] := List.length_eq_zero_iff.mp (by omega)
  subst this
  unfold drawOrder
  exact wpAny_pure (k [] s.drawn (List.Perm.refl _))
 | n + 1, [], s, Q, h, k => by
  unfold drawOrder
  exact wpAny_pure (k [] s.drawn (List.Perm.refl _))
 | n + 1, x :: r, s, Q, h, k => by
  unfold drawOrder
  refine wpAny_bind (wp_choose (by simp) fun i d hi => ?_)
  rw [List.getElem?_eq_getElem hi]
  dsimp only
  refine wpAny_bind (wp_draw n _ _ _ (by rw [List.length_eraseIdx, if_pos hi]; omega) fun ys d2 p => ?_)
  exact wpAny_pure (k _ d2 ((p.cons _).trans (pick_perm _ i hi)))
theorem wp_text {Q : Bool → Shared → Prop} (k : Q (byTx w) s) : wpAny (model prog w) A setsByText Q E s := by
 unfold setsByText
 exact wpAny_bind (wpAny_askSetting (wpAny_pure k))
variable {o : Obj} {es : Array (Int × Value)} {ep : Nat} {t : SetTable}
end
end SetT
namespace SetT
open PySem
open Builtin.Frozenset
section
variable {prog : Program} {w : World} {A : Around} {E : Value → Shared → Prop} {s : Shared} {a : Addr} {zs : List Str}
structure Bare (w : World) (t : SetTable) : Prop where
 place : t.place = #[]
 dummies : t.dummies = #[]
 led : t.led = !byTx w
 plain : t.plain = true
theorem Bare.tab {t : SetTable} (B : Bare w t) : Tab prog w #[] t [] :=
 ⟨fun e he => by simp at he, by simp, List.nodup_nil, by decide, by unfold SetTable.fits SetTable.fill; rw [B.place, B.dummies]; simp, B.led, .inl rfl⟩
variable {o : Obj} {ep : Nat} {t : SetTable}
end
end SetT
namespace SetT
open PySem
open Builtin.Frozenset
section
variable {prog : Program} {w : World} {A : Around} {E : Value → Shared → Prop} {s : Shared} {a r : Addr} {za zr : List Str}
end
end SetT
namespace SetT
open PySem
open Builtin.Frozenset
noncomputable def made (zs : List Str) : List Str := zs.foldl added []
theorem added_mem (zs : List Str) (z y : Str) : y ∈ added zs z ↔ y ∈ zs ∨ y = z := by
 unfold added
 split
 ·rename_i h
  exact ⟨.inl, fun q => q.elim id fun e => e ▸ h⟩
 ·rw [List.mem_append, List.mem_singleton]
theorem added_len (zs : List Str) (z : Str) : (added zs z).length ≤ zs.length + 1 := by
 unfold added
 split <;> simp
theorem j25 : ∀ (ps zs : List Str) (y : Str), y ∈ ps.foldl added zs ↔ y ∈ zs ∨ y ∈ ps
 | [], zs, y => by simp
 | p :: r, zs, y => by
  rw [List.foldl_cons, j25 r, added_mem, List.mem_cons]
  constructor
  ·rintro ((h | h) | h)
   ·exact .inl h
   ·exact .inr (.inl h)
   ·exact .inr (.inr h)
  ·rintro (h | h | h)
   ·exact .inl (.inl h)
   ·exact .inl (.inr h)
   ·exact .inr h
theorem j23 : ∀ (ps zs : List Str), (ps.foldl added zs).length ≤ zs.length + ps.length
 | [], zs => by simp
 | p :: r, zs => by
  rw [List.foldl_cons, List.length_cons]
  have h1 := j23 r (added zs p)
  have h2 := added_len zs p
  omega
theorem made_mem (zs : List Str) (y : Str) : y ∈ made zs ↔ y ∈ zs := by
 unfold made
 rw [j25]
 simp
theorem made_len (zs : List Str) : (made zs).length ≤ zs.length := by
 have := j23 zs []
 simpa [made] using this
section
variable {prog : Program} {w : World} {A : Around} {E : Value → Shared → Prop} {s : Shared}
noncomputable def j1s (w : World) : Obj := { cls := .type "set", dict := none, data := .set #[] 0 (.fresh 0 0 (!byTx w)) }
theorem setNew_at {h : Heap} {a : Addr} (e : h.get? a = some (j1s w)) : SetAt prog w h a [] := ⟨_, _, _, _, e, ⟨rfl, rfl, rfl⟩, rfl, Bare.tab ⟨rfl, rfl, rfl, rfl⟩⟩
theorem code_new1 (v : Value) {Q : Value → Shared → Prop} (k : Q (.ref s.heap.objs.size) { s with heap := s.heap.push (j1s w) }) :
  codeAny (model prog w) A (.call (.builtin "set.__new__") ⟨[.type "set", v], []⟩) (wants Q E) s := by
 refine codeAny_of_tree ?_
 show wpAny _ A.in1 (checkBuiltinCall "set.__new__" ⟨[.type "set", v], []⟩ >>= fun _ => again (.builtin "set.__new__" ⟨[.type "set", v], []⟩)) _ _ s
 refine wpAny_bind (wpAny_of_eq (F.newCall_set_1 v) (wpAny_pure ⟨plainId_quiet F.plain_set_new _, codeAny_builtin F.entry_set_new ?_⟩))
 rw [Around.under_plainId F.plain_set_new _]
 unfold Builtin.«set.__new__» newClass
 dsimp only
 refine wpAny_bind (wpAny_bind (wpAny_of_eq (show isType (.type "set") = pure true from rfl) (wpAny_pure ?_)))
 simp only [Bool.not_true, Bool.false_eq_true, if_false]
 unfold newSet
 refine wpAny_bind (wpAny_bind (wp_text ?_))
 dsimp only
 simp only [newObj]
 refine wpAny_bind (wpAny_alloc (wpAny_pure ?_))
 exact wpAny_pure k
variable {R : Result → Shared → Prop} {I : Addr} {fp wr : List Addr} {G : Array GenState → Array GenState → Prop} {n : Nat} {P : Nat → Value → Prop} {St : Nat → Shared → Prop}
theorem code_addLoop (W : WalksS prog w A.in1 I fp wr G n P St) (a : Addr) (ha : a ∉ fp) (zs : List Str) (hn : zs.length = n) (hval : ∀ i v, P i v → ∃ z t, zs[i]? = some z ∧ v = Value.str z t) (hb : n < 900) :
  ∀ (k i : Nat) (s : Shared), n - i = k → i ≤ n → St i s → SetAt prog w s.heap a (made (zs.take i)) → (∀ s', Moved (a :: wr) G s s' → SetAt prog w s'.heap a (made zs) → R (.ok (.ret .none)) s') →
   codeAny (model prog w) A (.builtin "set.update.loop" ⟨[.ref a, .ref I], []⟩) R s := by
 have haw : a ∉ wr := fun h => ha (W.sub _ h)
 have hsub : ∀ b ∈ wr, b ∈ a :: wr := fun b hb => List.mem_cons_of_mem _ hb
 intro k
 induction k with
 | zero =>
  intro i s hk hi st S k2
  have e : i = n := by omega
  subst e
  refine codeAny_builtin PyProof.Rows.F.entry_set_update_loop ?_
  rw [Around.under_plainId PyProof.Rows.F.plain_set_update_loop _]
  show wpAny _ A.in1 (pyNext (.ref I) >>= _) _ _ s
  refine wpAny_bind (W.done s _ _ st fun s' m => ?_)
  show wpAny _ A.in1 (ret Value.none) _ _ s'
  rw [List.take_of_length_le (by omega)] at S
  exact wpAny_pure (k2 s' (m.mono hsub) (S.keep fun o e => m.heap a o haw e))
 | succ k ih =>
  intro i s hk hi st S k2
  have hlt : i < n := by omega
  refine codeAny_builtin PyProof.Rows.F.entry_set_update_loop ?_
  rw [Around.under_plainId PyProof.Rows.F.plain_set_update_loop _]
  show wpAny _ A.in1 (pyNext (.ref I) >>= _) _ _ s
  refine wpAny_bind (W.item i s _ _ hlt st fun v s' hP st' m => ?_)
  obtain ⟨z, t, hz, rfl⟩ := hval i v hP
  have S' : SetAt prog w s'.heap a (made (zs.take i)) := S.keep fun o e => m.heap a o haw e
  show wpAny _ A.in1 (holding [Value.str z t] (setAdd a (.str z t)) >>= _) _ _ s'
  refine wpAny_bind (wpAny_holding ?_)
  unfold setAdd
  refine wpAny_holding (wpAny_bind ((strKind prog w).pyHash (k := z) (strKind_is _ _ _ _) ?_))
  have hl : (made (zs.take i)).length ≤ i := Nat.le_trans (made_len _) (by rw [List.length_take]; omega)
  refine wp_add (s := { s' with toks := s'.toks + 1 }) S' (by omega) fun b h' sb S2 => ?_
  have S3 : SetAt prog w h' a (made (zs.take (i + 1))) := by
   rw [List.take_add_one, hz]
   unfold made
   rw [List.foldl_append]
   exact S2
  refine wpAny_pure ⟨plainId_quiet PyProof.Rows.F.plain_set_update_loop _, ih (i + 1) _ (by omega) hlt (W.frame _ s' _ _ st' (Nat.le_succ _) fun c hc o e => ?_) S3 fun s2 m2 S4 => ?_⟩
  ·rw [sb.2 c fun h => ha (h ▸ hc)]
   exact e
  ·refine k2 s2 (Moved.trans W.gtrans ((m.mono hsub).then_heap (Nat.le_succ _) fun c o hc e => ?_) m2) S4
   rw [sb.2 c fun h => hc (h ▸ List.mem_cons_self)]
   exact e
theorem call_set {Q : Value → Shared → Prop} {l : Addr} {items : Array Value} {zs : List Str} (hh : A.handled = none) (hl : s.heap.IsList l items) (hi : ∀ (i : Nat) v, items[i]? = some v → ∃ z t, zs[i]? = some z ∧ v = Value.str z t) (hz : zs.length = items.size) (hb : items.size < 900)
  (k : ∀ h' tk, (∀ b o, s.heap.get? b = some o → h'.get? b = some o) → SetAt prog w h' s.heap.objs.size (made zs) → Q (.ref s.heap.objs.size) { s with heap := h', toks := tk }) : wpAny (model prog w) A (call (.type "set") [.ref l]) Q E s := by
 obtain ⟨c, tl, hmro⟩ := F.called_set.mro
 have hmade := F.called_set.made
 have hsub := F.called_set.sub
 refine wpAny_call (codeAny_of_tree ?_)
 show wpAny _ _ (callAny (.type "set") _) _ _ _
 refine wpAny_pure ⟨Code.quiet_builtin _ (by decide +kernel), codeAny_builtin F.entry_type_call ?_⟩
 rw [Around.under_plain (weight_type_call_type "set" [.ref l] []) rfl]
 have h1 := F.called_set.notType
 have h2 := F.called_set.canCreate
 have h3 := F.typeCall_set_1 (.ref l)
 repeat (any_goals (first | assumption | wp_step))
 refine codeAny_mono (code_new1 (.ref l) (E := E) (Q := fun v s₁ => v = .ref s.heap.objs.size ∧ s₁ = { s with heap := s.heap.push (j1s w) }) ⟨rfl, rfl⟩) fun r s₁ hr => ?_
 cases r with
 | error e => exact hr
 | ok fl =>
  cases fl with
  | ret v =>
   obtain ⟨rfl, rfl⟩ := hr
   have hS : (s.heap.push (j1s w)).get? s.heap.objs.size = some (j1s w) := Heap.get?_push_size _ rfl
   have hT : Shared.TypeIs { s with heap := s.heap.push (j1s w) } (.ref s.heap.objs.size) "set" := ⟨_, hS, rfl⟩
   have hli := F.called_set.init.lookup
   have hbi := F.called_set.init.bind (.ref s.heap.objs.size)
   repeat (any_goals (first | assumption | wp_step))
   refine codeAny_mono (codeAny_call_builtin (R := wants (fun r s₂ => r = .none ∧ ∃ h' tk, s₂ = { s with heap := h', toks := tk } ∧ (∀ b o, s.heap.get? b = some o → h'.get? b = some o) ∧ SetAt prog w h' s.heap.objs.size (made zs)) E) F.called_set.init.plain F.entry_set_init (check_set_init_1 hT ?_)) fun r2 s2 hr2 => ?_
   ·obtain ⟨ol, hol, hcl, nl, hdl⟩ := hl
    obtain ⟨ocls, odict, odata, oslots⟩ := ol
    simp only at hcl hdl
    subst hcl hdl
    have hol' : (s.heap.push (j1s w)).get? l = some { cls := .type "list", dict := odict, data := .seq items nl, slots := oslots } := Heap.get?_push_of_some _ hol
    have n1 := F.sub_list_set
    have n2 := F.sub_list_frozenset
    have n3 : (Value.type "list" == Value.type "dict") = false := by decide
    have hl1 : (s.heap.push (j1s w)).IsList l items := ⟨_, hol', rfl, nl, rfl⟩
    have hS2 : (s.heap.push (j1s w)).get? s.heap.objs.size = some { cls := .type "set", dict := none, data := .set #[] 0 (.fresh 0 0 (!byTx w)) } := hS
    unfold Builtin.«set.__init__» noKeywords updateFrom
    generalize hPI : pyIter = PI
    wp_walk
    subst hPI
    refine wpAny_pyIter_list hl1 ?_
    refine wpAny_bind (wpAny_runValue ?_)
    have hlt : l < s.heap.objs.size := Heap.lt_size hol
    have hne : l ≠ (s.heap.push (j1s w)).objs.size := by
     rw [Heap.size_push]
     exact Nat.ne_of_lt (Nat.lt_succ_of_lt hlt)
    have hSf : s.heap.objs.size ∉ [(s.heap.push (j1s w)).objs.size, l] := by
     rw [Heap.size_push]
     intro h
     rcases List.mem_cons.mp h with h | h
     ·exact absurd h (Nat.ne_of_lt (Nat.lt_succ_self _))
     ·rw [List.mem_singleton] at h
      exact absurd h (Nat.ne_of_gt hlt)
    refine code_addLoop ((Walks.list (by simp [hh]) _ l hne items).toS) s.heap.objs.size hSf zs hz (fun i v hv => hi i v hv) hb (items.size - 0) 0 _ (by omega) (Nat.zero_le _)
     ⟨⟨_, Heap.get?_push_size _ rfl, rfl, rfl⟩, (hl1.push _)⟩ ?_ fun s' m S' => ?_
    ·exact setNew_at (Heap.get?_push_of_some _ hS)
    ·obtain ⟨h', g', d', tk', os'⟩ := s'
     have eg : g' = s.gens := m.gens
     have ed : d' = s.drawn := m.drawn
     have eo : os' = s.os := m.os
     subst eg ed eo
     refine wpAny_pure ?_
     refine wpAny_pure ⟨rfl, h', tk', rfl, fun b o e => ?_, S'⟩
     have hb := Heap.lt_size e
     refine m.heap b o (fun h => ?_) (Heap.get?_push_of_some _ (Heap.get?_push_of_some _ e))
     rw [Heap.size_push] at h
     rcases List.mem_cons.mp h with h | h
     ·exact absurd h (Nat.ne_of_lt hb)
     ·rw [List.mem_singleton] at h
      exact absurd h (Nat.ne_of_lt (Nat.lt_succ_of_lt hb))
   ·cases r2 with
    | error e => exact hr2
    | ok fl2 =>
     cases fl2 with
     | ret r =>
      obtain ⟨rfl, h', tk, rfl, q1, q2⟩ := hr2
      repeat (any_goals (first | assumption | wp_step))
      exact k _ _ q1 q2
     | _ => exact hr2.elim
  | _ => exact hr.elim
end
end SetT
namespace SetT
open PySem
open Builtin.Frozenset
theorem slot_next : Slot "set_iterator" "__next__" "set_iterator.__next__" :=
 .of (owner := "set_iterator") (n := "__next__") (by rw [typeLookup_type, builtinLookup_eq_fast]; kernel_rfl) (by decide +kernel) (by decide +kernel) (by decide +kernel)
  (by first | exact .inl (by decide +kernel) | exact .inr (by decide +kernel)) (by rw [isSubtype_type]; kernel_rfl)
theorem entry_next : entryFor table "set_iterator.__next__" = some Builtin.«set_iterator.__next__» := entryFor_of_fast (by kernel_rfl)
theorem args_next (a : Value) : argsOk "set_iterator.__next__" ⟨[a], []⟩ := by unfold argsOk; kernel_rfl
theorem entry_iter : entryFor table "set.__iter__" = some Builtin.«frozenset.__iter__» :=
 entryFor_alias (id' := "frozenset.__iter__") (by kernel_rfl) rfl (by decide +kernel) (by kernel_rfl)
noncomputable def itO (first : Value) (i : Nat) (a : Addr) (n ep : Nat) : Obj := { cls := .type "set_iterator", data := .fields #[first, .int i 0, .ref a, .int n 0, .int ep 0] }
noncomputable def tupO (ys : List Nat) : Obj := { cls := .type "tuple", data := .seq (ys.map fun (i : Nat) => rawInt i).toArray }
inductive Way (w : World) (h : Heap) (a tp : Addr) (es : Array (Int × Value)) (ep : Nat) (t : SetTable) (ws : List (Int × Value)) (i : Nat) : Value → Prop where
 | drawn (ys : List Nat) (ht : h.get? tp = some (tupO ys)) (hl : ys.length = es.size) (hw : ∀ j : Nat, ∀ y, ys[j]? = some y → es[y]? = ws[j]?) : Way w h a tp es ep t ws i (.ref tp)
 | text (c : Int) (hb : byTx w = true) (hw : ws = (pickOrder (w.params.setOrder a ep) es).toList) : Way w h a tp es ep t ws i (.int c 0)
 | one (c : Nat) (hb : byTx w = false) (hs : es.size ≤ 1) (hw : ws = es.toList) (hc : SetTable.below t.place c = i) : Way w h a tp es ep t ws i (.int c 0)
section
variable {prog : Program} {w : World} {A : Around} {E : Value → Shared → Prop} {s : Shared} {a tp it : Addr} {zs : List Str} {o : Obj} {es : Array (Int × Value)} {ep : Nat} {t : SetTable} {ws : List (Int × Value)} {i : Nat} {first : Value}
theorem below_one (j c : Nat) : SetTable.below #[j] c = if j < c then 1 else 0 := by
 unfold SetTable.below
 show SetTable.below.go #[j] c 1 0 1 = _
 unfold SetTable.below.go
 simp only [Nat.zero_lt_one, if_true]
 show (if (#[j] : Array Nat).getD 0 c < c then SetTable.below.go #[j] c 0 1 1 else SetTable.below.go #[j] c 0 0 0) = _
 rw [show (#[j] : Array Nat).getD 0 c = j by rfl]
 split <;> rfl
theorem Way.keep {h h' : Heap} (W : Way w h a tp es ep t ws i first) (k : ∀ o, h.get? tp = some o → h'.get? tp = some o) : Way w h' a tp es ep t ws i first := by
 cases W with
 | drawn ys ht hl hw => exact .drawn ys (k _ ht) hl hw
 | text c hb hw => exact .text c hb hw
 | one c hb hs hw hc => exact .one c hb hs hw hc
theorem up0 {h : Heap} {n : Nat} (x : Value) (e : h.get? it = some (itO first i a n ep)) : (h.update it (Obj.mapFields (·.setIfInBounds 0 x))).get? it = some (itO x i a n ep) := Heap.get?_update_self _ e rfl
theorem up1 {h : Heap} {n : Nat} (e : h.get? it = some (itO first i a n ep)) : (h.update it (Obj.mapFields (·.setIfInBounds 1 (rawInt ((i : Int) + 1))))).get? it = some (itO first (i + 1) a n ep) := Heap.get?_update_self _ e rfl
theorem one_of {p : Array Nat} (h : p.size = 1) : ∃ j, p = #[j] := by
 obtain ⟨l⟩ := p
 match l, h with
 | [j], _ => exact ⟨j, rfl⟩
theorem place_size (T : Tab prog w es t zs) : t.place.size = es.size := by
 have := T.fits
 unfold SetTable.fits at this
 rw [Bool.and_eq_true, beq_iff_eq] at this
 exact this.1
theorem wp_next_item {Q : Option Value → Shared → Prop} (hi : s.heap.get? it = some (itO first i a es.size ep)) (ho : s.heap.get? a = some o) (hd : o.data = .set es ep t) (T : Tab prog w es t zs) (hW : Way w s.heap a tp es ep t ws i first)
  (hne : tp ≠ it) (hp : ws.Perm es.toList) {e : Int × Value} (he : ws[i]? = some e) (k : ∀ h' first', Heap.SameBut it s.heap h' → h'.get? it = some (itO first' (i + 1) a es.size ep) → Way w h' a tp es ep t ws (i + 1) first' → Q (some e.2) { s with heap := h' }) :
  wpAny (model prog w) A (pyNext (.ref it)) Q E s := by
 have hT : s.TypeIs (.ref it) "set_iterator" := ⟨_, hi, rfl⟩
 unfold pyNext
 refine wpAny_bind (wpAny_attempt (wpAny_callSpecial?_slot (name := Str.ofString "__next__") hT slot_next (wpAny_call_entry slot_next hT entry_next ?_ (args_next _))))
 unfold Builtin.«set_iterator.__next__»
 refine wpAny_bind (wpAny_pure ?_)
 refine wpAny_bind (wpAny_fieldsOf hi rfl ?_)
 dsimp only
 refine wpAny_bind (wpAny_setEntries_of ho hd T.fits ?_)
 rw [if_neg (by simp)]
 have sb0 : ∀ x, Heap.SameBut it s.heap ((s.heap.update it (Obj.mapFields (·.setIfInBounds 0 x))).update it (Obj.mapFields (·.setIfInBounds 1 (rawInt ((i : Int) + 1))))) := fun x => (Heap.SameBut.update ..).trans (Heap.SameBut.update ..)
 have hil : i < es.size := by
  have h1 : ws.length = es.size := by simpa using hp.length_eq
  rcases Nat.lt_or_ge i ws.length with h | h
  ·omega
  ·rw [List.getElem?_eq_none h] at he; cases he
 have sb1 : Heap.SameBut it s.heap (s.heap.update it (Obj.mapFields (·.setIfInBounds 1 (rawInt ((i : Int) + 1))))) := Heap.SameBut.update ..
 cases hW with
 | drawn ys ht hl hw =>
  dsimp only
  have hy : ys[i]? = some (ys[i]'(by omega)) := List.getElem?_eq_getElem _
  generalize ys[i]'(by omega) = y at hy
  refine wpAny_bind (wpAny_seqItems ht rfl ?_)
  dsimp only
  have e1 : (ys.map fun (i : Nat) => rawInt i).toArray[(i : Int).toNat]? = some (.int y 0) := by
   rw [Int.toNat_natCast, List.getElem?_toArray, List.getElem?_map, hy]
   rfl
  rw [e1]
  dsimp only
  unfold setNextDrawn
  refine wpAny_bind (wpAny_bind (wpAny_setState_of ho hd T.fits ?_))
  dsimp only
  rw [if_neg (by simp)]
  have e2 : es[(y : Int).toNat]? = some e := by
   rw [Int.toNat_natCast, hw i y hy]
   exact he
  rw [e2]
  dsimp only
  refine wpAny_pure (wpAny_bind (wpAny_setField hi rfl (by simp) ?_))
  refine wpAny_pure ⟨_, rfl, wpAny_pure (k _ _ sb1 (up1 hi) (.drawn ys ?_ hl hw))⟩
  rw [sb1.2 tp hne]
  exact ht
 | text c hb hw =>
  dsimp only
  unfold setNext
  refine wpAny_bind (wpAny_bind (wpAny_setState_of ho hd T.fits ?_))
  dsimp only
  refine wpAny_bind (wp_text ?_)
  rw [hb]
  simp only [if_true]
  rw [if_neg (by simp)]
  unfold setWalk
  refine wpAny_bind (wpAny_bind (wpAny_setState_of ho hd T.fits ?_))
  dsimp only
  refine wpAny_bind (wp_text ?_)
  rw [hb]
  simp only [if_true]
  refine wpAny_bind (wpAny_askSetting ?_)
  refine wpAny_pure ?_
  have e1 : (pickOrder ((model prog w).w.params.setOrder a ep) es)[(i : Int).toNat]? = some e := by
   rw [Int.toNat_natCast, ← Array.getElem?_toList]
   show (pickOrder (w.params.setOrder a ep) es).toList[i]? = _
   rw [← hw]
   exact he
  rw [e1]
  refine wpAny_pure ?_
  dsimp only [Option.map]
  refine wpAny_bind (wpAny_setField hi rfl (by simp) ?_)
  refine wpAny_bind (wpAny_setField (up0 _ hi) rfl (by simp) ?_)
  exact wpAny_pure ⟨_, rfl, wpAny_pure (k _ _ (sb0 _) (up1 (up0 _ hi)) (.text _ hb hw))⟩
 | one c hb hs hw hc =>
  have hi0 : i = 0 := by omega
  have hs1 : es.size = 1 := by omega
  subst hi0
  have hps : t.place.size = 1 := (place_size T).trans hs1
  obtain ⟨j, hj⟩ := one_of hps
  dsimp only
  unfold setNext
  refine wpAny_bind (wpAny_bind (wpAny_setState_of ho hd T.fits ?_))
  dsimp only
  refine wpAny_bind (wp_text ?_)
  rw [hb]
  simp only [Bool.false_eq_true, if_false]
  show wpAny _ _ (if (!t.plain && decide (es.size > 1)) = true then _ else _) _ _ _
  rw [if_neg (by rw [hs1]; simp)]
  refine wpAny_bind ?_
  show wpAny _ _ (if (!t.led && !es.isEmpty) = true then _ else _) _ _ _
  rw [if_neg (by rw [T.led, hb]; simp)]
  refine wpAny_pure ?_
  rw [Int.toNat_natCast, hc]
  have e1 : es[0]? = some e := by
   rw [← Array.getElem?_toList, ← hw]
   exact he
  have e2 : t.place[0]? = some j := by rw [hj]; rfl
  rw [e1, e2]
  refine wpAny_pure ?_
  dsimp only
  refine wpAny_bind (wpAny_setField hi rfl (by simp) ?_)
  refine wpAny_bind (wpAny_setField (up0 _ hi) rfl (by simp) ?_)
  refine wpAny_pure ⟨_, rfl, wpAny_pure (k _ _ (sb0 _) (up1 (up0 _ hi)) (.one (j + 1) hb hs hw ?_))⟩
  rw [hj, below_one, if_pos (Nat.lt_succ_self _)]
theorem wp_next_end {Q : Option Value → Shared → Prop} (hh : A.handled = none) (hi : s.heap.get? it = some (itO first i a es.size ep)) (ho : s.heap.get? a = some o) (hd : o.data = .set es ep t) (T : Tab prog w es t zs) (hW : Way w s.heap a tp es ep t ws i first)
  (hp : ws.Perm es.toList) (he : i = es.size) (k : ∀ h', Heap.ExtBut it s.heap h' → Q none { s with heap := h' }) :
  wpAny (model prog w) A (pyNext (.ref it)) Q E s := by
 have hT : s.TypeIs (.ref it) "set_iterator" := ⟨_, hi, rfl⟩
 have wl : ws.length = es.size := by simpa using hp.length_eq
 unfold pyNext
 refine wpAny_bind (wpAny_attempt (wpAny_callSpecial?_slot (name := Str.ofString "__next__") hT slot_next (wpAny_call_entry slot_next hT entry_next ?_ (args_next _))))
 unfold Builtin.«set_iterator.__next__»
 refine wpAny_bind (wpAny_pure ?_)
 refine wpAny_bind (wpAny_fieldsOf hi rfl ?_)
 dsimp only
 refine wpAny_bind (wpAny_setEntries_of ho hd T.fits ?_)
 rw [if_neg (by simp)]
 have fin : ∀ h2 : Heap, Heap.SameBut it s.heap h2 → wpAny (model prog w) A.in1 (newExc (Value.type "StopIteration") [] >>= fun x => (raiseNew x : Sem Fin)) (fun fin s' => ∃ v, fin = Fin.done (Flow.ret v) ∧ wpAny (model prog w) A (pure (some v)) Q E s')
   (fun e s' => wpAny (model prog w) A (isInstance e (Value.type "StopIteration") >>= fun b => if b = true then pure none else throw e) Q E s') { s with heap := h2 } := by
  intro h2 sb
  refine wpAny_bind ?_
  simp only [newExc, newTuple]
  refine wpAny_bind (wpAny_newObj_type ?_ (by size_fits))
  refine wpAny_bind (m := firstArgMember _ _) (wpAny_of_eq (a := Value.none) (by first | rfl | (simp only [firstArgMember]; rfl)) ?_)
  refine wpAny_newObj_type ?_ (by size_fits)
  simp only [raiseNew]
  refine wpAny_bind (wpAny_handled ?_)
  rw [show A.in1.handled = none from hh]
  refine wpAny_bind (wpAny_pure (wpAny_throw ?_))
  refine wpAny_bind (wpAny_isInstance (T := "StopIteration") (b := true) ⟨_, Heap.get?_push_size _ rfl, rfl⟩ isSubtype_stop ?_)
  exact wpAny_pure (k _ ((sb.extBut.push _).push _))
 cases hW with
 | drawn ys ht hl hw =>
  dsimp only
  refine wpAny_bind (wpAny_seqItems ht rfl ?_)
  dsimp only
  have e1 : (ys.map fun (i : Nat) => rawInt i).toArray[(i : Int).toNat]? = none := by
   rw [Int.toNat_natCast, List.getElem?_toArray, List.getElem?_eq_none]
   rw [List.length_map]
   omega
  rw [e1]
  dsimp only
  refine wpAny_bind (wpAny_setField hi rfl (by simp) ?_)
  refine wpAny_bind (wpAny_setField (up0 _ hi) rfl (by simp) ?_)
  exact fin _ ((Heap.SameBut.update ..).trans (Heap.SameBut.update ..))
 | text c hb hw =>
  dsimp only
  unfold setNext
  refine wpAny_bind (wpAny_bind (wpAny_setState_of ho hd T.fits ?_))
  dsimp only
  refine wpAny_bind (wp_text ?_)
  rw [hb]
  simp only [if_true]
  rw [if_neg (by simp)]
  unfold setWalk
  refine wpAny_bind (wpAny_bind (wpAny_setState_of ho hd T.fits ?_))
  dsimp only
  refine wpAny_bind (wp_text ?_)
  rw [hb]
  simp only [if_true]
  refine wpAny_bind (wpAny_askSetting ?_)
  refine wpAny_pure ?_
  have e1 : (pickOrder ((model prog w).w.params.setOrder a ep) es)[(i : Int).toNat]? = none := by
   rw [Int.toNat_natCast, ← Array.getElem?_toList]
   show (pickOrder (w.params.setOrder a ep) es).toList[i]? = _
   rw [← hw, List.getElem?_eq_none]
   omega
  rw [e1]
  refine wpAny_pure ?_
  dsimp only [Option.map]
  refine wpAny_bind (wpAny_setField hi rfl (by simp) ?_)
  exact fin _ (Heap.SameBut.update ..)
 | one c hb hs hw hc =>
  dsimp only
  unfold setNext
  refine wpAny_bind (wpAny_bind (wpAny_setState_of ho hd T.fits ?_))
  dsimp only
  refine wpAny_bind (wp_text ?_)
  rw [hb]
  simp only [Bool.false_eq_true, if_false]
  show wpAny _ _ (if (!t.plain && decide (es.size > 1)) = true then _ else _) _ _ _
  rw [if_neg (by rw [decide_eq_false (by omega)]; simp)]
  refine wpAny_bind ?_
  show wpAny _ _ (if (!t.led && !es.isEmpty) = true then _ else _) _ _ _
  rw [if_neg (by rw [T.led, hb]; simp)]
  refine wpAny_pure ?_
  rw [Int.toNat_natCast, hc]
  have e1 : es[i]? = none := Array.getElem?_eq_none (by omega)
  rw [e1]
  refine wpAny_pure ?_
  dsimp only
  refine wpAny_bind (wpAny_setField hi rfl (by simp) ?_)
  exact fin _ (Heap.SameBut.update ..)
end
end SetT
namespace SetT
open PySem PySem.Spec
open Builtin.Frozenset
theorem slot_iiter : Slot "set_iterator" "__iter__" "set_iterator.__iter__" :=
 .of (owner := "set_iterator") (n := "__iter__") (by rw [typeLookup_type, builtinLookup_eq_fast]; kernel_rfl) (by decide +kernel) (by decide +kernel) (by decide +kernel)
  (by first | exact .inl (by decide +kernel) | exact .inr (by decide +kernel)) (by rw [isSubtype_type]; kernel_rfl)
theorem entry_iiter : entryFor table "set_iterator.__iter__" = some Builtin.«dict_keyiterator.__iter__» :=
 entryFor_alias (id' := "dict_keyiterator.__iter__") (by kernel_rfl) rfl (by decide +kernel) (by kernel_rfl)
theorem args_iiter (a : Value) : argsOk "set_iterator.__iter__" ⟨[a], []⟩ := by unfold argsOk; kernel_rfl
section
variable {prog : Program} {w : World} {A : Around} {E : Value → Shared → Prop} {s : Shared} {a tp it : Addr} {zs : List Str} {o : Obj} {es : Array (Int × Value)} {ep : Nat} {t : SetTable} {ws : List (Int × Value)} {i : Nat} {first : Value}
theorem walks_set (hh : A.handled = none) (h1 : a ≠ it) (h2 : tp ≠ it) (hd : o.data = .set es ep t) (T : Tab prog w es t zs) (hp : ws.Perm es.toList) :
  Walks prog w A it [it, a, tp] [it] es.size (fun i v => ∃ e, ws[i]? = some e ∧ v = e.2) (fun i h => ∃ first, h.get? it = some (itO first i a es.size ep) ∧ h.get? a = some o ∧ Way w h a tp es ep t ws i first) where
 sub := fun b hb => by simp at hb; simp [hb]
 frame := fun i h h' ⟨first, q1, q2, q3⟩ k => ⟨first, k it (by simp) _ q1, k a (by simp) _ q2, q3.keep (k tp (by simp))⟩
 item := fun i s Q E hi ⟨first, q1, q2, q3⟩ k => by
  have wl : ws.length = es.size := by simpa using hp.length_eq
  obtain ⟨e, he⟩ : ∃ e, ws[i]? = some e := ⟨ws[i]'(by omega), List.getElem?_eq_getElem _⟩
  refine wp_next_item q1 q2 hd T q3 h2 hp he fun h' f' sb g1 g2 => ?_
  exact k _ h' s.toks ⟨e, he, rfl⟩ ⟨f', g1, by rw [sb.2 a h1]; exact q2, g2⟩ fun b o hb e => by rw [sb.2 b fun h => hb (by simp [h])]; exact e
 done := fun s Q E ⟨first, q1, q2, q3⟩ k => wp_next_end hh q1 q2 hd T q3 hp rfl fun h' e => k h' s.toks fun b o hb e2 => e b o (fun h => hb (by simp [h])) e2
 self := fun i s Q E ⟨first, q1, q2, q3⟩ k => by
  have hT : s.TypeIs (.ref it) "set_iterator" := ⟨_, q1, rfl⟩
  refine wpAny_pyIter_slot hT slot_iiter (wpAny_call_entry slot_iiter hT entry_iiter ?_ (args_iiter _))
  show wpAny _ _ (ret (.ref it)) _ _ s
  exact wpAny_pure ⟨_, rfl, "set_iterator", _, hT, slot_next.lookup, k⟩
theorem range_map (es : Array (Int × Value)) : (List.range es.size).map (fun y => (es[y]?).getD (0, Value.none)) = es.toList := by
 refine List.ext_getElem (by simp) fun j h1 h2 => ?_
 rw [List.getElem_map, List.getElem_range]
 have : j < es.size := by simpa using h2
 rw [Array.getElem?_eq_getElem this]
 simp
theorem wp_iter {Q : Value → Shared → Prop} (ho : s.heap.get? a = some o) (hx : o.ExactSet) (hd : o.data = .set es ep t) (T : Tab prog w es t zs)
  (k : ∀ h' d it tp ws first, (∀ b u, s.heap.get? b = some u → h'.get? b = some u) → s.heap.objs.size ≤ it → it < h'.objs.size → tp < h'.objs.size → (tp = a ∨ s.heap.objs.size ≤ tp) → tp ≠ it → h'.get? it = some (itO first 0 a es.size ep) → Way w h' a tp es ep t ws 0 first → ws.Perm es.toList → Q (.ref it) { s with heap := h', drawn := d }) :
  wpAny (model prog w) A (pyIter (.ref a)) Q E s := by
 have hT : s.TypeIs (.ref a) "set" := ⟨o, ho, hx.1⟩
 have hlt : a < s.heap.objs.size := Heap.lt_size ho
 refine wpAny_pyIter_slot hT F.slot_set_iter (wpAny_call_entry F.slot_set_iter hT entry_iter ?_ (F.args_set_iter_1 _))
 unfold Builtin.«frozenset.__iter__» slot0 slotArgs
 simp only [List.isEmpty_nil, Bool.not_true, Bool.false_eq_true, ↓reduceIte, bind_assoc, List.length_nil, bne_self_eq_false]
 unfold addrOf Builtin.Frozenset.sizeOf
 refine wpAny_bind (wpAny_pure ?_)
 refine wpAny_bind (wpAny_pure ?_)
 refine wpAny_bind (wpAny_bind (wpAny_setEntries_of ho hd T.fits (wpAny_pure ?_)))
 unfold setDrawn
 refine wpAny_bind (wpAny_bind (wpAny_setState_of ho hd T.fits ?_))
 dsimp only
 refine wpAny_bind (wp_text ?_)
 refine wpAny_pure ?_
 by_cases c : (!byTx w && (!t.plain && decide (es.size > 1))) = true
 ·show wpAny _ _ (if (!byTx w && (!t.plain && decide (es.size > 1))) = true then _ else _) _ _ _
  rw [if_pos c]
  refine wpAny_bind (wp_draw _ _ _ _ (by simp) fun ys d p => ?_)
  have ylen : ys.length = es.size := by simpa using p.length_eq
  refine wpAny_bind (wpAny_newTuple ?_ (by rw [List.length_map, ylen]; exact sz_ok (Nat.lt_succ_of_lt T.few')))
  have o1 : (s.heap.push (tupO ys)).get? a = some o := Heap.get?_push_of_some _ ho
  refine wpAny_bind (wpAny_setEpoch_of (s := { s with heap := s.heap.push (tupO ys), drawn := d }) o1 hd T.fits ?_)
  refine wpAny_bind (wpAny_newObj_type (wpAny_pure ⟨_, rfl, "set_iterator", _, ⟨_, Heap.get?_push_size _ rfl, rfl⟩, slot_next.lookup, ?_⟩))
  have hs1 : (s.heap.push (tupO ys)).objs.size = s.heap.objs.size + 1 := Heap.size_push ..
  refine k _ d _ s.heap.objs.size (ys.map fun y => (es[y]?).getD (0, Value.none)) (.ref s.heap.objs.size) (fun b u e => Heap.get?_push_of_some _ (Heap.get?_push_of_some _ e)) (by show s.heap.objs.size ≤ (s.heap.push (tupO ys)).objs.size; omega) ?_ ?_ (.inr (Nat.le_refl _)) ?_ (Heap.get?_push_size _ rfl) ?_ ?_
  ·show (s.heap.push (tupO ys)).objs.size < ((s.heap.push (tupO ys)).push _).objs.size
   simp only [Heap.size_push]
   omega
  ·show s.heap.objs.size < ((s.heap.push (tupO ys)).push _).objs.size
   rw [Heap.size_push, hs1]
   omega
  ·show s.heap.objs.size ≠ (s.heap.push (tupO ys)).objs.size
   omega
  ·refine .drawn ys (Heap.get?_push_of_some _ (Heap.get?_push_size _ rfl)) ylen fun j y hy => ?_
   have hm : y < es.size := by
    have := p.mem_iff.mp (List.mem_of_getElem? hy)
    simpa using this
   rw [List.getElem?_map, hy]
   show _ = some ((es[y]?).getD (0, Value.none))
   rw [Array.getElem?_eq_getElem hm]
   rfl
  ·have := p.map fun y => (es[y]?).getD (0, Value.none)
   rwa [range_map] at this
 ·show wpAny _ _ (if (!byTx w && (!t.plain && decide (es.size > 1))) = true then _ else _) _ _ _
  rw [if_neg c]
  refine wpAny_bind (wpAny_pure ?_)
  refine wpAny_bind (wpAny_setEpoch_of ho hd T.fits ?_)
  refine wpAny_bind (wpAny_newObj_type (wpAny_pure ⟨_, rfl, "set_iterator", _, ⟨_, Heap.get?_push_size _ rfl, rfl⟩, slot_next.lookup, ?_⟩))
  have kk := fun ws hW hp => k (s.heap.push (itO (.int 0 0) 0 a es.size ep)) s.drawn s.heap.objs.size a ws (.int 0 0) (fun b u e => Heap.get?_push_of_some _ e) (Nat.le_refl _) (by rw [Heap.size_push]; exact Nat.lt_succ_self _) (by rw [Heap.size_push]; exact Nat.lt_succ_of_lt hlt) (.inl rfl) (Nat.ne_of_lt hlt) (Heap.get?_push_size _ rfl) hW hp
  cases hb : byTx w with
  | true => exact kk _ (.text 0 hb rfl) (pick_ok _ _)
  | false =>
   have h1 : es.size ≤ 1 := by
    rcases T.plain with q | q
    ·rw [q]; simp
    ·rw [hb, q] at c
     simp at c
     exact c
   refine kk es.toList (.one 0 hb h1 rfl ?_) (List.Perm.refl _)
   have hps := place_size T
   rcases Nat.lt_or_ge es.size 1 with h | h
   ·have : t.place = #[] := Array.eq_empty_of_size_eq_zero (by omega)
    rw [this]
    rfl
   ·obtain ⟨j, hj⟩ := one_of (p := t.place) (by omega)
    rw [hj, below_one, if_neg (Nat.not_lt_zero _)]
theorem len_set : typeLookup (.type "set") "__len__" = pure (some (.builtin "set.__len__")) := F.slot_set_len.lookup
theorem wp_hint {Q : Bool → Shared → Prop} (hT : s.TypeIs (.ref a) "set") (k : Q false s) : wpAny (model prog w) A (Builtin.List.listLengthHint (.ref a)) Q E s := by
 unfold Builtin.List.listLengthHint
 refine wpAny_bind (wpAny_specialOf hT len_set ?_)
 dsimp only
 have e1 : splitId "set.__len__" = some ("set", "__len__") := by kernel_rfl
 rw [e1]
 dsimp only
 refine wpAny_bind (wpAny_isInstance hT sub_set_self ?_)
 simp only [Bool.not_true, Bool.false_eq_true, if_false]
 rw [if_pos]
 ·exact wpAny_bind (wpAny_typeOf hT (wpAny_pure k))
 ·decide +kernel
theorem wp_collect {Q : List Value → Shared → Prop} (hh : A.handled = none) (ho : s.heap.get? a = some o) (hx : o.ExactSet) (hd : o.data = .set es ep t) (T : Tab prog w es t zs)
  (k : ∀ s' (acc : List (Int × Value)), (∀ b u, s.heap.get? b = some u → s'.heap.get? b = some u) → s'.gens = s.gens → s'.os = s.os → s.heap.objs.size < s'.heap.objs.size → acc.Perm es.toList → Q (acc.map (·.2)) s') : wpAny (model prog w) A (collect (.ref a)) Q E s := by
 have hlt : a < s.heap.objs.size := Heap.lt_size ho
 unfold collect
 refine wpAny_bind (wpAny_runValue (codeAny_builtin F.entry_proto_collect ?_))
 rw [Around.under_plainId F.plain_proto_collect _]
 show wpAny _ A.in1 (newList [] >>= fun l => again (.builtin "list.__iadd__" ⟨[l, .ref a], []⟩)) _ _ s
 refine wpAny_bind (wpAny_newList ?_)
 refine wpAny_pure ⟨plainId_quiet F.plain_list_iadd _, codeAny_builtin F.entry_list_iadd ?_⟩
 rw [Around.under_plainId F.plain_list_iadd _]
 generalize hL : s.heap.objs.size = L
 have ho1 : (s.heap.push { cls := .type "list", data := .seq ([] : List Value).toArray }).get? a = some o := Heap.get?_push_of_some _ ho
 have hS1 : (s.heap.push { cls := .type "list", data := .seq ([] : List Value).toArray }).get? L = some { cls := .type "list", data := .seq ([] : List Value).toArray } := by rw [← hL]; exact Heap.get?_push_size _ rfl
 have hT : Shared.TypeIs { s with heap := s.heap.push { cls := .type "list", data := .seq ([] : List Value).toArray } } (.ref a) "set" := ⟨o, ho1, hx.1⟩
 show wpAny _ A.in1 (Builtin.List.listExtendWith (.ref L) (.ref a) (.ref L)) _ _ _
 unfold Builtin.List.listExtendWith
 refine wpAny_bind (wpAny_typeOf hT ?_)
 have n1 : Builtin.List.listSameRef (.ref L) (.ref a) = false := by
  have : L ≠ a := by rw [← hL]; exact Nat.ne_of_gt hlt
  simp [Builtin.List.listSameRef, this]
 have n2 : (Value.type "set" == Value.type "list") = false := by decide
 have n3 : (Value.type "set" == Value.type "tuple") = false := by decide
 simp only [n1, n2, n3, Bool.or_false, Bool.false_eq_true, if_false]
 refine wpAny_bind (wp_iter ho1 hx hd T fun h2 d it tp ws first kp2 hge hi2 ht2 hor hne gi W p => ?_)
 have ho2 := kp2 a o ho1
 have hS2 := kp2 L _ hS1
 have hszp : (s.heap.push { cls := .type "list", data := .seq ([] : List Value).toArray }).objs.size = L + 1 := by rw [Heap.size_push, hL]
 refine wpAny_bind (wpAny_holding (wp_hint (a := a) (s := { s with heap := h2, drawn := d }) ⟨o, ho2, hx.1⟩ ?_))
 show wpAny _ A.in1 (rule "list.extend.makes-room" >>= fun _ => Builtin.List.listTouch (.ref L) >>= fun _ => again (.builtin "list.extend.loop" ⟨[.ref L, .ref it, .ref L], []⟩)) _ _ _
 refine wpAny_bind (wpAny_rule ?_)
 refine wpAny_bind ?_
 show wpAny _ A.in1 (updateSeq L (·.push .none) >>= fun _ => updateSeq L (·.pop)) _ _ _
 refine wpAny_bind (wpAny_updateSeq hS2 rfl ?_)
 have hS3 := Heap.get?_update_self (Obj.mapSeq (·.push Value.none)) hS2 rfl
 refine wpAny_updateSeq hS3 rfl ?_
 have hS4 := Heap.get?_update_self (Obj.mapSeq (·.pop)) hS3 rfl
 have oth : ∀ b u, b ≠ L → h2.get? b = some u → ((h2.update L (Obj.mapSeq (·.push Value.none))).update L (Obj.mapSeq (·.pop))).get? b = some u :=
  fun b u hb e => (Heap.get?_update_other _ _ (Ne.symm hb)).trans ((Heap.get?_update_other _ _ (Ne.symm hb)).trans e)
 have hitL : it ≠ L := by
  have hge' : L + 1 ≤ it := by rw [← hszp]; exact hge
  exact Nat.ne_of_gt hge'
 have haL : a ≠ L := by rw [← hL]; exact Nat.ne_of_lt hlt
 have hai : a ≠ it := by
  have hge' : L + 1 ≤ it := by rw [← hszp]; exact hge
  intro e
  rw [← hL, ← e] at hge'
  exact absurd hge' (Nat.not_le.mpr (Nat.lt_succ_of_lt hlt))
 have htL : tp ≠ L := by
  rcases hor with h | h
  ·rw [h]; exact haL
  ·have h' : L + 1 ≤ tp := by rw [← hszp]; exact h
   exact Nat.ne_of_gt h'
 have hfp : L ∉ [it, a, tp] := by
  intro h
  rcases List.mem_cons.mp h with h | h
  ·exact hitL h.symm
  ·rcases List.mem_cons.mp h with h | h
   ·exact haL h.symm
   ·exact htL (List.mem_singleton.mp h).symm
 refine wpAny_pure ⟨plainId_quiet F.plain_extend_loop _, codeAny_extend_loopS ((walks_set (by simp [hh]) hai hne hd T p).toS) (sz_ok (Nat.lt_succ_of_lt T.few')) L hfp (.ref L) es.size 0 _ _ _ rfl (Nat.zero_le _) ⟨first, oth it _ hitL gi, oth a _ haL ho2, W.keep fun u e => oth tp u htL e⟩ hS4 (ItemsOf.nil _) fun s' acc c m hS' hI => ?_⟩
 show wpAny _ A (load L >>= _) _ _ s'
 refine wpAny_bind (wpAny_load hS' ?_)
 have wl : ws.length = es.size := by simpa using p.length_eq
 have el : acc.toList = ws.map (·.2) := by
  refine List.ext_getElem? fun j => ?_
  rw [Array.getElem?_toList, List.getElem?_map]
  cases hj : acc[j]? with
  | none =>
   have : ws[j]? = none := by
    rw [List.getElem?_eq_none]
    rw [wl, ← hI.1]
    exact Array.getElem?_eq_none_iff.mp hj
   rw [this]; rfl
  | some v =>
   obtain ⟨e, h1, h2⟩ := hI.2 j v hj
   rw [h1, h2]; rfl
 refine wpAny_pure ?_
 rw [el]
 refine k s' ws (fun b u e => ?_) m.gens m.os (by rw [hL]; exact Heap.lt_size hS') p
 have hb : b < s.heap.objs.size := Heap.lt_size e
 have hbL : b ≠ L := by rw [← hL]; exact Nat.ne_of_lt hb
 have hbi : b ≠ it := by
  intro q
  have hge' : L + 1 ≤ it := by rw [← hszp]; exact hge
  rw [← hL, ← q] at hge'
  exact absurd hge' (Nat.not_le.mpr (Nat.lt_succ_of_lt hb))
 refine m.heap b u (fun h => ?_) (oth b u hbL (kp2 b u (Heap.get?_push_of_some _ e)))
 rcases List.mem_cons.mp h with h | h
 ·exact hbL h
 ·exact hbi (List.mem_singleton.mp h)
end
end SetT
namespace SetT
open PySem PySem.Spec PyProof.Rows
theorem strsAre_of {prog : Program} {w : World} : ∀ (l : List (Int × Value)), (∀ e ∈ l, Elt prog w e) → StrsAre (l.map (·.2)) (l.map keyOf)
 | [], _ => .nil
 | e :: r, h => by
  obtain ⟨z, t, rfl⟩ := h e List.mem_cons_self
  exact .cons z t (strsAre_of r fun x hx => h x (List.mem_cons_of_mem _ hx))
section
variable {prog : Program} {w : World} {A : Around} {E : Value → Shared → Prop} {s : Shared} {a : Addr} {zs : List Str}
theorem sorted_set {Q : Value → Shared → Prop} (hh : A.handled = none) (S : SetAt prog w s.heap a zs) (h64 : zs.length < 64)
  (k : ∀ (s' : Shared) (l : Addr) (out : Array Value) (e : Nat) (ss : List Str), (∀ b u, s.heap.get? b = some u → s'.heap.get? b = some u) → s'.gens = s.gens → s'.os = s.os → s.heap.objs.size ≤ l → s'.heap.get? l = some (seqObj "list" out e) → StrsAre out.toList ss → ss.Perm zs → sortedS ss = true → Q (.ref l) s') :
  wpAny (model prog w) A (call (.builtin "sorted") [.ref a]) Q E s := by
 obtain ⟨o, es, ep, t, ho, hx, hd, T⟩ := S
 refine Calls.call_function_entry kind_sorted plain_sorted entry_sorted (args_sorted1 _) ?_
 unfold Builtin.«sorted»
 refine wpAny_bind (m := checkCount "sorted" 1 1 _) (wpAny_pure ?_)
 refine wpAny_bind (wp_collect (by simp [hh]) ho hx hd T fun s1 acc kp g1 o1 z1 p => ?_)
 have hS := strsAre_of (prog := prog) (w := w) acc fun e he => T.elts e (p.mem_iff.mp he)
 have hlen : (acc.map (·.2)).length = zs.length := by
  rw [List.length_map, p.length_eq, Array.length_toList, T.size]
 refine wpAny_bind (wpAny_newList ?_ (by rw [hlen]; exact sz_ok (by omega)))
 have hoL : (s1.heap.push (seqObj "list" (acc.map (·.2)).toArray 0)).get? s1.heap.objs.size = some (seqObj "list" (acc.map (·.2)).toArray 0) := Heap.get?_push_size _ rfl
 have hsz : s.heap.objs.size ≤ s1.heap.objs.size := Nat.le_of_lt z1
 refine wpAny_bind (wpAny_holding (wpAny_call_entry slot_list_sort ⟨_, hoL, rfl⟩ entry_list_sort (list_sort_treeK strKind_oneLt hoL hS.keysOf (fun v₁ v₂ rest e => keyKind_strs (by rw [← e]; exact hS)) (by rw [hlen]; exact h64) fun st' a1 a2 => ⟨_, rfl, ?_⟩) (args_list_sort _)))
 obtain ⟨ss, q1, q2, q3⟩ := sorted_out_str hS a1 a2
 obtain ⟨e, he⟩ := sortedHeap_at (out := (arrOf st').map (·.2)) hoL
 refine wpAny_pure ⟨_, rfl, k _ _ _ e ss (fun b u hb => ?_) g1 o1 hsz he q1 (q2.trans ((p.map keyOf).trans T.keys)) q3⟩
 have hb1 := kp b u hb
 have hlt := Heap.lt_size hb1
 show (sortedHeap (s1.heap.push _) s1.heap.objs.size _ _).get? b = some u
 rw [sortedHeap_old (Nat.ne_of_lt hlt) (by rw [size_push']; exact Nat.lt_succ_of_lt hlt)]
 exact Heap.get?_push_of_some _ hb1
end
end SetT
namespace L2
open PySem PySem.Spec PyProof.Rows SetT
noncomputable def SetO (prog : Program) (w : World) (a : Addr) (zs : List Str) : HO := .ext fun h => SetAt prog w h a zs
section
variable {X : Cx} {pins : List (Addr × Obj)} {σ : St} {H : Hp} {s s' : Shared} {a : Addr} {zs : List Str}
theorem Inv.like (I : Inv X pins σ H s) (e1 : s'.heap = s.heap) (e2 : s'.gens = s.gens) (e3 : s'.os = s.os) : Inv X pins σ H s' := by
 obtain ⟨h, g, d, t, o⟩ := s
 obtain ⟨h', g', d', t', o'⟩ := s'
 simp only at e1 e2 e3
 subst e1 e2 e3
 exact ⟨I.ok, I.os, I.bare, I.base, I.loc, I.cell, I.free, I.freeC, I.pin, I.hok, I.len⟩
theorem Inv.laid' {o : HO} (I : Inv X pins σ H s) (k : ∀ b u, s.heap.get? b = some u → s'.heap.get? b = some u) (e2 : s'.gens = s.gens) (e3 : s'.os = s.os) (hp : s.heap.objs.size ≤ a) (new : ObjOk X.prog X.w (upd H a o) s'.heap a o) : Inv X pins σ (upd H a o) s' :=
 (I.laid (t' := s.toks) k hp new).like (s' := s') rfl e2 e3
theorem set_obj {h : Heap} (S : SetAt X.prog X.w h a zs) : ObjOk X.prog X.w H h a (SetO X.prog X.w a zs) := by
 refine ⟨S, ?_, fun h1 h2 q k => q.keep k⟩
 obtain ⟨o, _, _, _, ho, _⟩ := S
 exact ⟨o, ho⟩
theorem Inv.set (I : Inv X pins σ H s) (h : H a = some (SetO X.prog X.w a zs)) : SetAt X.prog X.w s.heap a zs := (I.hok a _ h).1
theorem vals_strs : ∀ {zs : List Str} {us : List Value}, Vals (zs.map V.str) us → ∀ (i : Nat) v, us[i]? = some v → ∃ z t, zs[i]? = some z ∧ v = Value.str z t
 | [], _, .nil, i, v, h => by simp at h
 | z :: r, _, .cons q qs, 0, v, h => by
  obtain ⟨t, e⟩ := q
  simp at h
  exact ⟨z, t, rfl, h ▸ e⟩
 | z :: r, _, .cons q qs, i + 1, v, h => by
  simp only [List.getElem?_cons_succ] at h ⊢
  exact vals_strs qs i v h
theorem strs_of_vals : ∀ {zs : List Str} {us : List Value}, Vals (zs.map V.str) us → StrsAre us zs
 | [], _, .nil => .nil
 | z :: r, _, .cons q qs => by
  obtain ⟨t, rfl⟩ := q
  exact .cons z t (strs_of_vals qs)
theorem vals_of_strs : ∀ {us : List Value} {zs : List Str}, StrsAre us zs → Vals (zs.map V.str) us
 | _, _, .nil => .nil
 | _, _, .cons z t q => .cons ⟨t, rfl⟩ (vals_of_strs q)
theorem call_set_strs (hc : X.calm = true) : j2k X (.type "set") (fun xs H Q => ∃ p zs, xs = [.ref p] ∧ SqL X.K H p (zs.map V.str) ∧ zs.length < 900 ∧ ∀ a, H a = none → Q (.ref a) (upd H a (SetO X.prog X.w a (made zs)))) := by
 intro pins s σ H xs us Q I r h
 obtain ⟨p, zs, rfl, hp, hl, q⟩ := h
 obtain ⟨u, rfl, ru⟩ := vals1 r
 cases (show u = Value.ref p from ru)
 obtain ⟨its, rv, pl, hz⟩ := I.list hp
 have e1 := rv.length
 rw [List.length_map] at e1
 refine call_set (I.ok.hd hc) pl.isList (fun i v hv => vals_strs rv i v (by simpa using hv)) (by simpa using e1) (by simp; omega) fun h' tk kp S => ?_
 exact ⟨.ref _, _, I.laid' (s' := { s with heap := h', toks := tk }) kp rfl rfl (Nat.le_refl _) (set_obj S), rfl, q _ (I.hok.fresh (Nat.le_refl _))⟩
theorem call_sorted_set (hc : X.calm = true) : j2k X (.builtin "sorted") (fun xs H Q => ∃ p zs, xs = [.ref p] ∧ H p = some (SetO X.prog X.w p zs) ∧ zs.length < 64 ∧ ∀ l ss, H l = none → ss.Perm zs → sortedS ss = true → Q (.ref l) (upd H l (.lst (ss.map V.str)))) := by
 intro pins s σ H xs us Q I r h
 obtain ⟨p, zs, rfl, hp, hl, q⟩ := h
 obtain ⟨u, rfl, ru⟩ := vals1 r
 cases (show u = Value.ref p from ru)
 refine sorted_set (I.ok.hd hc) (I.set hp) hl fun s' l out e ss kp e2 e3 hge he hS hpm hso => ?_
 have hlen : ss.length ≤ sizeLine := by rw [hpm.length_eq]; exact sz_ok (by omega)
 refine ⟨.ref _, _, I.laid' (s' := s') kp e2 e3 hge (show ObjOk X.prog X.w _ s'.heap l (.lst (ss.map V.str)) from ⟨by rw [List.length_map]; exact hlen, out.toList, e, vals_of_strs hS, he⟩), rfl, q _ ss (I.hok.fresh hge) hpm hso⟩
end
end L2
namespace L2
open PySem PySem.Spec PyProof.Rows
section
variable {X : Cx} {o e : Expr} {σ : St} {H : Hp} {Q : VK} {ap cp : Pos}
theorem j1y (h : Ev X o σ H fun x H1 => ∃ l, x = .ref l ∧ (∃ xs, H1 l = some (.lst xs)) ∧ Ev X e σ H1 fun y H2 => ∃ xs, H2 l = some (.lst xs) ∧ xs.length < sizeLine ∧ Q .non (upd H2 l (.lst (xs ++ [y]))))
  (hbase : attributeBase o "append" X.env (eval o X.env) = eval o X.env := by rfl)
  (hfew : ((backTo cp (starEach [e] X.env)).all (fun x => !x.1) && (backToKw cp (keywordEach [] X.env)).all (fun x => x.1.isSome) && decide ([e].length + ([] : List Keyword).length + (if ([] : List Keyword).isEmpty then 0 else 1) < 30)) = true := by rfl)
  (hline : (ap.endLine == cp.line) = true := by rfl) (hs : starEach [e] X.env = (false, eval e X.env) :: starEach [] X.env := by rfl) (hplain : (backTo cp (starEach [] X.env)).any (·.1) = false := by rfl) (hst : isStar e = false := by rfl) :
  Ev X (.Call (.Attribute o "append" ap) [e] [] cp) σ H Q := by
 refine j10 (pe_bm PySem.F.plainAttrs_list PySem.F.slot_list_append PySem.F.type_list_append mt_append j0y (pa_ea (es := [e])) hbase hfew hline hs hplain) (h.mono fun x H1 ⟨l, ex, ⟨xs, hl⟩, h2⟩ => ?_)
 subst ex
 refine ⟨.inl ⟨rfl, xs, SqL.of hl⟩, ?_⟩
 exact j0a (h2.mono fun y H2 ⟨ys, hy, hz, q⟩ => j0e ⟨l, ys, y, rfl, rfl, hy, hz, q⟩) hst
end
section
variable {X : Cx} {c : Expr} {body els rest : List Stmt} {D : Ends} {σ : St} {H : Hp} {pos : Pos}
theorem Run.nx {M M' : St → Hp → Prop} {l : List Stmt} (h : Run X l { D with nx := M } σ H) (f : ∀ σ' H', M σ' H' → M' σ' H') : Run X l { D with nx := M' } σ H :=
 ⟨fun pins s I => thn (h.run pins s I) fun fl s' q => by
  cases fl with
  | next =>
   obtain ⟨σ', H', I', m⟩ := q
   exact ⟨σ', H', I', f σ' H' m⟩
  | _ => exact q⟩
theorem run_ifM (φ ψ : Prop) (M : St → Hp → Prop) (hc : ∀ T : Bool → Hp → Prop, (∀ k : Bool, (k = true → φ) → (k = false → ψ) → T k H) → Et X c σ H T) (ht : φ → Run X body { D with nx := M } σ H) (hu : ψ → Run X els { D with nx := M } σ H)
  (hr : ∀ σ' H', M σ' H' → Run X rest D σ' H') : Run X (.If c body els pos :: rest) D σ H :=
 run_ifJ φ ψ hc (fun p => (ht p).nx hr) (fun p => (hu p).nx hr)
end
noncomputable def EqD (X : Cx) (H : Hp) (k : Nat) (x y : V) (b : Bool) : Prop := ∀ (pins : List (Addr × Obj)) (σ : St) (s : Shared) (A : Around) (u v : Value), Inv X pins σ H s → A.units + k < cLine → RelV x u → RelV y v → SeqAt.EqAt A s u v b
noncomputable def RcD (X : Cx) (H : Hp) (k : Nat) (x y : V) (b : Bool) : Prop := ∀ (pins : List (Addr × Obj)) (σ : St) (s : Shared) (A : Around) (u v : Value), Inv X pins σ H s → A.units + k < cLine → RelV x u → RelV y v → SeqAt.RcAt A s u v b
noncomputable def RnD (X : Cx) (H : Hp) (k : Nat) (x y : V) (b : Bool) : Prop := ∀ (pins : List (Addr × Obj)) (σ : St) (s : Shared) (A : Around) (u v : Value), Inv X pins σ H s → A.units + k < cLine → RelV x u → RelV y v → SeqAt.RcNeAt A s u v (!b)
section
variable {X : Cx} {H : Hp} {k : Nat} {a b : Addr} {xs ys : List V}
theorem j27 {x y : V} (fx : flatV x = true) (fy : flatV y = true) : EqD X H k x y (eqV x y) := fun _ _ _ _ _ _ _ _ rx ry => eqAt_V rx ry fx fy
theorem eqD_same : EqD X H k (.ref a) (.ref a) true := fun _ _ _ _ u v _ _ rx ry => by
 cases rx
 cases ry
 exact SeqAt.EqAt.same _
theorem eqD_of (hne : a ≠ b) {c : Bool} (h : RcD X H k (.ref a) (.ref b) c) : EqD X H k (.ref a) (.ref b) c := fun pins σ s A u v I hu rx ry => by
 cases rx
 cases ry
 exact SeqAt.EqAt.of_refs hne (h pins σ s A _ _ I hu rfl rfl)
theorem j20 {us : List Value} (r : Vals xs us) {j : Nat} (h : j < us.length) : ∃ x, xs[j]? = some x ∧ RelV x us[j] := by
 have hl := r.length
 have hj : j < xs.length := by omega
 obtain ⟨u, e, q⟩ := r.get (List.getElem?_eq_getElem hj)
 rw [List.getElem?_eq_getElem h] at e
 cases e
 exact ⟨_, List.getElem?_eq_getElem hj, q⟩
theorem rcD_list (e : Nat → Bool) (ha : SqL X.K H a xs) (hb : SqL X.K H b ys) (hl : xs.length = ys.length) (he : ∀ j x y, xs[j]? = some x → ys[j]? = some y → EqD X H k x y (e j)) : RcD X H (k + 1) (.ref a) (.ref b) ((List.range xs.length).all e) := fun pins σ s A u v I hu rx ry => by
 cases rx
 cases ry
 obtain ⟨i1, r1, p1, _⟩ := I.list ha
 obtain ⟨i2, r2, p2, _⟩ := I.list hb
 have l1 := r1.length
 have l2 := r2.length
 have q := SeqAt.RcAt.lists (A := A) (e := e) p1.isList p2.isList (by simp; omega) (by omega) fun j h1 h2 => by
  obtain ⟨x, ex, qx⟩ := j20 r1 (j := j) (by simpa using h1)
  obtain ⟨y, ey, qy⟩ := j20 r2 (j := j) (by simpa using h2)
  exact he j x y ex ey pins σ s A.in1 _ _ I (by show A.units + 1 + k < cLine; omega) (by simpa using qx) (by simpa using qy)
 rw [List.size_toArray, ← l1] at q
 exact q
theorem rnD_list (e : Nat → Bool) (ha : SqL X.K H a xs) (hb : SqL X.K H b ys) (hl : xs.length = ys.length) (he : ∀ j x y, xs[j]? = some x → ys[j]? = some y → EqD X H k x y (e j)) : RnD X H (k + 1) (.ref a) (.ref b) ((List.range xs.length).all e) := fun pins σ s A u v I hu rx ry => by
 cases rx
 cases ry
 obtain ⟨i1, r1, p1, _⟩ := I.list ha
 obtain ⟨i2, r2, p2, _⟩ := I.list hb
 have l1 := r1.length
 have l2 := r2.length
 have q := SeqAt.RcNeAt.lists (A := A) (e := e) p1.isList p2.isList (by simp; omega) (by omega) fun j h1 h2 => by
  obtain ⟨x, ex, qx⟩ := j20 r1 (j := j) (by simpa using h1)
  obtain ⟨y, ey, qy⟩ := j20 r2 (j := j) (by simpa using h2)
  exact he j x y ex ey pins σ s A.in1 _ _ I (by show A.units + 1 + k < cLine; omega) (by simpa using qx) (by simpa using qy)
 rw [List.size_toArray, ← l1] at q
 exact q
theorem rcD_lens (ha : SqL X.K H a xs) (hb : SqL X.K H b ys) (hl : xs.length ≠ ys.length) : RcD X H k (.ref a) (.ref b) false := fun pins σ s A u v I hu rx ry => by
 cases rx
 cases ry
 obtain ⟨i1, r1, p1, _⟩ := I.list ha
 obtain ⟨i2, r2, p2, _⟩ := I.list hb
 have l1 := r1.length
 have l2 := r2.length
 exact SeqAt.RcAt.lists_lengths p1.isList p2.isList (by simp; omega) (by omega)
theorem rnD_lens (ha : SqL X.K H a xs) (hb : SqL X.K H b ys) (hl : xs.length ≠ ys.length) : RnD X H k (.ref a) (.ref b) false := fun pins σ s A u v I hu rx ry => by
 cases rx
 cases ry
 obtain ⟨i1, r1, p1, _⟩ := I.list ha
 obtain ⟨i2, r2, p2, _⟩ := I.list hb
 have l1 := r1.length
 have l2 := r2.length
 exact SeqAt.RcNeAt.lists_lengths p1.isList p2.isList (by simp; omega) (by omega)
theorem rcD_tup (e : Nat → Bool) (ha : SqT X.K H a xs) (hb : SqT X.K H b ys) (hl : xs.length = ys.length) (he : ∀ j x y, xs[j]? = some x → ys[j]? = some y → EqD X H k x y (e j)) : RcD X H (k + 1) (.ref a) (.ref b) ((List.range xs.length).all e) := fun pins σ s A u v I hu rx ry => by
 cases rx
 cases ry
 obtain ⟨i1, r1, p1, _⟩ := I.tuple ha
 obtain ⟨i2, r2, p2, _⟩ := I.tuple hb
 have l1 := r1.length
 have l2 := r2.length
 have q := SeqAt.RcAt.tuples (A := A) (e := e) p1 p2 (by omega) fun j h1 h2 => by
  obtain ⟨x, ex, qx⟩ := j20 r1 (j := j) (by simpa using h1)
  obtain ⟨y, ey, qy⟩ := j20 r2 (j := j) (by simpa using h2)
  exact he j x y ex ey pins σ s A.in1 _ _ I (by show A.units + 1 + k < cLine; omega) (by simpa using qx) (by simpa using qy)
 rw [List.size_toArray, List.size_toArray, ← l1, ← l2, hl, Nat.min_self, ← hl] at q
 simpa using q
theorem all_true (n : Nat) : (List.range n).all (fun _ => true) = true := by simp
theorem op_eqD (hu : X.A.units + 100 < cLine) : OpR X (compareOp .Eq) (fun x y H Q => ∃ k c, k ≤ 100 ∧ RcD X H k x y c ∧ Q (.bl c) H) := by
 intro pins s σ H x y v u Q I rx ry h
 obtain ⟨k, c, hk, hc, q⟩ := h
 exact hc pins σ s X.A v u I (by omega) rx ry X.prog X.w X.xe _ ⟨.bl c, H, I, rfl, q⟩
theorem op_neD (hu : X.A.units + 100 < cLine) : OpR X (compareOp .NotEq) (fun x y H Q => ∃ k c, k ≤ 100 ∧ RnD X H k x y c ∧ Q (.bl (!c)) H) := by
 intro pins s σ H x y v u Q I rx ry h
 obtain ⟨k, c, hk, hc, q⟩ := h
 exact hc pins σ s X.A v u I (by omega) rx ry X.prog X.w X.xe _ ⟨.bl (!c), H, I, rfl, q⟩
end
end L2
namespace L2
open PySem PySem.Spec PyProof.Rows
section
variable {X : Cx} {H : Hp} {k : Nat} {a b : Addr} {xs ys : List V}
theorem rnD_tup (e : Nat → Bool) (ha : SqT X.K H a xs) (hb : SqT X.K H b ys) (hl : xs.length = ys.length) (he : ∀ j x y, xs[j]? = some x → ys[j]? = some y → EqD X H k x y (e j)) : RnD X H (k + 1) (.ref a) (.ref b) ((List.range xs.length).all e) := fun pins σ s A u v I hu rx ry => by
 cases rx
 cases ry
 obtain ⟨i1, r1, p1, _⟩ := I.tuple ha
 obtain ⟨i2, r2, p2, _⟩ := I.tuple hb
 have l1 := r1.length
 have l2 := r2.length
 have q := SeqAt.RcNeAt.tuples (A := A) (e := e) p1 p2 (by omega) fun j h1 h2 => by
  obtain ⟨x, ex, qx⟩ := j20 r1 (j := j) (by simpa using h1)
  obtain ⟨y, ey, qy⟩ := j20 r2 (j := j) (by simpa using h2)
  exact he j x y ex ey pins σ s A.in1 _ _ I (by show A.units + 1 + k < cLine; omega) (by simpa using qx) (by simpa using qy)
 rw [List.size_toArray, List.size_toArray, ← l1, ← l2, hl, Nat.min_self, ← hl] at q
 simpa using q
end
section
variable {X : Cx} {o e f c : Expr} {σ : St} {H : Hp} {Q : VK} {T : Bool → Hp → Prop} {ap cp pos : Pos} {body rest : List Stmt} {D : Ends}
theorem ev_m0 {name : Str} {Ty id : String} {r : V → List V → Hp → VK → Prop} (pa : PlainAttrs Ty) (slot : Slot Ty name id) (hty : typeOf (.builtin id) = pure (.type "method_descriptor")) (hm : MtR X id r)
  (h : Ev X o σ H fun x H1 => tyV X.K Ty x H1 ∧ r x [] H1 Q) (hbase : attributeBase o name X.env (eval o X.env) = eval o X.env := by rfl) (hline : (ap.endLine == cp.line) = true := by rfl) : Ev X (.Call (.Attribute o name ap) [] [] cp) σ H Q :=
 j10 (pe_bm0 pa slot hty hm j0y hbase hline) h
theorem ev_m1 {name : Str} {Ty id : String} {r : V → List V → Hp → VK → Prop} (pa : PlainAttrs Ty) (slot : Slot Ty name id) (hty : typeOf (.builtin id) = pure (.type "method_descriptor")) (hm : MtR X id r)
  (h : Ev X o σ H fun x H1 => tyV X.K Ty x H1 ∧ Ev X e σ H1 fun y H2 => r x [y] H2 Q) (hbase : attributeBase o name X.env (eval o X.env) = eval o X.env := by rfl)
  (hfew : ((backTo cp (starEach [e] X.env)).all (fun x => !x.1) && (backToKw cp (keywordEach [] X.env)).all (fun x => x.1.isSome) && decide ([e].length + ([] : List Keyword).length + (if ([] : List Keyword).isEmpty then 0 else 1) < 30)) = true := by rfl)
  (hline : (ap.endLine == cp.line) = true := by rfl) (hs : starEach [e] X.env = (false, eval e X.env) :: starEach [] X.env := by rfl) (hplain : (backTo cp (starEach [] X.env)).any (·.1) = false := by rfl) (hst : isStar e = false := by rfl) : Ev X (.Call (.Attribute o name ap) [e] [] cp) σ H Q :=
 j10 (pe_bm pa slot hty hm j0y (pa_ea (es := [e])) hbase hfew hline hs hplain) (h.mono fun x H1 ⟨t, h2⟩ => ⟨t, j0a (h2.mono fun y H2 q => j0e q) hst⟩)
theorem ev_m2 {name : Str} {Ty id : String} {r : V → List V → Hp → VK → Prop} (pa : PlainAttrs Ty) (slot : Slot Ty name id) (hty : typeOf (.builtin id) = pure (.type "method_descriptor")) (hm : MtR X id r)
  (h : Ev X o σ H fun x H1 => tyV X.K Ty x H1 ∧ Ev X e σ H1 fun y H2 => Ev X f σ H2 fun z H3 => r x [y, z] H3 Q) (hbase : attributeBase o name X.env (eval o X.env) = eval o X.env := by rfl)
  (hfew : ((backTo cp (starEach [e, f] X.env)).all (fun x => !x.1) && (backToKw cp (keywordEach [] X.env)).all (fun x => x.1.isSome) && decide ([e, f].length + ([] : List Keyword).length + (if ([] : List Keyword).isEmpty then 0 else 1) < 30)) = true := by rfl)
  (hline : (ap.endLine == cp.line) = true := by rfl) (hs : starEach [e, f] X.env = (false, eval e X.env) :: starEach [f] X.env := by rfl) (hplain : (backTo cp (starEach [f] X.env)).any (·.1) = false := by rfl) (hst : isStar e = false := by rfl) (hsf : isStar f = false := by rfl) : Ev X (.Call (.Attribute o name ap) [e, f] [] cp) σ H Q :=
 j10 (pe_bm pa slot hty hm j0y (pa_ea (es := [e, f])) hbase hfew hline hs hplain) (h.mono fun x H1 ⟨t, h2⟩ => ⟨t, j0a (h2.mono fun y H2 h3 => j0a (h3.mono fun z H3 q => j0e q) hsf) hst⟩)
noncomputable def insertAt (xs : List V) (i : Nat) (y : V) : List V := xs.take i ++ y :: xs.drop i
noncomputable def rInsert : V → List V → Hp → VK → Prop := fun x vs H Q => ∃ l xs i y, x = .ref l ∧ vs = [.int i, y] ∧ H l = some (.lst xs) ∧ 0 ≤ i ∧ i.toNat ≤ xs.length ∧ xs.length < sizeLine ∧ Q .non (upd H l (.lst (insertAt xs i.toNat y)))
theorem fits_ix {i : Int} (h0 : 0 ≤ i) (h : i ≤ 16777216) : ¬ (!Builtin.List.listFitsIndex i) = true := by
 have e : Builtin.List.listFitsIndex i = true := by
  unfold Builtin.List.listFitsIndex
  rw [Bool.and_eq_true, decide_eq_true_eq, decide_eq_true_eq]
  omega
 rw [e]
 exact Bool.false_ne_true
theorem mt_insert : MtM X "list.insert" rInsert := by
 intro pins s σ H x vs v us Q I rx rv h
 obtain ⟨l, xs, i, y, rfl, rfl, hH, h0, hi, hz, q⟩ := h
 cases rx
 obtain ⟨u, w', rfl, ru, rw'⟩ := rv.two
 obtain ⟨tk, rfl⟩ := ru
 obtain ⟨z, its, n, r, hl, e⟩ := I.lstM hH
 have hs : sizeLine = 16777216 := sizeLine_eq
 have z2 : its.toArray.size ≤ sizeLine := by rw [List.size_toArray, ← hl]; exact z
 have mm := AutoSeq1.list_insert_list_int_val_1 l its.toArray n i tk w' (fits_ix h0 (by omega)) z2
 refine call_meets F.slot_list_insert ⟨_, e, rfl⟩ F.entry_list_insert (F.args_list_insert_3 _ _ _) mm ⟨e, ?_⟩
 have ef : (fun xs : Array Value => have k := if i < 0 then (i + (xs.size : Int)).toNat else min i.toNat xs.size; (xs.extract 0 k).push w' ++ xs.extract k) its.toArray = (its.take i.toNat ++ w' :: its.drop i.toNat).toArray := by
  have hn : ¬ i < 0 := by omega
  have hm : min i.toNat its.length = i.toNat := by omega
  simp only [hn, if_false, List.size_toArray, hm]
  apply Array.ext'
  simp
  exact List.take_of_length_le (by simp)
 refine ⟨.non, _, I.lset (its' := its.take i.toNat ++ w' :: its.drop i.toNat) hH e ef ((r.take i.toNat).append (.cons rw' (r.drop i.toNat))) ?_, rfl, q⟩
 rw [List.length_append, List.length_cons, List.length_take, List.length_drop]
 omega
noncomputable def rSetDef : V → List V → Hp → VK → Prop := fun x vs H Q => ∃ a kvs k y, x = .ref a ∧ vs = [kV k, y] ∧ H a = some (.dK kvs) ∧ kvs.length < sizeLine ∧
 ((∃ v, valV kvs k = some v ∧ Q v H) ∨ (valV kvs k = none ∧ Q y (upd H a (.dK (putK kvs k y)))))
theorem mt_setdef : MtM X "dict.setdefault" rSetDef := by
 intro pins s σ H x vs v us Q I rx rv h
 obtain ⟨a, kvs, k, y, rfl, rfl, hH, hz, q⟩ := h
 cases rx
 obtain ⟨u, w', rfl, ru, rw'⟩ := rv.two
 obtain ⟨z, hd, rs, rel, dd⟩ := dk_of I.hok hH
 have hl := rel.length
 refine call_meetsIn F.slot_dict_setdefault dd.typeIs F.entry_dict_setdefault (F.args_dict_setdefault_3 _ _ _) (kt_meets_setdefault (j0o X.prog X.w) a (kV_is ru) hd w') ⟨rs, dd, by omega, fun v hv => ?_, fun hn h' dd' hs => ?_⟩
 ·have rv2 := rel.val k
  rw [hv] at rv2
  rcases q with ⟨v', e', q⟩ | ⟨e', _⟩
  ·rw [e'] at rv2
   exact ⟨v', H, I.tok _, rv2, q⟩
  ·rw [e'] at rv2
   exact rv2.elim
 ·have rv2 := rel.val k
  rw [hn] at rv2
  rcases q with ⟨v', e', _⟩ | ⟨e', q⟩
  ·rw [e'] at rv2
   exact rv2.elim
  ·have he : ∃ q, h'.get? a = some q := let ⟨q, _, _, hq, _⟩ := dd'; ⟨q, hq⟩
   have hl2 : (putK kvs k y).length ≤ sizeLine := by have := j0w kvs k y; omega
   exact ⟨y, _, j2w I (by rw [hH]; exact True.intro) hs he (dk_new hl2 hd (rel.put k rw') dd'), rw', q⟩
theorem call_intB : j2k X (.type "int") (fun xs H Q => ∃ b : Bool, xs = [.bl b] ∧ Q (.int (if b then 1 else 0)) H) := by
 intro pins s σ H xs us Q I r h
 obtain ⟨b, rfl, q⟩ := h
 obtain ⟨u, rfl, ru⟩ := vals1 r
 cases (show u = Value.bool b from ru)
 exact call_int_bool ⟨.int (if b then 1 else 0), H, I.tok _, ⟨_, rfl⟩, q⟩
theorem run_while (W : Nat → St → Hp → Prop) {m0 : Nat} (h0 : W m0 σ H)
  (turn : ∀ m σ H, W m σ H → Et X c σ H fun b H1 => if b = true then Run X body { D with nx := fun σ' H' => ∃ m', m' < m ∧ W m' σ' H', ct := fun σ' H' => ∃ m', m' < m ∧ W m' σ' H', bk := fun σ' H' => Run X rest D σ' H' } σ H1 else Run X rest D σ H1)
  (hp : PassesOwn (model X.prog X.w) X.A X.env X.xe := by exact PassesOwn.never) : Run X (.While c body [] pos :: rest) D σ H := by
 refine j1j (ps_while hp pt_et pss_run) ⟨W, ⟨m0, h0⟩, fun m σ1 H1 w1 => (turn m σ1 H1 w1).mono fun b H2 q => ?_⟩
 cases b with
 | true =>
  rw [if_pos rfl] at q
  exact ⟨fun σ' H' => ∃ m', m' < m ∧ W m' σ' H', fun _ _ h => h, q⟩
 | false =>
  rw [if_neg Bool.false_ne_true] at q
  exact q
theorem ev_dnewK (h : ∀ p, H p = none → Q (.ref p) (upd H p (.dK []))) : Ev X (.Dict [] [] pos) σ H Q := j10 pe_dnewK h
theorem ev_dnewT (h : ∀ p, H p = none → Q (.ref p) (upd H p (.dT []))) : Ev X (.Dict [] [] pos) σ H Q := j10 pe_dnewT h
theorem j21 (hu : X.A.units + 1 < cLine) (h : Ev X o σ H fun x H1 => Ev X e σ H1 fun y H2 => ∃ a v, x = .ref a ∧ DGet H2 a y (some v) ∧ Q v H2) (hs : NoSl e := by intro _ _; rfl) : Ev X (.Subscript o e pos) σ H Q := j10 (pe_dget hu j0y j0y hs) h
theorem et_din (hu : X.A.units + 1 < cLine) (h : Ev X e σ H fun y H1 => Ev X o σ H1 fun x H2 => ∃ a r, x = .ref a ∧ DGet H2 a y r ∧ T r.isSome H2) (hm : behindInMarks .In o = false := by with_unfolding_all rfl) : Et X (.Compare e [.In] [o] pos) σ H T :=
 et_of (pt_cmp (pc_din hu j0y j0y) hm) (h.mono fun y H1 h2 => h2.mono fun x H2 ⟨a, r, h3, h4, h5⟩ => ⟨a, r, h3, h4, _, rfl, h5⟩)
theorem et_dnotin (hu : X.A.units + 1 < cLine) (h : Ev X e σ H fun y H1 => Ev X o σ H1 fun x H2 => ∃ a r, x = .ref a ∧ DGet H2 a y r ∧ T (!r.isSome) H2) (hm : behindInMarks .NotIn o = false := by with_unfolding_all rfl) : Et X (.Compare e [.NotIn] [o] pos) σ H T :=
 et_of (pt_cmp (pc_dnotin hu j0y j0y) hm) (h.mono fun y H1 h2 => h2.mono fun x H2 ⟨a, r, h3, h4, h5⟩ => ⟨a, r, h3, h4, _, rfl, h5⟩)
theorem j2o {p2 : Pos} (hu : X.A.units + 1 < cLine) (h : Ev X f σ H fun v H1 => Ev X o σ H1 fun x H2 => Ev X e σ H2 fun y H3 => ∃ a H4, x = .ref a ∧ DPut H3 a y v H4 ∧ Run X rest D σ H4) (hs : swapsWith f (some (.Subscript o e p2)) pos.line X.env = pure false := by rfl) :
  Run X (.Assign [.Subscript o e p2] f pos :: rest) D σ H := j1j (ps_dput hu j0y j0y j0y hs) h
end
end L2
namespace Sort2
open PySem PySem.Spec PyProof.Rows
section
variable {prog : Program} {w : World} {A : Around} {E : Value → Shared → Prop} {s : Shared}
end
end Sort2
namespace L2
open PySem PySem.Spec PyProof.Rows Sort2
section
variable {X : Cx} {e : Expr} {σ : St} {H : Hp} {Q : VK} {pos p kp cp : Pos} {j : Nat}
end
end L2
namespace Nt
open PySem
noncomputable abbrev Net := List (Str × List Str)
noncomputable abbrev End := Nat × Nat
noncomputable def row (n : Net) (r : Nat) : List Str := ((n[r]?).map (·.2)).getD []
noncomputable def j01 (n : Net) (e : End) : Option Str := (row n e.1)[e.2]?
noncomputable def j0j (r : Nat) (ts : List Str) (p : Nat) : List (Str × End) := (ts.zipIdx p).map fun x => (x.1, (r, x.2))
noncomputable def j0x (r : Nat) : Net → List (Str × End)
 | [] => []
 | a :: n => j0j r a.2 0 ++ j0x (r + 1) n
noncomputable def j0s (n : Net) : List (Str × End) := j0x 0 n
noncomputable def ends (n : Net) : List End := (j0s n).map (·.2)
noncomputable def ties (n : Net) : List Str := n.flatMap (·.2)
noncomputable def pos (n : Net) (z : Str) : List End := ((j0s n).filter fun x => decide (x.1 = z)).map (·.2)
theorem mem_rowSeats {r : Nat} {ts : List Str} {p : Nat} {z : Str} {e : End} : (z, e) ∈ j0j r ts p ↔ e.1 = r ∧ p ≤ e.2 ∧ ts[e.2 - p]? = some z := by
 unfold j0j
 rw [List.mem_map]
 constructor
 ·rintro ⟨⟨y, k⟩, hm, he⟩
  cases he
  have := List.mem_zipIdx_iff_le_and_getElem?_sub.mp hm
  exact ⟨rfl, this.1, this.2⟩
 ·rintro ⟨h1, h2, h3⟩
  refine ⟨(z, e.2), List.mem_zipIdx_iff_le_and_getElem?_sub.mpr ⟨h2, h3⟩, ?_⟩
  rw [← h1]
theorem mem_seatsFrom : ∀ {n : Net} {k : Nat} {z : Str} {e : End}, (z, e) ∈ j0x k n ↔ k ≤ e.1 ∧ (row n (e.1 - k))[e.2]? = some z
 | [], k, z, e => by
  constructor
  ·intro h; cases h
  ·rintro ⟨_, h⟩
   simp [row] at h
 | a :: n, k, z, e => by
  unfold j0x
  rw [List.mem_append, mem_rowSeats, mem_seatsFrom]
  constructor
  ·rintro (⟨h1, _, h3⟩ | ⟨h1, h2⟩)
   ·refine ⟨by omega, ?_⟩
    rw [show e.1 - k = 0 by omega]
    simpa [row] using h3
   ·refine ⟨by omega, ?_⟩
    rw [show e.1 - k = (e.1 - (k + 1)) + 1 by omega]
    simpa [row] using h2
  ·rintro ⟨h1, h2⟩
   rcases Nat.lt_or_ge k e.1 with h | h
   ·refine .inr ⟨h, ?_⟩
    rw [show e.1 - k = (e.1 - (k + 1)) + 1 by omega] at h2
    simpa [row] using h2
   ·refine .inl ⟨by omega, Nat.zero_le _, ?_⟩
    rw [show e.1 - k = 0 by omega] at h2
    simpa [row] using h2
theorem mem_seats {n : Net} {z : Str} {e : End} : (z, e) ∈ j0s n ↔ j01 n e = some z := by
 unfold j0s j01
 rw [mem_seatsFrom]
 simp
theorem mem_ends {n : Net} {e : End} : e ∈ ends n ↔ ∃ z, j01 n e = some z := by
 unfold ends
 rw [List.mem_map]
 constructor
 ·rintro ⟨⟨z, e'⟩, h, rfl⟩
  exact ⟨z, mem_seats.mp h⟩
 ·rintro ⟨z, h⟩
  exact ⟨(z, e), mem_seats.mpr h, rfl⟩
theorem mem_pos {n : Net} {z : Str} {e : End} : e ∈ pos n z ↔ j01 n e = some z := by
 unfold pos
 rw [List.mem_map]
 constructor
 ·rintro ⟨⟨y, e'⟩, h, rfl⟩
  rw [List.mem_filter, decide_eq_true_eq] at h
  obtain ⟨h1, h2⟩ := h
  subst h2
  exact mem_seats.mp h1
 ·intro h
  exact ⟨(z, e), List.mem_filter.mpr ⟨mem_seats.mpr h, by simp⟩, rfl⟩
theorem seats_names_row (r : Nat) : ∀ (ts : List Str) (p : Nat), (j0j r ts p).map (·.1) = ts := by
 intro ts p
 unfold j0j
 rw [List.map_map]
 have : ((fun x : Str × End => x.1) ∘ fun x : Str × Nat => (x.1, (r, x.2))) = Prod.fst := rfl
 rw [this, List.zipIdx_map_fst]
theorem j07 : ∀ (n : Net) (k : Nat), (j0x k n).map (·.1) = ties n
 | [], _ => rfl
 | a :: n, k => by
  unfold j0x ties
  rw [List.map_append, seats_names_row, j07 n (k + 1), List.flatMap_cons]
  rfl
theorem rowSeats_nodup (r : Nat) (ts : List Str) (p : Nat) : ((j0j r ts p).map (·.2)).Nodup := by
 unfold j0j
 rw [List.map_map]
 have e : ((fun x : Str × End => x.2) ∘ fun x : Str × Nat => (x.1, (r, x.2))) = (fun k : Nat => (r, k)) ∘ Prod.snd := rfl
 rw [e, ← List.map_map, List.zipIdx_map_snd]
 refine List.Pairwise.map _ (R := (· ≠ ·)) ?_ List.nodup_range'
 intro a b h hab
 exact h (Prod.mk.inj hab).2
theorem j2z : ∀ (n : Net) (k : Nat), ((j0x k n).map (·.2)).Nodup
 | [], _ => List.nodup_nil
 | a :: n, k => by
  unfold j0x
  rw [List.map_append, List.nodup_append]
  refine ⟨rowSeats_nodup _ _ _, j2z n (k + 1), ?_⟩
  intro x hx y hy e
  subst e
  obtain ⟨⟨z, e1⟩, h1, rfl⟩ := List.mem_map.mp hx
  obtain ⟨⟨z2, e2⟩, h2, he⟩ := List.mem_map.mp hy
  simp only at he
  subst he
  have q1 := (mem_rowSeats.mp h1).1
  have q2 := (mem_seatsFrom.mp h2).1
  omega
theorem ends_nodup (n : Net) : (ends n).Nodup := j2z n 0
theorem pos_nodup (n : Net) (z : Str) : (pos n z).Nodup := by
 unfold pos
 exact (ends_nodup n).sublist (List.Sublist.map _ (List.filter_sublist))
theorem pos_len (n : Net) (z : Str) : (pos n z).length = (ties n).count z := by
 unfold pos
 rw [List.length_map, ← j07 n 0, ← List.countP_eq_length_filter, List.count, List.countP_map]
 rfl
noncomputable def j1g (n : Net) : Prop := ∀ z ∈ ties n, (ties n).count z = 2
theorem j2s {n : Net} {e : End} {z : Str} (h : j01 n e = some z) : z ∈ ties n := by
 have := mem_seats.mpr h
 rw [← j07 n 0]
 exact List.mem_map.mpr ⟨_, this, rfl⟩
noncomputable def other (n : Net) (e : End) : End := match j01 n e with
 | some z => (match pos n z with
  | [a, b] => if a = e then b else a
  | _ => e)
 | none => e
theorem pos_two {n : Net} (T : j1g n) {e : End} {z : Str} (h : j01 n e = some z) : ∃ a b, pos n z = [a, b] ∧ a ≠ b ∧ (e = a ∨ e = b) := by
 have hl := pos_len n z
 rw [T z (j2s h)] at hl
 have hn := pos_nodup n z
 have hm := mem_pos.mpr h
 match hp : pos n z, hl with
 | [a, b], _ =>
  rw [hp] at hn hm
  refine ⟨a, b, rfl, ?_, ?_⟩
  ·intro e
   subst e
   simp at hn
  ·simpa using hm
theorem j18 {n : Net} (T : j1g n) {e : End} {z : Str} (h : j01 n e = some z) : j01 n (other n e) = some z ∧ other n (other n e) = e ∧ other n e ≠ e := by
 obtain ⟨a, b, hp, hab, he⟩ := pos_two T h
 have ha : j01 n a = some z := mem_pos.mp (by rw [hp]; simp)
 have hb : j01 n b = some z := mem_pos.mp (by rw [hp]; simp)
 rcases he with rfl | rfl
 ·have e1 : other n e = b := by unfold other; simp only [h, hp]; simp
  have e2 : other n b = e := by unfold other; simp only [hb, hp]; simp [hab]
  rw [e1]
  exact ⟨hb, e2, hab.symm⟩
 ·have e1 : other n e = a := by unfold other; simp only [h, hp]; simp [hab]
  have e2 : other n a = e := by unfold other; simp only [ha, hp]; simp
  rw [e1]
  exact ⟨ha, e2, hab⟩
noncomputable def left (n : Net) (e : End) : End := (e.1, (e.2 + 1) % (row n e.1).length)
noncomputable def step (n : Net) (e : End) : End := left n (other n e)
theorem end_lt {n : Net} {e : End} {z : Str} (h : j01 n e = some z) : e.2 < (row n e.1).length := (List.getElem?_eq_some_iff.mp h).1
theorem j1r {n : Net} {e : End} {z : Str} (h : j01 n e = some z) : e.1 < n.length := by
 rcases Nat.lt_or_ge e.1 n.length with c | c
 ·exact c
 ·have := end_lt h
  unfold row at this
  rw [List.getElem?_eq_none c] at this
  simp at this
theorem end_of {n : Net} {e : End} (h : e.2 < (row n e.1).length) : ∃ z, j01 n e = some z := ⟨_, List.getElem?_eq_getElem h⟩
theorem left_end {n : Net} {e : End} (h : e ∈ ends n) : left n e ∈ ends n := by
 obtain ⟨z, h⟩ := mem_ends.mp h
 have := end_lt h
 exact mem_ends.mpr (end_of (show (e.2 + 1) % (row n e.1).length < (row n e.1).length from Nat.mod_lt _ (by omega)))
theorem j2i {n : Net} (T : j1g n) {e : End} (h : e ∈ ends n) : other n e ∈ ends n := by
 obtain ⟨z, h⟩ := mem_ends.mp h
 exact mem_ends.mpr ⟨z, (j18 T h).1⟩
theorem step_end {n : Net} (T : j1g n) {e : End} (h : e ∈ ends n) : step n e ∈ ends n := left_end (j2i T h)
theorem left_inj {n : Net} {a b : End} (ha : a ∈ ends n) (hb : b ∈ ends n) (h : left n a = left n b) : a = b := by
 obtain ⟨z, ha⟩ := mem_ends.mp ha
 obtain ⟨y, hb⟩ := mem_ends.mp hb
 have la := end_lt ha
 have lb := end_lt hb
 unfold left at h
 obtain ⟨h1, h2⟩ := Prod.mk.inj h
 rw [h1] at la h2
 have : a.2 = b.2 := by
  rcases Nat.lt_or_ge (a.2 + 1) (row n b.1).length with c | c <;> rcases Nat.lt_or_ge (b.2 + 1) (row n b.1).length with d | d
  ·rw [Nat.mod_eq_of_lt c, Nat.mod_eq_of_lt d] at h2; omega
  ·have e : b.2 + 1 = (row n b.1).length := by omega
   rw [Nat.mod_eq_of_lt c, e, Nat.mod_self] at h2; omega
  ·have e : a.2 + 1 = (row n b.1).length := by omega
   rw [Nat.mod_eq_of_lt d, e, Nat.mod_self] at h2; omega
  ·omega
 exact Prod.ext h1 this
theorem other_inj {n : Net} (T : j1g n) {a b : End} (ha : a ∈ ends n) (hb : b ∈ ends n) (h : other n a = other n b) : a = b := by
 obtain ⟨z, ha⟩ := mem_ends.mp ha
 obtain ⟨y, hb⟩ := mem_ends.mp hb
 rw [← (j18 T ha).2.1, h, (j18 T hb).2.1]
theorem step_inj {n : Net} (T : j1g n) {a b : End} (ha : a ∈ ends n) (hb : b ∈ ends n) (h : step n a = step n b) : a = b :=
 other_inj T ha hb (left_inj (j2i T ha) (j2i T hb) h)
theorem nodup_le {α : Type} [DecidableEq α] : ∀ {a b : List α}, a.Nodup → (∀ z ∈ a, z ∈ b) → a.length ≤ b.length
 | [], b, _, _ => Nat.zero_le _
 | x :: r, b, hn, hs => by
  rw [List.nodup_cons] at hn
  have hx := hs x List.mem_cons_self
  have := nodup_le (a := r) (b := b.erase x) hn.2 fun z hz => by
   have hne : z ≠ x := fun e => hn.1 (e ▸ hz)
   exact (List.mem_erase_of_ne hne).mpr (hs z (List.mem_cons_of_mem _ hz))
  rw [List.length_erase_of_mem hx] at this
  have hp : 0 < b.length := List.length_pos_of_mem hx
  rw [List.length_cons]
  omega
noncomputable def it {α : Type} (f : α → α) : Nat → α → α
 | 0, a => a
 | k + 1, a => f (it f k a)
theorem it_mem {α : Type} {f : α → α} {S : List α} (hf : ∀ a ∈ S, f a ∈ S) {a : α} (h : a ∈ S) : ∀ k, it f k a ∈ S
 | 0 => h
 | k + 1 => hf _ (it_mem hf h k)
theorem comes_back {α : Type} [DecidableEq α] {f : α → α} {S : List α} (hf : ∀ a ∈ S, f a ∈ S) (inj : ∀ a ∈ S, ∀ b ∈ S, f a = f b → a = b) {a : α} (h : a ∈ S) : ∃ k, 0 < k ∧ k ≤ S.length ∧ it f k a = a := by
 have cancel : ∀ i j, it f i a = it f (i + j) a → it f j a = a := by
  intro i
  induction i with
  | zero => intro j e; rw [Nat.zero_add] at e; exact e.symm
  | succ i ih =>
   intro j e
   refine ih j ?_
   rw [show i + 1 + j = (i + j) + 1 by omega] at e
   exact inj _ (it_mem hf h i) _ (it_mem hf h (i + j)) e
 refine Classical.byContradiction fun hn => ?_
 have nd : ((List.range (S.length + 1)).map fun i => it f i a).Nodup := by
  refine List.Pairwise.map _ (R := fun i j => i < j ∧ j < S.length + 1) ?_ ?_
  ·rintro i j ⟨h1, h2⟩ e
   refine hn ⟨j - i, by omega, by omega, cancel i (j - i) ?_⟩
   rw [show i + (j - i) = j by omega]
   exact e
  ·rw [List.pairwise_iff_getElem]
   intro i j hi hj hij
   simp only [List.getElem_range]
   simp at hj
   exact ⟨hij, hj⟩
 have := nodup_le nd fun z hz => by
  obtain ⟨i, _, rfl⟩ := List.mem_map.mp hz
  exact it_mem hf h i
 simp at this
 omega
theorem j3c : ∀ (n : Net) (r : Nat), (row n r).length ≤ (ties n).length
 | [], r => by simp [row, ties]
 | a :: n, 0 => by simp [row, ties]
 | a :: n, r + 1 => by
  have := j3c n r
  simp [row, ties] at this ⊢
  omega
theorem j2r : ∀ (n : Net) (r : Nat), (ties (n.take r)).length ≤ (ties n).length
 | [], r => by simp [ties]
 | a :: n, 0 => by simp [ties]
 | a :: n, r + 1 => by
  have := j2r n r
  simp [ties] at this ⊢
  omega
structure IsFace (n : Net) (e : Nt.End) (fs : List End) : Prop where
 pos : 0 < fs.length
 len : fs.length ≤ (ends n).length
 at' : ∀ i, i < fs.length → fs[i]? = some (it (step n) i e)
 back : it (step n) fs.length e = e
 first : ∀ i, 0 < i → i < fs.length → it (step n) i e ≠ e
end Nt
namespace Nt
open PySem L2
noncomputable abbrev Ls (zs : List Str) : HO := .lst (zs.map V.str)
noncomputable abbrev Tp (e : End) : HO := .tup [.int e.1, .int e.2]
structure RowsAt (H : Hp) (R : Addr) (as : List (Addr × Addr)) (n : Net) : Prop where
 len : as.length = n.length
 lst : H R = some (.lst (as.map fun a => .ref a.1))
 tup : ∀ (i : Nat) a r, as[i]? = some a → n[i]? = some r → H a.1 = some (.tup [.str r.1, .ref a.2]) ∧ H a.2 = some (Ls r.2)
 inj : (as.map (·.2)).Nodup
theorem RowsAt.same {H H' : Hp} {R : Addr} {as : List (Addr × Addr)} {n : Net} (h : RowsAt H R as n) (s : Same H H') : RowsAt H' R as n :=
 ⟨h.len, s _ _ h.lst, fun i a r h1 h2 => ⟨s _ _ (h.tup i a r h1 h2).1, s _ _ (h.tup i a r h1 h2).2⟩, h.inj⟩
theorem RowsAt.at {H : Hp} {R : Addr} {as : List (Addr × Addr)} {n : Net} (h : RowsAt H R as n) {i : Nat} (hi : i < n.length) :
  ∃ a, as[i]? = some a ∧ atI (as.map fun a => V.ref a.1) (i : Int) = some (.ref a.1) ∧ H a.1 = some (.tup [.str n[i].1, .ref a.2]) ∧ H a.2 = some (Ls (row n i)) ∧ row n i = n[i].2 := by
 have hl := h.len
 have e : as[i]? = some as[i] := List.getElem?_eq_getElem (by omega)
 have er : row n i = n[i].2 := by unfold row; rw [List.getElem?_eq_getElem hi]; rfl
 have q := h.tup i as[i] n[i] e (List.getElem?_eq_getElem hi)
 refine ⟨as[i], e, atI_nat (by rw [List.getElem?_map, e]; rfl), q.1, ?_, er⟩
 rw [er]
 exact q.2
theorem at_strs {zs : List Str} {j : Nat} {z : Str} (h : zs[j]? = some z) : atI (zs.map V.str) (j : Int) = some (.str z) := atI_nat (by rw [List.getElem?_map, h]; rfl)
inductive Pd (H : Hp) : List Addr → List End → Prop where
 | nil : Pd H [] []
 | cons {t : Addr} {e : End} {ts : List Addr} {es : List End} : H t = some (Tp e) → Pd H ts es → Pd H (t :: ts) (e :: es)
theorem Pd.append {H : Hp} {ts us : List Addr} {es fs : List End} (h : Pd H ts es) (g : Pd H us fs) : Pd H (ts ++ us) (es ++ fs) := by
 induction h with
 | nil => exact g
 | cons h1 _ ih => exact .cons h1 ih
theorem Pd.keep {H H' : Hp} {ts : List Addr} {es : List End} (h : Pd H ts es) (k : ∀ t e, H t = some (Tp e) → H' t = some (Tp e)) : Pd H' ts es := by
 induction h with
 | nil => exact .nil
 | cons h1 _ ih => exact .cons (k _ _ h1) ih
theorem Pd.length {H : Hp} {ts : List Addr} {es : List End} (h : Pd H ts es) : ts.length = es.length := by
 induction h with
 | nil => rfl
 | cons _ _ ih => rw [List.length_cons, List.length_cons, ih]
theorem Pd.at {H : Hp} {ts : List Addr} {es : List End} (h : Pd H ts es) : ∀ {i : Nat} {e : End}, es[i]? = some e → ∃ t, ts[i]? = some t ∧ H t = some (Tp e) := by
 induction h with
 | nil => intro i e h; simp at h
 | cons h1 _ ih =>
  intro i e h
  cases i with
  | zero => simp at h; subst h; exact ⟨_, rfl, h1⟩
  | succ i => simp only [List.getElem?_cons_succ] at h ⊢; exact ih h
noncomputable def j08 (done : List (Str × End)) (z : Str) : List End := (done.filter fun x => decide (x.1 = z)).map (·.2)
theorem j0m (done : List (Str × End)) (y z : Str) (e : End) : j08 (done ++ [(y, e)]) z = j08 done z ++ (if y = z then [e] else []) := by
 unfold j08
 rw [List.filter_append, List.map_append]
 congr 1
 by_cases h : y = z
 ·rw [if_pos h]; simp [h]
 ·rw [if_neg h]; simp [h]
structure SeatsOn (H0 H : Hp) (d : Addr) (done : List (Str × End)) (kvs : List (Key × V)) (ks : List Str) (A : Str → Option (Addr × List Addr)) : Prop where
 same : Same H0 H
 free : H0 d = none
 dict : H d = some (.dK kvs)
 keys : kvs.map (·.1) = ks.map Sum.inr
 nodup : ks.Nodup
 mem : ∀ z, z ∈ ks ↔ (A z).isSome = true
 val : ∀ z, valV kvs (Sum.inr z) = (A z).map fun a => .ref a.1
 at' : ∀ z a ts, A z = some (a, ts) → H0 a = none ∧ a ≠ d ∧ H a = some (.lst (ts.map V.ref)) ∧ Pd H ts (j08 done z)
 inj : ∀ z y a ts us, A z = some (a, ts) → A y = some (a, us) → z = y
 none' : ∀ z, A z = none → j08 done z = []
 some' : ∀ z a ts, A z = some (a, ts) → j08 done z ≠ []
theorem SeatsOn.start {H : Hp} {d : Addr} (h : H d = none) : SeatsOn H (upd H d (.dK [])) d [] [] [] (fun _ => none) where
 same := fun b u q => by rw [j0d (j0f q h)]; exact q
 free := h
 dict := j0b
 keys := rfl
 nodup := List.nodup_nil
 mem := fun z => by simp
 val := fun z => rfl
 at' := fun z a ts h => by cases h
 inj := fun z y a ts us h => by cases h
 none' := fun z _ => rfl
 some' := fun z a ts h => by cases h
theorem tp_ne_lst {H : Hp} {t a : Addr} {e : End} {xs : List V} (h : H t = some (Tp e)) (g : H a = some (.lst xs)) : t ≠ a := j1q h g fun z => nomatch z
theorem SeatsOn.old {H0 H : Hp} {d : Addr} {done : List (Str × End)} {kvs : List (Key × V)} {ks : List Str} {A : Str → Option (Addr × List Addr)} (S : SeatsOn H0 H d done kvs ks A) {z : Str} {e : End} {a l0 t : Addr} {ts : List Addr}
  (hA : A z = some (a, ts)) (hl : H l0 = none) (ht : (upd H l0 (.lst [])) t = none) :
  SeatsOn H0 (upd (upd (upd H l0 (.lst [])) t (Tp e)) a (.lst (ts.map V.ref ++ [.ref t]))) d (done ++ [(z, e)]) kvs ks (fun y => if y = z then some (a, ts ++ [t]) else A y) := by
 obtain ⟨q1, q2, q3, q4⟩ := S.at' z a ts hA
 have htH : H t = none := by
  by_cases c : t = l0
  ·rw [c, j0b] at ht; cases ht
  ·rwa [j0d c] at ht
 have hla : l0 ≠ a := (j0f q3 hl).symm
 have hta : t ≠ a := (j0f q3 htH).symm
 have hat : a ≠ t := hta.symm
 have keep : ∀ b u, b ≠ a → H b = some u → (upd (upd (upd H l0 (.lst [])) t (Tp e)) a (.lst (ts.map V.ref ++ [.ref t]))) b = some u := fun b u h1 h2 => by
  rw [j0d h1, j0d (j0f h2 htH), j0d (j0f h2 hl)]
  exact h2
 have kt : ∀ b f, H b = some (Tp f) → (upd (upd (upd H l0 (.lst [])) t (Tp e)) a (.lst (ts.map V.ref ++ [.ref t]))) b = some (Tp f) := fun b f h => keep b _ (tp_ne_lst h q3) h
 have et : (upd (upd (upd H l0 (.lst [])) t (Tp e)) a (.lst (ts.map V.ref ++ [.ref t]))) t = some (Tp e) := by rw [j0d hta, j0b]
 refine ⟨fun b u h => ?_, S.free, keep d _ (Ne.symm q2) S.dict, S.keys, S.nodup, fun y => ?_, fun y => ?_, fun y a' ts' h => ?_, fun y y' a' ts' us h1 h2 => ?_, fun y h => ?_, fun y a' ts' h => ?_⟩
 ·exact keep b u (j0f h q1) (S.same _ _ h)
 ·rw [S.mem y]
  by_cases c : y = z
  ·rw [if_pos c, c, hA]; simp
  ·rw [if_neg c]
 ·rw [S.val y]
  by_cases c : y = z
  ·rw [if_pos c, c, hA]; rfl
  ·rw [if_neg c]
 ·by_cases c : y = z
  ·rw [if_pos c] at h
   cases h
   refine ⟨q1, q2, by rw [j0b, List.map_append]; rfl, ?_⟩
   rw [j0m, c, if_pos rfl]
   exact (q4.keep kt).append (.cons et .nil)
  ·rw [if_neg c] at h
   obtain ⟨r1, r2, r3, r4⟩ := S.at' y a' ts' h
   have hne : a' ≠ a := fun e2 => c (S.inj y z a ts' ts (e2 ▸ h) hA)
   refine ⟨r1, r2, keep _ _ hne r3, ?_⟩
   rw [j0m, if_neg (fun h => c h.symm), List.append_nil]
   exact r4.keep kt
 ·by_cases c : y = z <;> by_cases c' : y' = z
  ·rw [c, c']
  ·rw [if_pos c] at h1
   rw [if_neg c'] at h2
   cases h1
   exact absurd (S.inj y' z a us ts h2 hA) c'
  ·rw [if_neg c] at h1
   rw [if_pos c'] at h2
   cases h2
   exact absurd (S.inj y z a ts' ts h1 hA) c
  ·rw [if_neg c] at h1
   rw [if_neg c'] at h2
   exact S.inj y y' a' ts' us h1 h2
 ·by_cases c : y = z
  ·rw [if_pos c] at h; cases h
  ·rw [if_neg c] at h
   rw [j0m, if_neg (fun h => c h.symm), List.append_nil]
   exact S.none' y h
 ·by_cases c : y = z
  ·rw [j0m, if_pos c.symm]
   simp
  ·rw [if_neg c] at h
   rw [j0m, if_neg (fun h => c h.symm), List.append_nil]
   exact S.some' y a' ts' h
theorem SeatsOn.new {H0 H : Hp} {d : Addr} {done : List (Str × End)} {kvs : List (Key × V)} {ks : List Str} {A : Str → Option (Addr × List Addr)} (S : SeatsOn H0 H d done kvs ks A) {z : Str} {e : End} {l0 t : Addr}
  (hA : A z = none) (hl : H l0 = none) (ht : (upd (upd H l0 (.lst [])) d (.dK (putK kvs (Sum.inr z) (.ref l0)))) t = none) :
  SeatsOn H0 (upd (upd (upd (upd H l0 (.lst [])) d (.dK (putK kvs (Sum.inr z) (.ref l0)))) t (Tp e)) l0 (.lst [.ref t])) d (done ++ [(z, e)]) (putK kvs (Sum.inr z) (.ref l0)) (ks ++ [z]) (fun y => if y = z then some (l0, [t]) else A y) := by
 have hdl : d ≠ l0 := j0f S.dict hl
 have htd : t ≠ d := fun c => by rw [c, j0b] at ht; cases ht
 have htl : t ≠ l0 := fun c => by rw [j0d htd, c, j0b] at ht; cases ht
 have htH : H t = none := by rwa [j0d htd, j0d htl] at ht
 have vn : valV kvs (Sum.inr z) = none := by rw [S.val z, hA]; rfl
 have keep : ∀ b u, b ≠ d → H b = some u → (upd (upd (upd (upd H l0 (.lst [])) d (.dK (putK kvs (Sum.inr z) (.ref l0)))) t (Tp e)) l0 (.lst [.ref t])) b = some u := fun b u h1 h2 => by
  rw [j0d (j0f h2 hl), j0d (j0f h2 htH), j0d h1, j0d (j0f h2 hl)]
  exact h2
 have kt : ∀ b f, H b = some (Tp f) → (upd (upd (upd (upd H l0 (.lst [])) d (.dK (putK kvs (Sum.inr z) (.ref l0)))) t (Tp e)) l0 (.lst [.ref t])) b = some (Tp f) := fun b f h => keep b _ (j1q h S.dict fun z => nomatch z) h
 have h0l : H0 l0 = none := S.same.free hl
 have zk : z ∉ ks := fun h => by
  have := (S.mem z).mp h
  rw [hA] at this
  cases this
 refine ⟨fun b u h => ?_, S.free, ?_, ?_, ?_, fun y => ?_, fun y => ?_, fun y a' ts' h => ?_, fun y y' a' ts' us h1 h2 => ?_, fun y h => ?_, fun y a' ts' h => ?_⟩
 ·exact keep b u (j0f h S.free) (S.same _ _ h)
 ·rw [j0d hdl, j0d htd.symm, j0b]
 ·rw [putK_new _ vn, List.map_append, S.keys, List.map_append]
  rfl
 ·rw [List.nodup_append]
  exact ⟨S.nodup, by simp, fun x hx y hy e => by rw [List.mem_singleton] at hy; subst hy e; exact zk hx⟩
 ·rw [List.mem_append, List.mem_singleton, S.mem y]
  by_cases c : y = z
  ·rw [if_pos c]; simp [c]
  ·rw [if_neg c]; simp [c]
 ·rw [j0q]
  by_cases c : y = z
  ·rw [if_pos (by rw [c]), if_pos c]; rfl
  ·rw [if_neg (fun h => c (Sum.inr.inj h)), if_neg c, S.val y]
 ·by_cases c : y = z
  ·rw [if_pos c] at h
   cases h
   refine ⟨h0l, hdl.symm, by rw [j0b]; rfl, ?_⟩
   rw [j0m, c, if_pos rfl, S.none' z hA]
   exact .cons (by rw [j0d htl, j0b]) .nil
  ·rw [if_neg c] at h
   obtain ⟨r1, r2, r3, r4⟩ := S.at' y a' ts' h
   refine ⟨r1, r2, keep _ _ r2 r3, ?_⟩
   rw [j0m, if_neg (fun h => c h.symm), List.append_nil]
   exact r4.keep kt
 ·by_cases c : y = z <;> by_cases c' : y' = z
  ·rw [c, c']
  ·rw [if_pos c] at h1
   rw [if_neg c'] at h2
   cases h1
   exact absurd hl (by rw [(S.at' y' l0 us h2).2.2.1]; exact fun h => nomatch h)
  ·rw [if_neg c] at h1
   rw [if_pos c'] at h2
   cases h2
   exact absurd hl (by rw [(S.at' y l0 ts' h1).2.2.1]; exact fun h => nomatch h)
  ·rw [if_neg c] at h1
   rw [if_neg c'] at h2
   exact S.inj y y' a' ts' us h1 h2
 ·by_cases c : y = z
  ·rw [if_pos c] at h; cases h
  ·rw [if_neg c] at h
   rw [j0m, if_neg (fun h => c h.symm), List.append_nil]
   exact S.none' y h
 ·by_cases c : y = z
  ·rw [j0m, if_pos c.symm]
   simp
  ·rw [if_neg c] at h
   rw [j0m, if_neg (fun h => c h.symm), List.append_nil]
   exact S.some' y a' ts' h
theorem j11 : ∀ (n m : Net) (k : Nat), j0x k (n ++ m) = j0x k n ++ j0x (k + n.length) m
 | [], m, k => rfl
 | a :: n, m, k => by
  show j0j k a.2 0 ++ j0x (k + 1) (n ++ m) = (j0j k a.2 0 ++ j0x (k + 1) n) ++ j0x (k + (n.length + 1)) m
  rw [j11 n m (k + 1), List.append_assoc, show k + 1 + n.length = k + (n.length + 1) by omega]
theorem j16 {n : Net} {r : Nat} (h : r < n.length) : j0s (n.take (r + 1)) = j0s (n.take r) ++ j0j r (row n r) 0 := by
 unfold j0s
 rw [List.take_add_one, List.getElem?_eq_getElem h, j11]
 have e : (n.take r).length = r := by rw [List.length_take]; omega
 rw [e, Nat.zero_add]
 have er : row n r = n[r].2 := by unfold row; rw [List.getElem?_eq_getElem h]; rfl
 rw [er]
 show _ ++ (j0j r n[r].2 0 ++ []) = _
 rw [List.append_nil]
theorem j1p {r : Nat} {ts : List Str} {p : Nat} {z : Str} (h : ts[p]? = some z) : j0j r (ts.take (p + 1)) 0 = j0j r (ts.take p) 0 ++ [(z, (r, p))] := by
 unfold j0j
 have hp := (List.getElem?_eq_some_iff.mp h).1
 rw [List.take_add_one, h, List.zipIdx_append, List.map_append]
 have e : (ts.take p).length = p := by rw [List.length_take]; omega
 rw [e, Nat.zero_add]
 rfl
structure SeatsAt (H : Hp) (d : Addr) (n : Net) (ks : List Str) : Prop where
 dict : ∃ kvs, H d = some (.dK kvs) ∧ kvs.map (·.1) = ks.map Sum.inr ∧ ∀ z ∈ ties n, ∃ a ts, valV kvs (Sum.inr z) = some (.ref a) ∧ H a = some (.lst (ts.map V.ref)) ∧ Pd H ts (pos n z)
 nodup : ks.Nodup
 mem : ∀ z, z ∈ ks ↔ z ∈ ties n
theorem SeatsAt.same {H H' : Hp} {d : Addr} {n : Net} {ks : List Str} (S : SeatsAt H d n ks) (s : Same H H') : SeatsAt H' d n ks := by
 obtain ⟨kvs, h1, h2, h3⟩ := S.dict
 refine ⟨⟨kvs, s _ _ h1, h2, fun z hz => ?_⟩, S.nodup, S.mem⟩
 obtain ⟨a, ts, q1, q2, q3⟩ := h3 z hz
 exact ⟨a, ts, q1, s _ _ q2, q3.keep fun t e h => s _ _ h⟩
theorem ties_pos {n : Net} {z : Str} : z ∈ ties n ↔ pos n z ≠ [] := by
 rw [← List.count_pos_iff, ← pos_len, List.length_pos_iff]
theorem SeatsOn.whole {H0 H : Hp} {d : Addr} {n : Net} {kvs : List (Key × V)} {ks : List Str} {A : Str → Option (Addr × List Addr)} (S : SeatsOn H0 H d (j0s n) kvs ks A) : SeatsAt H d n ks := by
 have mem : ∀ z, z ∈ ks ↔ z ∈ ties n := fun z => by
  rw [S.mem z, ties_pos]
  cases h : A z with
  | none => simp; exact S.none' z h
  | some p =>
   obtain ⟨a, ts⟩ := p
   simp
   exact S.some' z a ts h
 refine ⟨⟨kvs, S.dict, S.keys, fun z hz => ?_⟩, S.nodup, mem⟩
 have := (S.mem z).mp ((mem z).mpr hz)
 cases h : A z with
 | none => rw [h] at this; cases this
 | some p =>
  obtain ⟨a, ts⟩ := p
  obtain ⟨q1, q2, q3, q4⟩ := S.at' z a ts h
  exact ⟨a, ts, by rw [S.val z, h]; rfl, q3, q4⟩
theorem all2 (e : Nat → Bool) : (List.range 2).all e = (e 0 && e 1) := by
 show (([0, 1] : List Nat).all e) = _
 simp
theorem dec_end (x y : End) : (eqV (.int x.1) (.int y.1) && eqV (.int x.2) (.int y.2)) = decide (x = y) := by
 obtain ⟨a, b⟩ := x
 obtain ⟨c, d⟩ := y
 by_cases h : a = c <;> by_cases h2 : b = d
 ·subst h h2; simp [eqV]
 ·have : ¬ (b : Int) = (d : Int) := fun e => h2 (by omega)
  simp [eqV, h2, this]
 ·have : ¬ (a : Int) = (c : Int) := fun e => h (by omega)
  simp [eqV, h, this]
 ·have : ¬ (a : Int) = (c : Int) := fun e => h (by omega)
  simp [eqV, h, this]
section
variable {X : Cx} {H : Hp} {s t : Addr} {x y : End}
theorem eqs_tp : ∀ (j : Nat) (u v : V), [V.int x.1, .int x.2][j]? = some u → [V.int y.1, .int y.2][j]? = some v → EqD X H 0 u v (if j = 0 then eqV (.int x.1) (.int y.1) else eqV (.int x.2) (.int y.2))
 | 0, u, v, h1, h2 => by
  cases h1
  cases h2
  exact j27 rfl rfl
 | 1, u, v, h1, h2 => by
  cases h1
  cases h2
  exact j27 rfl rfl
 | j + 2, u, v, h1, h2 => by simp at h1
theorem rcD_tp (hs : H s = some (Tp x)) (ht : H t = some (Tp y)) : RcD X H 1 (.ref s) (.ref t) (decide (x = y)) := by
 have := rcD_tup (X := X) (k := 0) (fun j => if j = 0 then eqV (.int x.1) (.int y.1) else eqV (.int x.2) (.int y.2)) (SqT.of hs) (SqT.of ht) rfl eqs_tp
 rw [show ([V.int (x.1 : Int), .int x.2].length) = 2 from rfl, all2] at this
 have e := dec_end x y
 simp only [if_true] at this
 rw [if_neg (by decide), e] at this
 exact this
theorem rnD_tp (hs : H s = some (Tp x)) (ht : H t = some (Tp y)) : RnD X H 1 (.ref s) (.ref t) (decide (x = y)) := by
 have := rnD_tup (X := X) (k := 0) (fun j => if j = 0 then eqV (.int x.1) (.int y.1) else eqV (.int x.2) (.int y.2)) (SqT.of hs) (SqT.of ht) rfl eqs_tp
 rw [show ([V.int (x.1 : Int), .int x.2].length) = 2 from rfl, all2] at this
 have e := dec_end x y
 simp only [if_true] at this
 rw [if_neg (by decide), e] at this
 exact this
end
end Nt
namespace Nt
open PySem L2
noncomputable abbrev lets : Str := "abcdefghijklmnopqrstuvwxyz0123456789"
theorem lets_len : lets.cps.toList.length = 36 := by decide +kernel
theorem lets_nodup : lets.cps.toList.Nodup := by decide +kernel
noncomputable def sgn (i : Int) : Nat := (atI lets.cps.toList (i % 36)).getD 0
theorem sgn_at (i : Int) : atI lets.cps.toList (i % 36) = some (sgn i) := by
 have h0 : 0 ≤ i % 36 := Int.emod_nonneg _ (by decide)
 have h1 : i % 36 < 36 := Int.emod_lt_of_pos _ (by decide)
 have hj : (i % 36).toNat < lets.cps.toList.length := by rw [lets_len]; omega
 have q := atI_nat (xs := lets.cps.toList) (j := (i % 36).toNat) (v := lets.cps.toList[(i % 36).toNat]) (by simp [hj])
 rw [show (((i % 36).toNat : Nat) : Int) = i % 36 by omega] at q
 unfold sgn
 rw [q]
 rfl
theorem sgn_inj {i j : Int} (h : sgn i = sgn j) : i % 36 = j % 36 := by
 have key : ∀ k : Int, lets.cps.toList[(k % 36).toNat]? = some (sgn k) := fun k => by
  have h0 : 0 ≤ k % 36 := Int.emod_nonneg _ (by decide)
  have h1 : k % 36 < 36 := Int.emod_lt_of_pos _ (by decide)
  have hj : (k % 36).toNat < lets.cps.toList.length := by rw [lets_len]; omega
  have q := atI_nat (xs := lets.cps.toList) (j := (k % 36).toNat) (v := lets.cps.toList[(k % 36).toNat]) (by simp [hj])
  rw [show (((k % 36).toNat : Nat) : Int) = k % 36 by omega, sgn_at] at q
  rw [List.getElem?_eq_getElem hj, Option.some.inj q]
 have hi := key i
 have hj := key j
 rw [h] at hi
 obtain ⟨l1, e1⟩ := List.getElem?_eq_some_iff.mp hi
 obtain ⟨l2, e2⟩ := List.getElem?_eq_some_iff.mp hj
 have := (List.getElem_inj (xs := lets.cps.toList) (h₀ := l1) (h₁ := l2) lets_nodup).mp (e1.trans e2.symm)
 have a0 : 0 ≤ i % 36 := Int.emod_nonneg _ (by decide)
 have b0 : 0 ≤ j % 36 := Int.emod_nonneg _ (by decide)
 omega
noncomputable def turn (b : Int) (sp : Int) (v k : Nat) : Int := b / 64 + (k : Int) * (b / 7 % 5) + (if (k : Int) = sp then (v : Int) else 0)
noncomputable def nm (b sp : Int) (v : Nat) : Nat → Str
 | 0 => ⟨#[]⟩
 | k + 1 => nm b sp v k ++ ⟨#[sgn (turn b sp v k)]⟩
theorem app_list (x y : Str) : (x ++ y).cps.toList = x.cps.toList ++ y.cps.toList := by
 show (x.cps ++ y.cps).toList = _
 simp
theorem nm_list (b sp : Int) (v : Nat) : ∀ k, (nm b sp v k).cps.toList = (List.range k).map fun j => sgn (turn b sp v j)
 | 0 => rfl
 | k + 1 => by
  show (nm b sp v k ++ ⟨#[sgn (turn b sp v k)]⟩).cps.toList = _
  rw [app_list, nm_list b sp v k, List.range_succ, List.map_append]
  rfl
theorem nm_inj {b sp : Int} {u v k : Nat} (hu : u < 36) (hv : v < 36) (h0 : 0 ≤ sp) (h1 : sp < (k : Int)) (h : nm b sp u k = nm b sp v k) : u = v := by
 have e : (nm b sp u k).cps.toList = (nm b sp v k).cps.toList := by rw [h]
 rw [nm_list, nm_list] at e
 have hk : sp.toNat < k := by omega
 have q : ((List.range k).map fun j => sgn (turn b sp u j))[sp.toNat]? = ((List.range k).map fun j => sgn (turn b sp v j))[sp.toNat]? := by rw [e]
 rw [List.getElem?_map, List.getElem?_map, List.getElem?_range hk] at q
 have q2 : sgn (turn b sp u sp.toNat) = sgn (turn b sp v sp.toNat) := Option.some.inj q
 have q3 := sgn_inj q2
 unfold turn at q3
 rw [show ((sp.toNat : Nat) : Int) = sp by omega, if_pos rfl, if_pos rfl] at q3
 omega
theorem fold_list (c : Nat) : ∀ (k : Nat) (acc : Array Nat), ((List.replicate k (#[c] : Array Nat)).foldl (· ++ ·) acc).toList = acc.toList ++ List.replicate k c
 | 0, acc => by simp
 | k + 1, acc => by
  rw [List.replicate_succ, List.foldl_cons, fold_list c k, List.replicate_succ]
  simp
theorem mul_list (c : Nat) {i : Int} (h : 1 ≤ i) : (Txt.mul ⟨#[c]⟩ i).cps.toList = List.replicate i.toNat c := by
 unfold Txt.mul
 rw [if_neg (by omega)]
 by_cases e : i = 1
 ·subst e
  rfl
 ·have e1 : (i == 1 || (⟨#[c]⟩ : Str).length == 0) = false := by
   have : (i == 1) = false := by simpa using e
   rw [this]
   rfl
  rw [e1]
  simp only [Bool.false_eq_true, if_false]
  have := fold_list c i.toNat #[]
  simpa using this
noncomputable def nameOf (b : Int) (v : Nat) : Str := if b % 3 = 2 then Txt.mul ⟨#[sgn (b / 64 + (v : Int) / 8)]⟩ (1 + (v : Int) % 8) else nm b (b / 8 % (1 + b % 8)) v (1 + b % 8).toNat
theorem nameOf_inj {b : Int} {u v : Nat} (hu : u < 36) (hv : v < 36) (h : nameOf b u = nameOf b v) : u = v := by
 have s0 : 0 ≤ b % 8 := Int.emod_nonneg _ (by decide)
 unfold nameOf at h
 by_cases c : b % 3 = 2
 ·rw [if_pos c, if_pos c] at h
  have u0 : 0 ≤ (u : Int) % 8 := Int.emod_nonneg _ (by decide)
  have v0 : 0 ≤ (v : Int) % 8 := Int.emod_nonneg _ (by decide)
  have e : (Txt.mul ⟨#[sgn (b / 64 + (u : Int) / 8)]⟩ (1 + (u : Int) % 8)).cps.toList = (Txt.mul ⟨#[sgn (b / 64 + (v : Int) / 8)]⟩ (1 + (v : Int) % 8)).cps.toList := by rw [h]
  rw [mul_list _ (by omega), mul_list _ (by omega)] at e
  have l := congrArg List.length e
  rw [List.length_replicate, List.length_replicate] at l
  have hd : (List.replicate (1 + (u : Int) % 8).toNat (sgn (b / 64 + (u : Int) / 8)))[0]? = (List.replicate (1 + (v : Int) % 8).toNat (sgn (b / 64 + (v : Int) / 8)))[0]? := by rw [e]
  rw [List.getElem?_replicate, List.getElem?_replicate, if_pos (by omega), if_pos (by omega)] at hd
  have q := sgn_inj (Option.some.inj hd)
  omega
 ·rw [if_neg c, if_neg c] at h
  refine nm_inj hu hv (Int.emod_nonneg _ (by omega)) ?_ h
  have := Int.emod_lt_of_pos (b / 8) (show 0 < 1 + b % 8 by omega)
  omega
noncomputable def namesOf (b : Int) (m : Nat) : List Str := (List.range m).map (nameOf b)
theorem namesOf_nodup {b : Int} {m : Nat} (h : m ≤ 36) : (namesOf b m).Nodup := by
 unfold namesOf
 refine List.Pairwise.map _ (R := fun i j => i < j ∧ j < m) ?_ ?_
 ·rintro i j ⟨h1, h2⟩ e
  have := nameOf_inj (by omega) (by omega) e
  omega
 ·rw [List.pairwise_iff_getElem]
  intro i j hi hj hij
  simp only [List.getElem_range]
  simp at hj
  exact ⟨hij, hj⟩
theorem namesOf_succ (b : Int) (m : Nat) : namesOf b (m + 1) = namesOf b m ++ [nameOf b m] := by
 unfold namesOf
 rw [List.range_succ, List.map_append]
 rfl
theorem j3e (b : Int) (m : Nat) : (namesOf b m).length = m := by unfold namesOf; simp
end Nt
namespace V5
open PySem L2 Nt
noncomputable def top (i : Nat) : Stmt := PySem.Challenge.pw_threewebs_k05_rows_that_hang_and_lie.main.body.getD i (.Pass ⟨0, 0, 0, 0⟩)
noncomputable abbrev sEnds : Stmt := top 7
noncomputable abbrev sOrder : Stmt := top 8
noncomputable abbrev sLeft : Stmt := top 9
noncomputable abbrev sOthers : Stmt := top 10
noncomputable abbrev sLS : Stmt := top 11
noncomputable abbrev sFaces : Stmt := top 13
noncomputable abbrev sFaceF : Stmt := top 14
noncomputable abbrev j2u : Stmt := top 18
noncomputable abbrev s_vet : Stmt := top 20
noncomputable abbrev j0r : Stmt := top 21
noncomputable abbrev j05 : Stmt := top 22
noncomputable abbrev j1c : Stmt := top 23
noncomputable abbrev j29 : Stmt := top 24
noncomputable abbrev j2e : Stmt := top 25
noncomputable abbrev j2v : Stmt := top 26
noncomputable abbrev sLinks : Stmt := top 27
noncomputable abbrev sSpread : Stmt := top 28
noncomputable abbrev sCell : Stmt := top 30
noncomputable abbrev sBig : Stmt := top 31
noncomputable abbrev sNames : Stmt := top 32
noncomputable abbrev sSeats : Stmt := top 33
noncomputable abbrev sOther : Stmt := top 34
noncomputable abbrev sStep : Stmt := top 35
noncomputable abbrev sFace : Stmt := top 36
noncomputable abbrev sCopy : Stmt := top 37
noncomputable abbrev j2a : Stmt := top 38
noncomputable abbrev s_l_hangs : Stmt := top 39
noncomputable abbrev s_l_faces : Stmt := top 40
noncomputable abbrev s_l_due : Stmt := top 41
noncomputable abbrev sLaw : Stmt := top 42
structure Txt (mg : Str → Option Value) : Prop where
 isi : mg "isinstance" = none
 ttuple : mg "tuple" = none
 tstr : mg "str" = none
 tint : mg "int" = none
 tbool : mg "bool" = none
 tlist : mg "list" = none
 tdict : mg "dict" = none
 tset : mg "set" = none
 enum : mg "enumerate" = none
 zip : mg "zip" = none
 len : mg "len" = none
 range : mg "range" = none
 sorted : mg "sorted" = none
 max : mg "max" = none
 all : mg "all" = none
 vale : mg "ValueError" = none
 signs : ∃ u, mg "SIGNS" = some u ∧ RelV (.str lets) u
 most : ∃ u, mg "LONGEST" = some u ∧ RelV (.int 8) u
end V5
namespace V5
open PySem L2 Nt Sort2
theorem small {n : Nat} (h : n ≤ 100000) : n ≤ sizeLine := by rw [sizeLine_eq]; omega
theorem j00 {n : Nat} (h : n ≤ 100000) : n < sizeLine := by rw [sizeLine_eq]; omega
theorem j0g {H : Hp} {p : Addr} (h : H p = none) (o : HO) : Same H (upd H p o) := fun b u q => by rw [j0d (j0f q h)]; exact q
theorem j02 {H1 H2 : Hp} {r : Addr} {o : HO} (s : Same H1 H2) (h : H1 r = none) : Same H1 (upd H2 r o) := fun b u q => by
 rw [j0d (j0f q h)]
 exact s _ _ q
theorem ls_app {H : Hp} {l : Addr} {zs : List Str} {y : Str} : upd H l (.lst (zs.map V.str ++ [V.str y])) = upd H l (Ls (zs ++ [y])) := by
 show _ = upd H l (.lst ((zs ++ [y]).map V.str))
 rw [List.map_append]
 rfl
noncomputable def spCell (K : PySem.W.Frag) : Sp := fun vs H Q _ => ∃ (a : Addr) (ns : List Int) (k : Int), vs = [.ref a, .int k] ∧ SqL K H a (ns.map V.int) ∧ 0 ≤ k ∧ ∀ i, Q (.int i) H
noncomputable def spBig (K : PySem.W.Frag) : Sp := fun vs H Q _ => ∃ (a : Addr) (ns : List Int) (k : Int), vs = [.ref a, .int k] ∧ SqL K H a (ns.map V.int) ∧ 0 ≤ k ∧ ∀ i H', Same H H' → Q (.int i) H'
noncomputable def spNames : Sp := fun vs H Q _ => ∃ (b m : Int), vs = [.int b, .int m] ∧ 0 ≤ m ∧ m ≤ 36 ∧ ∀ l H', Same H H' → H l = none → H' l = some (Ls (namesOf b m.toNat)) → Q (.ref l) H'
noncomputable def spSeats : Sp := fun vs H Q _ => ∃ (R : Addr) (as : List (Addr × Addr)) (n : Net), vs = [.ref R] ∧ RowsAt H R as n ∧ n.length ≤ 1000 ∧ (ties n).length ≤ 1000 ∧ ∀ d ks H', Same H H' → H d = none → SeatsAt H' d n ks → Q (.ref d) H'
noncomputable def spOther : Sp := fun vs H Q _ => ∃ (R d t : Addr) (as : List (Addr × Addr)) (n : Net) (ks : List Str) (e : Nt.End), vs = [.ref R, .ref d, .ref t] ∧ RowsAt H R as n ∧ SeatsAt H d n ks ∧ j1g n ∧ H t = some (Tp e) ∧ e ∈ ends n ∧ ∀ u, H u = some (Tp (other n e)) → Q (.ref u) H
noncomputable def spStep : Sp := fun vs H Q _ => ∃ (R d t : Addr) (as : List (Addr × Addr)) (n : Net) (ks : List Str) (e : Nt.End), vs = [.ref R, .ref d, .ref t, .int 1] ∧ RowsAt H R as n ∧ SeatsAt H d n ks ∧ j1g n ∧ H t = some (Tp e) ∧ e ∈ ends n ∧ ∀ u H', Same H H' → H u = none → H' u = some (Tp (step n e)) → Q (.ref u) H'
noncomputable def spFace : Sp := fun vs H Q _ => ∃ (R d t : Addr) (as : List (Addr × Addr)) (n : Net) (ks : List Str) (e : Nt.End), vs = [.ref R, .ref d, .ref t] ∧ RowsAt H R as n ∧ SeatsAt H d n ks ∧ j1g n ∧ H t = some (Tp e) ∧ e ∈ ends n ∧ (ends n).length ≤ 1000 ∧
 ∀ l ts fs H', Same H H' → H l = none → H' l = some (.lst (ts.map V.ref)) → Pd H' ts fs → IsFace n e fs → Q (.ref l) H'
section
variable {P : Program} {w : World} {K : PySem.W.Frag} {mg : Str → Option Value} {base : Heap}
theorem scCell : FnScope ["_law_script", "_law_k"] ["_law_script", "_law_k"] (j0c sCell) := ⟨rfl, rfl, rfl, by decide +kernel, rfl, by decide +kernel, by decide +kernel⟩
theorem at_ints {ns : List Int} {k : Int} (h0 : 0 ≤ k) (h1 : k < (ns.length : Int)) : ∃ v : Int, atI (ns.map V.int) k = some (.int v) := by
 have hj : k.toNat < ns.length := by omega
 have q := atI_nat (xs := ns.map V.int) (j := k.toNat) (v := .int ns[k.toNat]) (by simp [hj])
 rw [show ((k.toNat : Nat) : Int) = k by omega] at q
 exact ⟨_, q⟩
theorem ok_cell {f : Addr} {fd : FuncData} (F : Fun K "_law_cell_at" "_law_cell_at" sCell f fd) (T : Txt mg) : FnOk P w K mg base CX0 1 f fd ["_law_script", "_law_k"] (spCell K) := by
 refine F.gb scCell (fun vs H Q E h => ?_) (fun b0 H vs Q E hr h => ?_)
 ·obtain ⟨a, ns, k, rfl, _⟩ := h
  rfl
 obtain ⟨a, ns, k, rfl, hS, h0, q⟩ := h
 let X : Cx := cxB ["_law_script", "_law_k"] "_law_cell_at" (j0c sCell) P w K mg base b0
 show Run X _ _ [some (.ref a), some (.int k)] H
 refine j1n (j14 op_lt (ev_v 1 (j0u j0n T.len boot_len (j0a (ev_v 0 (j0e ⟨a, _, rfl, .inl hS, _, _, rfl, rfl, _, rfl, ?_⟩))))))
 refine ite2 (fun c => ?_) (fun c => ?_)
 ·have c' := of_decide_eq_true c
  obtain ⟨v, hv⟩ := at_ints (ns := ns) h0 (by rw [List.length_map] at c'; exact c')
  exact j0p (j09 j1k (ev_v 0 (ev_v 1 ⟨a, _, _, .int v, rfl, rfl, hS, hv, q v⟩)))
 ·exact j0i (j0p (j0h (q 0)))
noncomputable abbrev bys : List V := [.int 48271, .int 69621, .int 16807, .int 39373, .int 21401, .int 60493, .int 87721, .int 31337]
noncomputable abbrev prs : List V := [.int 99991, .int 99989, .int 99971, .int 99961, .int 99929, .int 99923, .int 99907, .int 99901]
theorem eight {i : Int} (h0 : 0 ≤ i) (h1 : i < 8) : i = 0 ∨ i = 1 ∨ i = 2 ∨ i = 3 ∨ i = 4 ∨ i = 5 ∨ i = 6 ∨ i = 7 := by
 obtain ⟨k, rfl⟩ := Int.eq_ofNat_of_zero_le h0
 exact (by decide : ∀ k : Fin 8, (k.1 : Int) = 0 ∨ (k.1 : Int) = 1 ∨ (k.1 : Int) = 2 ∨ (k.1 : Int) = 3 ∨ (k.1 : Int) = 4 ∨ (k.1 : Int) = 5 ∨ (k.1 : Int) = 6 ∨ (k.1 : Int) = 7) ⟨k, Int.ofNat_lt.mp h1⟩
theorem at_bys {i : Int} (h0 : 0 ≤ i) (h1 : i < 8) : ∃ m : Int, atI bys i = some (.int m) ∧ 0 < m ∧ m < 100000 := by
 rcases eight h0 h1 with rfl | rfl | rfl | rfl | rfl | rfl | rfl | rfl <;> exact ⟨_, rfl, by decide, by decide⟩
theorem at_prs {i : Int} (h0 : 0 ≤ i) (h1 : i < 8) : ∃ m : Int, atI prs i = some (.int m) ∧ 0 < m ∧ m < 100000 := by
 rcases eight h0 h1 with rfl | rfl | rfl | rfl | rfl | rfl | rfl | rfl <;> exact ⟨_, rfl, by decide, by decide⟩
theorem scBig : FnScope ["_law_script", "_law_at", "_law_by", "_law_prime", "_law_cell", "_law_big_here", "_law_k", "_law_one"] ["_law_script", "_law_at"] (j0c sBig) := ⟨rfl, rfl, rfl, by decide +kernel, rfl, by decide +kernel, by decide +kernel⟩
theorem ok_big {f : Addr} {fd : FuncData} (F : Fun K "_law_big" "_law_big" sBig f fd) (T : Txt mg) (G : Has P w K mg base 1 "_law_cell_at" ["_law_script", "_law_k"] (spCell K)) :
  FnOk P w K mg base CX0 2 f fd ["_law_script", "_law_at"] (spBig K) := by
 refine F.gb scBig (fun vs H Q E h => ?_) (fun b0 H vs Q E hr h => ?_)
 ·obtain ⟨a, ns, k, rfl, _⟩ := h
  rfl
 obtain ⟨a, ns, k, rfl, hS, h0, q⟩ := h
 have nd := scBig.nd
 let X : Cx := cxB ["_law_script", "_law_at", "_law_by", "_law_prime", "_law_cell", "_law_big_here", "_law_k", "_law_one"] "_law_big" (j0c sBig) P w K mg base b0
 show Run X _ _ [some (.ref a), some (.int k), none, none, none, none, none, none] H
 refine j0k 2 nd (j1f (j0a (j0h (j0a (j0h (j0a (j0h (j0a (j0h (j0a (j0h (j0a (j0h (j0a (j0h (j0a (j0h (j0e ⟨(by show 8 ≤ sizeLine; decide), fun p hp => ?_⟩))))))))))))))))))
 refine j0k 3 nd (j1f (j0a (j0h (j0a (j0h (j0a (j0h (j0a (j0h (j0a (j0h (j0a (j0h (j0a (j0h (j0a (j0h (j0e ⟨(by show 8 ≤ sizeLine; decide), fun p2 hp2 => ?_⟩))))))))))))))))))
 have npp : p ≠ p2 := by
  intro e
  rw [← e, j0b] at hp2
  cases hp2
 have s1 : Same H (upd H p (.tup bys)) := j0g hp _
 have s2 : Same H (upd (upd H p (.tup bys)) p2 (.tup prs)) := s1.trans (j0g hp2 _)
 have e1 : (upd (upd H p (.tup bys)) p2 (.tup prs)) p = some (.tup bys) := by rw [j0d npp, j0b]
 have e2 : (upd (upd H p (.tup bys)) p2 (.tup prs)) p2 = some (.tup prs) := j0b
 generalize upd (upd H p (.tup bys)) p2 (.tup prs) = H2 at s2 e1 e2 ⊢
 refine j0k 4 nd (j0v G hr (j0a (ev_v 0 (j0a (ev_v 1 (j0e ⟨a, ns, k, rfl, s2.seq hS, h0, fun b => ?_⟩))))))
 show Run _ _ _ [some (.ref a), some (.int k), some (.ref p), some (.ref p2), some (.int b), none, none, none] H2
 refine run_ifJ True True (fun R qq => ?_) (fun _ => ?_) (fun _ => j0i ?_)
 ·refine et_bool (ew_and (j14 op_eq (j0t j1i (ev_v 4 (j0h ⟨_, _, rfl, rfl, (by show (0 : Int) < 2; decide), j0h ⟨rfl, _, rfl, ?_⟩⟩)))))
  refine ite2 (fun c => ?_) (fun c => qq false (fun z => nomatch z) fun _ => trivial)
  exact ew_and1 (j14 op_gt (ev_v 4 (j0t op_pow (j0h (j0h ⟨_, _, rfl, rfl, ⟨by decide, by decide, by decide⟩, _, _, rfl, rfl, _, rfl, qq _ (fun _ => trivial) fun _ => trivial⟩)))))
 ·exact j0p (j0t j12 (ev_v 4 (j0h ⟨_, _, rfl, rfl, ⟨by decide, by decide⟩, q _ _ s2⟩)))
 refine j0k 5 nd (j0h ?_)
 refine j1z T.range (j0h ⟨60, rfl, by decide, by decide, j1l (n := 60) (fun _ σ H3 => H3 = H2 ∧ ∃ (x : Int) (u v : Option V), σ = [some (.ref a), some (.int k), some (.ref p), some (.ref p2), some (.int b), some (.int x), u, v]) ⟨rfl, 0, _, _, rfl⟩ ?_ ?_⟩)
 ·rintro i σ H3 hi ⟨rfl, x, u, v, rfl⟩
  have i9 : 0 ≤ (0 + (i : Int)) % 9 := Int.emod_nonneg _ (by decide)
  obtain ⟨m1, f1, g1, g2⟩ := at_bys (i := (0 + (i : Int)) % 8) (Int.emod_nonneg _ (by decide)) (Int.emod_lt_of_pos _ (by decide))
  obtain ⟨m2, f2, g3, g4⟩ := at_prs (i := (0 + (i : Int)) % 8) (Int.emod_nonneg _ (by decide)) (Int.emod_lt_of_pos _ (by decide))
  refine j0l 6 nd ?_
  refine j0k 7 nd (j0t j2b (j0t j2b (j0t j1i (j0v G hr (j0a (ev_v 0 (j0a (j0t j2b (ev_v 1 (j0t j1i (ev_v 6 (j0h ?_))))))))))))
  refine ⟨_, _, rfl, rfl, (by show (0 : Int) < 9; decide), _, _, rfl, rfl, j0e ⟨a, ns, _, rfl, s2.seq hS, ?_, fun c => ?_⟩⟩
  ·show 0 ≤ k + (0 + (i : Int)) % 9
   omega
  refine j0t op_pow (j0h (j0h ⟨_, _, rfl, rfl, ⟨by decide, by decide, by decide⟩, _, _, rfl, rfl, (by show (0 : Int) < 10 ^ (18 : Int).toNat; decide), j0h ⟨_, _, rfl, rfl, ?_⟩⟩))
  refine j0t op_mul (ev_v 6 (ev_v 6 ?_))
  refine ⟨_, _, rfl, rfl, .inl ⟨by omega, by omega⟩, _, _, rfl, rfl, ?_⟩
  refine j0k 5 nd (j0t j2b (j0t op_mul (ev_v 5 (j0h ⟨_, _, rfl, rfl, .inr ⟨by decide, by decide⟩, ?_⟩))))
  refine j0t j1i (j0t j1i (j0t op_mul (ev_v 7 (j09 j1h (ev_v 2 (j0t j1i (ev_v 6 (j0h ⟨_, _, rfl, rfl, (by show (0 : Int) < 8; decide), p, _, _, _, rfl, rfl, SqT.of e1, f1, _, _, rfl, rfl, .inr ⟨by omega, by omega⟩, ?_⟩))))))))
  refine j09 j1h (ev_v 3 (j0t j1i (ev_v 6 (j0h ⟨_, _, rfl, rfl, (by show (0 : Int) < 8; decide), p2, _, _, _, rfl, rfl, SqT.of e2, f2, _, _, rfl, rfl, g3, j0h ⟨_, _, rfl, rfl, (by show (0 : Int) < 7919; decide), _, _, rfl, rfl, ?_⟩⟩))))
  exact j0i ⟨rfl, _, _, _, rfl⟩
 ·rintro σ H3 ⟨rfl, x, u, v, rfl⟩
  exact j0p (ev_v 5 (q x _ s2))
noncomputable abbrev NN : List Str := ["_law_stem", "_law_many", "_law_signs", "_law_size", "_law_spot", "_law_names_here", "_law_v", "_law_name", "_law_k", "_law_turn"]
theorem scNames : FnScope NN ["_law_stem", "_law_many"] (j0c sNames) := ⟨rfl, rfl, rfl, by decide +kernel, rfl, by decide +kernel, by decide +kernel⟩
theorem ok_names {f : Addr} {fd : FuncData} (F : Fun K "_law_names" "_law_names" sNames f fd) (T : Txt mg) : FnOk P w K mg base CX0 1 f fd ["_law_stem", "_law_many"] spNames := by
 refine F.gb scNames (fun vs H Q E h => ?_) (fun b0 H vs Q E hr h => ?_)
 ·obtain ⟨b, m, rfl, _⟩ := h
  rfl
 obtain ⟨b, m, rfl, m0, m1, q⟩ := h
 have nd := scNames.nd
 have s0 : 0 ≤ b % 8 := Int.emod_nonneg _ (by decide)
 have s1 : b % 8 < 8 := Int.emod_lt_of_pos _ (by decide)
 let X : Cx := cxB NN "_law_names" (j0c sNames) P w K mg base b0
 show Run X _ _ [some (.int b), some (.int m), none, none, none, none, none, none, none, none] H
 refine j0k 2 nd (ev_str ?_)
 refine j0k 3 nd (j0t j2b (j0h (j0t j1i (ev_v 0 (j0h ⟨_, _, rfl, rfl, (by show (0 : Int) < 8; decide), _, _, rfl, rfl, ?_⟩)))))
 refine j0k 4 nd (j0t j1i (j0t j12 (ev_v 0 (j0h ⟨_, _, rfl, rfl, ⟨by decide, by decide⟩, ev_v 3 ⟨_, _, rfl, rfl, (by show 0 < 1 + b % 8; omega), ?_⟩⟩))))
 refine j0k 5 nd (j2p (j0e ⟨(by show 0 ≤ sizeLine; decide), fun l hl => ?_⟩))
 show Run _ _ _ [some (.int b), some (.int m), some (.str lets), some (.int (1 + b % 8)), some (.int (b / 8 % (1 + b % 8))), some (.ref l), none, none, none, none] _
 have spE : b / 8 % (1 + b % 8) = b / 8 % (1 + b % 8) := rfl
 refine j1z T.range (ev_v 1 ⟨m, rfl, by omega, by omega, j1l (n := m.toNat) (fun i σ H3 => H3 = upd H l (Ls (namesOf b i)) ∧ ∃ u1 u2 u3 u4, σ = [some (.int b), some (.int m), some (.str lets), some (.int (1 + b % 8)), some (.int (b / 8 % (1 + b % 8))), some (.ref l), u1, u2, u3, u4]) ⟨rfl, _, _, _, _, rfl⟩ ?_ ?_⟩)
 ·rintro i σ H3 hi ⟨rfl, u1, u2, u3, u4, rfl⟩
  refine j0l 6 nd ?_
  refine j0k 7 nd (ev_str ?_)
  refine j1z T.range (ev_v 3 ⟨_, rfl, by omega, by omega, j1l (n := (1 + b % 8).toNat) (fun j σ H4 => H4 = upd H l (Ls (namesOf b i)) ∧ ∃ (u3 u4 : Option V), σ = [some (.int b), some (.int m), some (.str lets), some (.int (1 + b % 8)), some (.int (b / 8 % (1 + b % 8))), some (.ref l), some (.int (0 + (i : Int))), some (.str (nm b (b / 8 % (1 + b % 8)) i j)), u3, u4]) ⟨rfl, _, _, rfl⟩ ?_ ?_⟩)
  ·rintro j σ H4 hj ⟨rfl, v3, v4, rfl⟩
   have t0 : 0 ≤ b / 7 % 5 := Int.emod_nonneg _ (by decide)
   have t1 : b / 7 % 5 < 5 := Int.emod_lt_of_pos _ (by decide)
   have nl : (nm b (b / 8 % (1 + b % 8)) i j).length = j := by
    have := congrArg List.length (nm_list b (b / 8 % (1 + b % 8)) i j)
    show (nm b (b / 8 % (1 + b % 8)) i j).cps.size = j
    simpa using this
   refine j0l 8 nd ?_
   refine j0k 9 nd (j0t j2b (j0t j12 (ev_v 0 (j0h ⟨_, _, rfl, rfl, ⟨by decide, by decide⟩, j0t op_mul (ev_v 8 (j0t j1i (j0t j12 (ev_v 0 (j0h ⟨_, _, rfl, rfl, ⟨by decide, by decide⟩, j0h ⟨_, _, rfl, rfl, (by show (0 : Int) < 5; decide), ?_⟩⟩)))))⟩))))
   refine ⟨_, _, rfl, rfl, .inr ⟨by omega, by omega⟩, _, _, rfl, rfl, ?_⟩
   refine run_ifM ((0 + (j : Int)) = b / 8 % (1 + b % 8)) (¬ (0 + (j : Int)) = b / 8 % (1 + b % 8)) (fun σ' H' => H' = upd H l (Ls (namesOf b i)) ∧ σ' = [some (.int b), some (.int m), some (.str lets), some (.int (1 + b % 8)), some (.int (b / 8 % (1 + b % 8))), some (.ref l), some (.int (0 + (i : Int))), some (.str (nm b (b / 8 % (1 + b % 8)) i j)), some (.int (0 + (j : Int))), some (.int (turn b (b / 8 % (1 + b % 8)) i j))]) (fun R qq => ?_) (fun hc => ?_) (fun hc => j0i ⟨rfl, ?_⟩) ?_
   ·refine j14 op_eq (ev_v 8 (ev_v 4 ⟨rfl, _, rfl, ?_⟩))
    by_cases hc : (0 + (j : Int)) = b / 8 % (1 + b % 8)
    ·rw [decide_eq_true (show V.int (0 + (j : Int)) = V.int (b / 8 % (1 + b % 8)) by rw [hc])]
     exact qq true (fun _ => hc) fun h => by cases h
    ·rw [decide_eq_false fun h => hc (V.int.inj h)]
     exact qq false (fun h => by cases h) fun _ => hc
   ·refine j0k 9 nd (j0t j2b (ev_v 9 (ev_v 6 ⟨_, _, rfl, rfl, j0i ⟨rfl, ?_⟩⟩)))
    have e : b / 64 + (0 + (j : Int)) * (b / 7 % 5) + (0 + (i : Int)) = turn b (b / 8 % (1 + b % 8)) i j := by
     unfold turn
     rw [if_pos (by omega), Int.zero_add, Int.zero_add]
    rw [← e]
    rfl
   ·have e : b / 64 + (0 + (j : Int)) * (b / 7 % 5) = turn b (b / 8 % (1 + b % 8)) i j := by
     unfold turn
     rw [if_neg (by omega), Int.zero_add, Int.add_zero]
    rw [← e]
    rfl
   ·rintro σ' H' ⟨rfl, rfl⟩
    refine j0k 7 nd (j0t op_add_str (ev_v 7 (j09 ix_str (ev_v 2 (j0t j1i (ev_v 9 (j0h ⟨_, _, rfl, rfl, (by show (0 : Int) < 36; decide), lets, _, sgn (turn b (b / 8 % (1 + b % 8)) i j), rfl, rfl, by decide +kernel, sgn_at _, _, _, rfl, rfl, small (by show (nm b (b / 8 % (1 + b % 8)) i j).length + 1 ≤ 100000; omega), j0i ⟨rfl, _, _, rfl⟩⟩)))))))
  ·rintro σ H4 ⟨rfl, v3, v4, rfl⟩
   refine run_ifM (b % 3 = 2) (¬ b % 3 = 2) (fun σ' H' => H' = upd H l (Ls (namesOf b i)) ∧ σ' = [some (.int b), some (.int m), some (.str lets), some (.int (1 + b % 8)), some (.int (b / 8 % (1 + b % 8))), some (.ref l), some (.int (0 + (i : Int))), some (.str (nameOf b i)), v3, v4]) (fun R qq => ?_) (fun hc => ?_) (fun hc => j0i ⟨rfl, ?_⟩) ?_
   ·refine j14 op_eq (j0t j1i (ev_v 0 (j0h ⟨_, _, rfl, rfl, (by show (0 : Int) < 3; decide), j0h ⟨rfl, _, rfl, ?_⟩⟩)))
    by_cases hc : b % 3 = 2
    ·rw [decide_eq_true (show V.int (b % 3) = V.int 2 by rw [hc])]
     exact qq true (fun _ => hc) fun h => by cases h
    ·rw [decide_eq_false fun h => hc (V.int.inj h)]
     exact qq false (fun h => by cases h) fun _ => hc
   ·have e0 : 0 ≤ (0 + (i : Int)) % 8 := Int.emod_nonneg _ (by decide)
    have e1 : (0 + (i : Int)) % 8 < 8 := Int.emod_lt_of_pos _ (by decide)
    refine j0k 7 nd (j0t op_repS (j09 ix_str (ev_v 2 (j0t j1i (j0t j2b (j0t j12 (ev_v 0 (j0h ⟨_, _, rfl, rfl, ⟨by decide, by decide⟩, j0t j12 (ev_v 6 (j0h ⟨_, _, rfl, rfl, ⟨by decide, by decide⟩, _, _, rfl, rfl, j0h ⟨_, _, rfl, rfl, (by show (0 : Int) < 36; decide), lets, _, sgn (b / 64 + (0 + (i : Int)) / 8), rfl, rfl, by decide +kernel, sgn_at _, ?_⟩⟩))⟩))))))))
    refine j0t j2b (j0h (j0t j1i (ev_v 6 (j0h ⟨_, _, rfl, rfl, (by show (0 : Int) < 8; decide), _, _, rfl, rfl, ?_⟩))))
    refine ⟨_, _, rfl, rfl, by omega, by omega, ?_, j0i ⟨rfl, ?_⟩⟩
    ·show 1 * _ ≤ _
     omega
    ·have e : Txt.mul ⟨#[sgn (b / 64 + (0 + (i : Int)) / 8)]⟩ (1 + (0 + (i : Int)) % 8) = nameOf b i := by
      unfold nameOf
      rw [if_pos hc, Int.zero_add]
     rw [← e]
     rfl
   ·have e : nm b (b / 8 % (1 + b % 8)) i (1 + b % 8).toNat = nameOf b i := by
     unfold nameOf
     rw [if_neg hc]
    rw [← e]
   ·rintro σ' H' ⟨rfl, rfl⟩
    refine j1w (j1y (ev_v 5 ⟨l, rfl, ⟨_, j0b⟩, ev_v 7 ⟨_, j0b, ?_, ?_⟩⟩))
    ·rw [List.length_map, j3e]
     exact j00 (by omega)
    ·rw [upd_upd]
     refine j0i ⟨?_, _, _, _, _, rfl⟩
     rw [namesOf_succ]
     exact ls_app
 ·rintro σ H3 ⟨rfl, u1, u2, u3, u4, rfl⟩
  exact j0p (ev_v 5 (q l _ (j0g hl _) hl j0b))
end
end V5
namespace V5
open PySem L2 Nt Sort2
section
variable {P : Program} {w : World} {K : PySem.W.Frag} {mg : Str → Option Value} {base : Heap}
theorem ty_dK {H : Hp} {d : Addr} {kvs : List (Key × V)} (h : H d = some (.dK kvs)) : tyV K "dict" (.ref d) H := Or.inr (Or.inr (Or.inl ⟨rfl, Or.inl ⟨kvs, h⟩⟩))
noncomputable abbrev NS : List Str := ["_law_rows", "_law_seats_here", "_law_r", "_law_place"]
theorem scSeats : FnScope NS ["_law_rows"] (j0c sSeats) := ⟨rfl, rfl, rfl, by decide +kernel, rfl, by decide +kernel, by decide +kernel⟩
theorem ok_seats {f : Addr} {fd : FuncData} (F : Fun K "_law_seats" "_law_seats" sSeats f fd) (T : Txt mg) : FnOk P w K mg base CX0 1 f fd ["_law_rows"] spSeats := by
 refine F.gb scSeats (fun vs H Q E h => ?_) (fun b0 H vs Q E hr h => ?_)
 ·obtain ⟨R, as, n, rfl, _⟩ := h
  rfl
 obtain ⟨R, as, n, rfl, hR, hn, ht, q⟩ := h
 have nd := scSeats.nd
 have hal := hR.len
 let X : Cx := cxB NS "_law_seats" (j0c sSeats) P w K mg base b0
 show Run X _ _ [some (.ref R), none, none, none] H
 refine j0k 1 nd (ev_dnewK fun d hd => ?_)
 refine j1z T.range (j0u j0n T.len boot_len (j0a (ev_v 0 (j0e ⟨R, _, rfl, .inl (SqL.of (j0g hd _ _ _ hR.lst)), _, rfl, by omega, by rw [List.length_map]; omega, ?_⟩))))
 rw [List.length_map, hal, Int.toNat_natCast]
 refine j1l (fun r σ H3 => ∃ kvs ks A u1 u2, SeatsOn H H3 d (j0s (n.take r)) kvs ks A ∧ σ = [some (.ref R), some (.ref d), u1, u2]) ⟨_, _, _, _, _, SeatsOn.start hd, rfl⟩ ?_ ?_
 ·rintro r σ H3 hi ⟨kvs, ks, A', u1, u2, S, rfl⟩
  rw [Int.zero_add]
  refine j0l 2 nd ?_
  obtain ⟨a, ea, eat, et, el, er⟩ := (hR.same S.same).at hi
  refine j1z T.range (j0u j0n T.len boot_len (j0a (j09 j1h (j09 j1k (ev_v 0 (ev_v 2 ⟨R, _, _, .ref a.1, rfl, rfl, SqL.of (S.same _ _ hR.lst), eat, j0h ⟨a.1, _, _, .ref a.2, rfl, rfl, SqT.of et, rfl, j0e ⟨a.2, _, rfl, .inl (SqL.of el), _, rfl, by omega, ?_, ?_⟩⟩⟩))))))
  ·have : (row n r).length ≤ 1000 := by
    have h1 : (row n r).length ≤ (ties n).length := by
     exact j3c n r
    omega
   rw [List.length_map]
   omega
  rw [List.length_map, Int.toNat_natCast]
  refine j1l (fun p σ H4 => ∃ kvs ks A u2, SeatsOn H H4 d (j0s (n.take r) ++ j0j r ((row n r).take p) 0) kvs ks A ∧ σ = [some (.ref R), some (.ref d), some (.int (r : Int)), u2]) ⟨kvs, ks, A', _, by simpa [j0j] using S, rfl⟩ ?_ ?_
  ·rintro p σ H4 hp ⟨kvs, ks, A', u2, S, rfl⟩
   rw [Int.zero_add]
   refine j0l 3 nd ?_
   obtain ⟨a, ea, eat, et, el, er⟩ := (hR.same S.same).at hi
   have hz : (row n r)[p]? = some (row n r)[p] := List.getElem?_eq_getElem hp
   generalize (row n r)[p] = z at hz
   have next : j0s (n.take r) ++ j0j r ((row n r).take (p + 1)) 0 = (j0s (n.take r) ++ j0j r ((row n r).take p) 0) ++ [(z, (r, p))] := by
    rw [j1p hz, List.append_assoc]
   have hlen : kvs.length < sizeLine := by
    have h1 : ks.length ≤ 1000 := by
     refine Nat.le_trans (nodup_le (b := ties n) S.nodup fun y hy => ?_) ht
     have h2 := (S.mem y).mp hy
     cases hA : A' y with
     | none => rw [hA] at h2; cases h2
     | some pr =>
      obtain ⟨a2, ts2⟩ := pr
      have h3 := S.some' y a2 ts2 hA
      unfold j08 at h3
      obtain ⟨x, hx⟩ := List.exists_mem_of_ne_nil _ h3
      obtain ⟨⟨y2, e2⟩, hm, _⟩ := List.mem_map.mp hx
      rw [List.mem_filter, decide_eq_true_eq] at hm
      obtain ⟨hm, rfl⟩ := hm
      have : (y2, e2) ∈ j0s n := by
       rcases List.mem_append.mp hm with hm | hm
       ·have q1 := mem_seats.mp hm
        refine mem_seats.mpr ?_
        have q2 := j1r q1
        unfold j01 row at q1 ⊢
        rw [List.length_take] at q2
        rwa [List.getElem?_take_of_lt (by omega)] at q1
       ·have q1 := mem_rowSeats.mp hm
        refine mem_seats.mpr ?_
        unfold j01
        rw [q1.1]
        have q3 := q1.2.2
        rw [Nat.sub_zero] at q3
        have q4 := (List.getElem?_eq_some_iff.mp q3).1
        rw [List.length_take] at q4
        rwa [List.getElem?_take_of_lt (by omega)] at q3
      exact j2s (mem_seats.mp this)
    have h2 := congrArg List.length S.keys
    rw [List.length_map, List.length_map] at h2
    exact j00 (by omega)
   refine j1w (j1y (ev_m2 PySem.F.plainAttrs_dict PySem.F.slot_dict_setdefault PySem.F.type_dict_setdefault mt_setdef (ev_v 1 ⟨ty_dK S.dict, j09 j1k (j09 j1h (j09 j1k (ev_v 0 (ev_v 2 ⟨R, _, _, .ref a.1, rfl, rfl, SqL.of (S.same _ _ hR.lst), eat, j0h ⟨a.1, _, _, .ref a.2, rfl, rfl, SqT.of et, rfl, ev_v 3 ⟨a.2, _, _, .str z, rfl, rfl, SqL.of el, at_strs hz, ?_⟩⟩⟩))))⟩)))
   refine j2p (j0e ⟨(by show 0 ≤ sizeLine; decide), fun l0 hl0 => ?_⟩)
   have hdl : d ≠ l0 := j0f S.dict hl0
   refine ⟨d, kvs, Sum.inr z, .ref l0, rfl, rfl, by rw [j0d hdl]; exact S.dict, hlen, ?_⟩
   cases hA : A' z with
   | some pr =>
    obtain ⟨a2, ts2⟩ := pr
    obtain ⟨q1, q2, q3, q4⟩ := S.at' z a2 ts2 hA
    have hla : a2 ≠ l0 := j0f q3 hl0
    refine .inl ⟨.ref a2, by rw [S.val z, hA]; rfl, a2, rfl, ⟨_, by rw [j0d hla]; exact q3⟩, ?_⟩
    refine j1f (j0a (ev_v 2 (j0a (ev_v 3 (j0e ⟨(by show 2 ≤ sizeLine; decide), fun t ht2 => ?_⟩)))))
    have hta : a2 ≠ t := fun e => by rw [← e, j0d hla, q3] at ht2; cases ht2
    refine ⟨ts2.map V.ref, by rw [j0d hta, j0d hla]; exact q3, ?_, ?_⟩
    ·rw [List.length_map, q4.length]
     have h1 : (j08 (j0s (n.take r) ++ j0j r ((row n r).take p) 0) z).length ≤ 100000 := by
      unfold j08
      rw [List.length_map]
      refine Nat.le_trans (List.length_filter_le _ _) ?_
      rw [List.length_append]
      have h2 : (j0s (n.take r)).length ≤ 1000 := by
       have := congrArg List.length (j07 (n.take r) 0)
       rw [List.length_map] at this
       unfold j0s
       rw [this]
       exact Nat.le_trans (j2r n r) ht
      have h3 : (j0j r ((row n r).take p) 0).length ≤ 1000 := by
       unfold j0j
       rw [List.length_map, List.length_zipIdx, List.length_take]
       have h1 : (row n r).length ≤ (ties n).length := by
        exact j3c n r
       omega
      omega
     exact j00 h1
    ·refine j0i ⟨kvs, ks, (fun y => if y = z then some (a2, ts2 ++ [t]) else A' y), _, ?_, rfl⟩
     rw [next]
     exact S.old (e := (r, p)) hA hl0 ht2
   | none =>
    refine .inr ⟨by rw [S.val z, hA]; rfl, l0, rfl, ⟨_, by rw [j0d hdl.symm]; exact j0b⟩, ?_⟩
    refine j1f (j0a (ev_v 2 (j0a (ev_v 3 (j0e ⟨(by show 2 ≤ sizeLine; decide), fun t ht2 => ?_⟩)))))
    have htl : l0 ≠ t := fun e => by rw [← e, j0d hdl.symm, j0b] at ht2; cases ht2
    refine ⟨[], by rw [j0d htl, j0d hdl.symm, j0b], by show 0 < sizeLine; decide, ?_⟩
    refine j0i ⟨putK kvs (Sum.inr z) (.ref l0), ks ++ [z], (fun y => if y = z then some (l0, [t]) else A' y), _, ?_, rfl⟩
    rw [next]
    exact S.new (e := (r, p)) hA hl0 ht2
  ·rintro σ H4 ⟨kvs, ks, A', u2, S, rfl⟩
   refine j0i ⟨kvs, ks, A', _, _, ?_, rfl⟩
   rw [j16 hi]
   rwa [List.take_length] at S
 ·rintro σ H3 ⟨kvs, ks, A', u1, u2, S, rfl⟩
  rw [List.take_length] at S
  exact j0p (ev_v 1 (q d ks H3 S.same S.free S.whole))
noncomputable abbrev NO : List Str := ["_law_rows", "_law_seats_here", "_law_end", "_law_pair"]
theorem scOther : FnScope NO ["_law_rows", "_law_seats_here", "_law_end"] (j0c sOther) := ⟨rfl, rfl, rfl, by decide +kernel, rfl, by decide +kernel, by decide +kernel⟩
theorem ok_other {f : Addr} {fd : FuncData} (F : Fun K "_law_other" "_law_other" sOther f fd) (T : Txt mg) : FnOk P w K mg base CX0 1 f fd ["_law_rows", "_law_seats_here", "_law_end"] spOther := by
 refine F.gb scOther (fun vs H Q E h => ?_) (fun b0 H vs Q E hr h => ?_)
 ·obtain ⟨R, d, t, as, n, ks, e, rfl, _⟩ := h
  rfl
 obtain ⟨R, d, t, as, n, ks, e, rfl, hR, hS, hT, ht, he, q⟩ := h
 have nd := scOther.nd
 have hu := hr.u100
 obtain ⟨z, hz⟩ := mem_ends.mp he
 have hlt := j1r hz
 obtain ⟨a, ea, eat, et, el, er⟩ := hR.at hlt
 obtain ⟨kvs, h1, h2, h3⟩ := hS.dict
 obtain ⟨pa, ts, v1, v2, v3⟩ := h3 z (j2s hz)
 obtain ⟨x, y, hp, hxy, hor⟩ := pos_two hT hz
 rw [hp] at v3
 cases v3 with
 | cons x1 v3 =>
 cases v3 with
 | cons y1 v3 =>
 cases v3
 rename_i tx ty
 let X : Cx := cxB NO "_law_other" (j0c sOther) P w K mg base b0
 show Run X _ _ [some (.ref R), some (.ref d), some (.ref t), none] H
 have hu1 := hr.u1
 refine j0k 3 nd (j21 hu1 (ev_v 1 (j09 j1k (j09 j1h (j09 j1k (ev_v 0 (j09 j1h (ev_v 2 (j0h ⟨t, _, _, .int (e.1 : Int), rfl, rfl, SqT.of ht, rfl, R, _, _, .ref a.1, rfl, rfl, SqL.of hR.lst, eat, j0h ⟨a.1, _, _, .ref a.2, rfl, rfl, SqT.of et, rfl, ?_⟩⟩)))))))))
 refine j09 j1h (ev_v 2 (j0h ⟨t, _, _, .int (e.2 : Int), rfl, rfl, SqT.of ht, rfl, a.2, _, _, .str z, rfl, rfl, SqL.of el, at_strs hz, d, .ref pa, rfl, by rw [← v1]; exact DGet.k (k := Sum.inr z) h1, ?_⟩))
 show Run _ _ _ [some (.ref R), some (.ref d), some (.ref t), some (.ref pa)] H
 refine j0p (j09 j1k (ev_v 3 (ev_typ call_intB T.tint PyProof.Rows.boot_int (j0a (ev_cmp (op_eqD hu) (j09 j1k (ev_v 3 (j0h ⟨pa, _, _, .ref tx, rfl, rfl, SqL.of v2, rfl, ev_v 2 ⟨1, _, by decide, rcD_tp x1 ht, ?_⟩⟩))))))))
 by_cases c : x = e
 ·rw [decide_eq_true c]
  refine j0e ⟨_, rfl, pa, [.ref tx, .ref ty], 1, .ref ty, rfl, rfl, SqL.of v2, rfl, q ty ?_⟩
  have e1 : other n e = y := by unfold other; simp only [hz, hp]; simp [c]
  rw [e1]
  exact y1
 ·rw [decide_eq_false c]
  refine j0e ⟨_, rfl, pa, [.ref tx, .ref ty], 0, .ref tx, rfl, rfl, SqL.of v2, rfl, q tx ?_⟩
  have e1 : other n e = x := by unfold other; simp only [hz, hp]; simp [c]
  rw [e1]
  exact x1
noncomputable abbrev NT : List Str := ["_law_rows", "_law_seats_here", "_law_end", "_law_turn", "_law_other_here"]
theorem scStep : FnScope NT ["_law_rows", "_law_seats_here", "_law_end", "_law_turn"] (j0c sStep) := ⟨rfl, rfl, rfl, by decide +kernel, rfl, by decide +kernel, by decide +kernel⟩
theorem ok_step {f : Addr} {fd : FuncData} (F : Fun K "_law_step" "_law_step" sStep f fd) (T : Txt mg) (G : Has P w K mg base 1 "_law_other" ["_law_rows", "_law_seats_here", "_law_end"] spOther) :
  FnOk P w K mg base CX0 2 f fd ["_law_rows", "_law_seats_here", "_law_end", "_law_turn"] spStep := by
 refine F.gb scStep (fun vs H Q E h => ?_) (fun b0 H vs Q E hr h => ?_)
 ·obtain ⟨R, d, t, as, n, ks, e, rfl, _⟩ := h
  rfl
 obtain ⟨R, d, t, as, n, ks, e, rfl, hR, hS, hT, ht, he, q⟩ := h
 have nd := scStep.nd
 have ho := j2i hT he
 obtain ⟨z, hz⟩ := mem_ends.mp ho
 have hlt := j1r hz
 have hpl := end_lt hz
 obtain ⟨a, ea, eat, et, el, er⟩ := hR.at hlt
 let X : Cx := cxB NT "_law_step" (j0c sStep) P w K mg base b0
 show Run X _ _ [some (.ref R), some (.ref d), some (.ref t), some (.int 1), none] H
 refine j0k 4 nd (j0v G hr (j0a (ev_v 0 (j0a (ev_v 1 (j0a (ev_v 2 (j0e ⟨R, d, t, as, n, ks, e, rfl, hR, hS, hT, ht, he, fun u hu => ?_⟩))))))))
 show Run _ _ _ [some (.ref R), some (.ref d), some (.ref t), some (.int 1), some (.ref u)] H
 refine j0p (j1f (j0a (j09 j1h (ev_v 4 (j0h ⟨u, _, _, .int ((other n e).1 : Int), rfl, rfl, SqT.of hu, rfl, ?_⟩)))))
 refine j0a (j0t j1i (j0t j2b (j09 j1h (ev_v 4 (j0h ⟨u, _, _, .int ((other n e).2 : Int), rfl, rfl, SqT.of hu, rfl, ev_v 3 ⟨_, _, rfl, rfl, ?_⟩⟩)))))
 refine j0u j0n T.len boot_len (j0a (j09 j1h (j09 j1k (ev_v 0 (j09 j1h (ev_v 4 (j0h ⟨u, _, _, .int ((other n e).1 : Int), rfl, rfl, SqT.of hu, rfl, R, _, _, .ref a.1, rfl, rfl, SqL.of hR.lst, eat, j0h ⟨a.1, _, _, .ref a.2, rfl, rfl, SqT.of et, rfl, j0e ⟨a.2, _, rfl, .inl (SqL.of el), ?_⟩⟩⟩)))))))
 rw [List.length_map]
 refine ⟨_, _, rfl, rfl, by omega, j0e ⟨(by show 2 ≤ sizeLine; decide), fun p hp => ?_⟩⟩
 refine q p _ (j0g hp _) hp ?_
 rw [j0b]
 unfold Nt.step Nt.left
 show some (HO.tup [.int ((other n e).1 : Int), .int ((((other n e).2 : Int) + 1) % ((row n (other n e).1).length : Int))]) = some (HO.tup [.int ((other n e).1 : Int), .int ((((other n e).2 + 1) % (row n (other n e).1).length : Nat) : Int)])
 rw [Int.natCast_emod]
 rfl
noncomputable abbrev NF : List Str := ["_law_rows", "_law_seats_here", "_law_end", "_law_face_here", "_law_here"]
theorem scFace : FnScope NF ["_law_rows", "_law_seats_here", "_law_end"] (j0c sFace) := ⟨rfl, rfl, rfl, by decide +kernel, rfl, by decide +kernel, by decide +kernel⟩
noncomputable def orb (n : Net) (e : Nt.End) (j : Nat) : List Nt.End := (List.range j).map fun i => it (step n) i e
theorem orb_succ (n : Net) (e : Nt.End) (j : Nat) : orb n e (j + 1) = orb n e j ++ [it (step n) j e] := by
 unfold orb
 rw [List.range_succ, List.map_append]
 rfl
theorem ok_face {f : Addr} {fd : FuncData} (F : Fun K "_law_face" "_law_face" sFace f fd) (T : Txt mg) (G : Has P w K mg base 2 "_law_step" ["_law_rows", "_law_seats_here", "_law_end", "_law_turn"] spStep) :
  FnOk P w K mg base CX0 3 f fd ["_law_rows", "_law_seats_here", "_law_end"] spFace := by
 refine F.gb scFace (fun vs H Q E h => ?_) (fun b0 H vs Q E hr h => ?_)
 ·obtain ⟨R, d, t, as, n, ks, e, rfl, _⟩ := h
  rfl
 obtain ⟨R, d, t, as, n, ks, e, rfl, hR, hS, hT, ht, he, hb, q⟩ := h
 have nd := scFace.nd
 have hu := hr.u100
 obtain ⟨k, k0, k1, k2⟩ := comes_back (f := step n) (S := ends n) (fun a ha => step_end hT ha) (fun a ha b hb => step_inj hT ha hb) he
 let X : Cx := cxB NF "_law_face" (j0c sFace) P w K mg base b0
 show Run X _ _ [some (.ref R), some (.ref d), some (.ref t), none, none] H
 refine j0k 3 nd (j2p (j0a (ev_v 2 (j0e ⟨(by show 1 ≤ sizeLine; decide), fun l hl => ?_⟩))))
 have g1 := j0g hl (.lst [.ref t])
 refine j0k 4 nd (j0v G hr (j0a (ev_v 0 (j0a (ev_v 1 (j0a (ev_v 2 (j0a (j0h (j0e ⟨R, d, t, as, n, ks, e, rfl, hR.same g1, hS.same g1, hT, g1 _ _ ht, he, fun u H1 s1 nu eu => ?_⟩))))))))))
 show Run _ _ _ [some (.ref R), some (.ref d), some (.ref t), some (.ref l), some (.ref u)] H1
 refine run_while (fun m σ H2 => ∃ (j : Nat) (ts : List Addr) (u : Addr), m = k - j ∧ 0 < j ∧ j ≤ k ∧ Same H H2 ∧ H2 l = some (.lst (ts.map V.ref)) ∧ Pd H2 ts (orb n e j) ∧ H2 u = some (Tp (it (step n) j e)) ∧ (∀ i, 0 < i → i < j → it (step n) i e ≠ e) ∧ σ = [some (.ref R), some (.ref d), some (.ref t), some (.ref l), some (.ref u)])
  (m0 := k - 1) ⟨1, [t], u, rfl, Nat.one_pos, k0, g1.trans s1, s1 _ _ j0b, .cons (s1 _ _ (g1 _ _ ht)) .nil, eu, fun i h1 h2 => by omega, rfl⟩ ?_
 rintro m σ H2 ⟨j, ts, u, rfl, j0, j1, sH, el, ep, eu, hf, rfl⟩
 refine j14 (op_neD hu) (ev_v 4 (ev_v 2 ⟨1, _, by decide, rnD_tp eu (sH _ _ ht), _, rfl, ?_⟩))
 have pl := ep.length
 have ol : (orb n e j).length = j := by unfold orb; simp
 by_cases c : it (step n) j e = e
 ·rw [decide_eq_true c]
  refine iteF (j0p (ev_v 3 (q l ts (orb n e j) H2 sH hl el ep ⟨by omega, by omega, fun i hi => ?_, by rw [ol]; exact c, fun i h1 h2 => hf i h1 (by omega)⟩)))
  unfold orb
  rw [List.getElem?_map, List.getElem?_range (by omega)]
  rfl
 ·rw [decide_eq_false c]
  have jk : j < k := by
   rcases Nat.lt_or_ge j k with h | h
   ·exact h
   ·have : j = k := by omega
    subst this
    exact absurd k2 c
  refine iteT (j1w (j1y (ev_v 3 ⟨l, rfl, ⟨_, el⟩, ev_v 4 ⟨_, el, by rw [List.length_map]; exact j00 (by omega), ?_⟩⟩)))
  have s2 : Same H (upd H2 l (.lst (ts.map V.ref ++ [.ref u]))) := j02 sH hl
  have kt : ∀ b f, H2 b = some (Tp f) → (upd H2 l (.lst (ts.map V.ref ++ [.ref u]))) b = some (Tp f) := fun b f h => by
   rw [j0d (tp_ne_lst h el)]
   exact h
  have eu2 := kt u _ eu
  refine j0k 4 nd (j0v G hr (j0a (ev_v 0 (j0a (ev_v 1 (j0a (ev_v 4 (j0a (j0h (j0e ⟨R, d, u, as, n, ks, it (step n) j e, rfl, hR.same s2, hS.same s2, hT, eu2, it_mem (fun a ha => step_end hT ha) he j, fun v H3 s3 nv ev => ?_⟩))))))))))
  refine j0i ⟨k - (j + 1), by omega, j + 1, ts ++ [u], v, rfl, Nat.succ_pos _, jk, s2.trans s3, ?_, ?_, ev, fun i h1 h2 => ?_, rfl⟩
  ·rw [List.map_append]
   exact s3 _ _ j0b
  ·rw [orb_succ]
   exact (ep.keep fun b f h => s3 _ _ (kt b f h)).append (.cons (s3 _ _ eu2) .nil)
  ·rcases Nat.lt_succ_iff_lt_or_eq.mp h2 with h | h
   ·exact hf i h1 h
   ·rw [h]; exact c
end
end V5
namespace Nt
open PySem L2
noncomputable def ins (n : Net) (c : End) (z : Str) : Net := n.modify c.1 fun r => (r.1, r.2.take c.2 ++ z :: r.2.drop c.2)
theorem ins_len (n : Net) (c : End) (z : Str) : (ins n c z).length = n.length := by unfold ins; rw [List.length_modify]
theorem ins_names (n : Net) (c : End) (z : Str) : (ins n c z).map (·.1) = n.map (·.1) := by
 unfold ins
 refine List.ext_getElem? fun i => ?_
 rw [List.getElem?_map, List.getElem?_map, List.getElem?_modify]
 cases n[i]? with
 | none => rfl
 | some r => by_cases h : c.1 = i <;> simp [h]
theorem ties_ins : ∀ (n : Net) (c : End) (z : Str), c.1 < n.length → (ties (ins n c z)).Perm (z :: ties n)
 | [], c, z, h => by simp at h
 | a :: n, (0, p), z, h => by
  unfold ins ties
  simp only [List.modify_zero_cons, List.flatMap_cons]
  have : (a.2.take p ++ z :: a.2.drop p).Perm (z :: a.2) := by
   refine List.perm_middle.trans ?_
   rw [List.take_append_drop]
  exact this.append_right _
 | a :: n, (i + 1, p), z, h => by
  have ih := ties_ins n (i, p) z (by simpa using h)
  unfold ins ties at ih ⊢
  simp only [List.modify_succ_cons, List.flatMap_cons]
  refine (ih.append_left a.2).trans ?_
  exact List.perm_middle
theorem ls_ins (zs : List Str) (i : Nat) (z : Str) : insertAt (zs.map V.str) i (.str z) = (zs.take i ++ z :: zs.drop i).map V.str := by
 unfold insertAt
 rw [List.map_append, List.map_cons, List.map_take, List.map_drop]
theorem RowsAt.ins {H : Hp} {R : Addr} {as : List (Addr × Addr)} {n : Net} (h : RowsAt H R as n) {c : End} {z : Str} {a : Addr × Addr} (ha : as[c.1]? = some a) (hc : c.1 < n.length) :
  RowsAt (upd H a.2 (Ls ((row n c.1).take c.2 ++ z :: (row n c.1).drop c.2))) R as (Nt.ins n c z) := by
 have q0 := h.tup c.1 a n[c.1] ha (List.getElem?_eq_getElem hc)
 have hRa : R ≠ a.2 := by
  intro e
  have h1 := h.lst
  rw [e, q0.2] at h1
  have h2 := HO.lst.inj (Option.some.inj h1)
  have h3 := congrArg List.length h2
  cases hm : n[c.1].2 with
  | nil =>
   rw [hm] at h2
   have : as.map (fun a => V.ref a.1) = [] := h2.symm
   have hl := congrArg List.length this
   rw [List.length_map, h.len] at hl
   rw [hl] at hc
   exact absurd hc (Nat.not_lt_zero _)
  | cons y r =>
   rw [hm] at h2
   cases as with
   | nil => simp at h2
   | cons b bs =>
    simp at h2
 have er : row n c.1 = n[c.1].2 := by unfold row; rw [List.getElem?_eq_getElem hc]; rfl
 refine ⟨by rw [ins_len]; exact h.len, by rw [j0d hRa]; exact h.lst, fun i b r hb hr => ?_, h.inj⟩
 unfold Nt.ins at hr
 rw [List.getElem?_modify] at hr
 cases hn : n[i]? with
 | none => rw [hn] at hr; by_cases q : c.1 = i <;> simp [q] at hr
 | some r0 =>
  rw [hn] at hr
  have q1 := h.tup i b r0 hb hn
  have t1 : b.1 ≠ a.2 := j1q q1.1 q0.2 fun e => nomatch e
  by_cases q : c.1 = i
  ·subst q
   rw [List.getElem?_eq_getElem hc] at hn
   cases hn
   rw [ha] at hb
   cases hb
   simp at hr
   subst hr
   refine ⟨by rw [j0d t1]; exact q1.1, ?_⟩
   rw [j0b, er]
  ·simp [q] at hr
   subst hr
   have t2 : b.2 ≠ a.2 := fun e => by
    have l1 : i < as.length := (List.getElem?_eq_some_iff.mp hb).1
    have l2 : c.1 < as.length := (List.getElem?_eq_some_iff.mp ha).1
    have x1 : (as.map (·.2))[i]? = some b.2 := by rw [List.getElem?_map, hb]; rfl
    have x2 : (as.map (·.2))[c.1]? = some a.2 := by rw [List.getElem?_map, ha]; rfl
    obtain ⟨y1, z1⟩ := List.getElem?_eq_some_iff.mp x1
    obtain ⟨y2, z2⟩ := List.getElem?_eq_some_iff.mp x2
    exact q ((List.getElem_inj (h₀ := y2) (h₁ := y1) h.inj).mp (z2.trans (e.symm.trans z1.symm)))
   exact ⟨by rw [j0d t1]; exact q1.1, by rw [j0d t2]; exact q1.2⟩
theorem ends_len (n : Net) : (ends n).length = (ties n).length := by
 unfold ends j0s
 rw [List.length_map, ← j07 n 0, List.length_map]
theorem IsFace.ends {n : Net} (T : j1g n) {e : End} {fs : List End} (h : IsFace n e fs) (he : e ∈ ends n) : ∀ c ∈ fs, c ∈ Nt.ends n := by
 intro c hc
 obtain ⟨i, hi, e2⟩ := List.mem_iff_getElem.mp hc
 have := h.at' i hi
 rw [List.getElem?_eq_getElem hi, e2] at this
 rw [Option.some.inj this]
 exact it_mem (fun a ha => step_end T ha) he i
end Nt
namespace Nt
open PySem L2
noncomputable def dbl (zs : List Str) : List Str := zs.flatMap fun z => [z, z]
theorem dbl_count (y : Str) : ∀ zs : List Str, (dbl zs).count y = 2 * zs.count y
 | [] => rfl
 | z :: r => by
  unfold dbl
  rw [List.flatMap_cons]
  have ih := dbl_count y r
  unfold dbl at ih
  rw [List.count_append, ih, List.count_cons, List.count_cons, List.count_cons, List.count_nil]
  omega
theorem dbl_mem {y : Str} {zs : List Str} : y ∈ dbl zs ↔ y ∈ zs := by
 rw [← List.count_pos_iff, dbl_count, ← List.count_pos_iff]
 omega
theorem twice_of {n : Net} {zs : List Str} (hn : zs.Nodup) (p : (ties n).Perm (dbl zs)) : j1g n := fun z hz => by
 rw [p.count_eq, dbl_count]
 have h1 : z ∈ zs := dbl_mem.mp (p.mem_iff.mp hz)
 rw [hn.count, if_pos h1]
theorem row_eq {n : Net} {i : Nat} (h : i < n.length) : row n i = n[i].2 := by unfold row; rw [List.getElem?_eq_getElem h]; rfl
end Nt
namespace L2
open PySem PySem.Spec PyProof.Rows
section
variable {X : Cx} {pins : List (Addr × Obj)} {σ : St} {H : Hp} {s : Shared}
end
section
variable {X : Cx} {elt tg : Expr} {ifs : List Expr} {scope : Scope} {σ : St} {H : Hp} {N' : List Str} {A a d : Addr} {xs : List V} {kvs : List (Key × V)} {after : Hp → Prop}
theorem j15 (Pv : Nat → St → Hp → Prop) (h0 : Pv 0 σ H) (hl : ∀ i σ' H', i ≤ xs.length → Pv i σ' H' → SqL X.K H' a xs)
  (hs : ∀ i x σ' H', xs[i]? = some x → Pv i σ' H' → CEg X N' scope tg x σ' H' fun σ2 H3 => CEi X N' scope ifs σ2 H3 fun b H4 =>
   if b = true then CEv X N' scope elt σ2 H4 fun v H5 => ∃ ys, H5 A = some (.lst ys) ∧ ys.length < sizeLine ∧ Pv (i + 1) σ2 (upd H5 A (.lst (ys ++ [v]))) else Pv (i + 1) σ2 H4)
  (hd : ∀ σ' H', Pv xs.length σ' H' → after H') : CompL X N' scope tg ifs elt (Itl X.K a) A after σ H := by
 refine ⟨fun i m σ' H' => m = xs.length - i ∧ i ≤ xs.length ∧ Pv i σ' H', ⟨_, rfl, Nat.zero_le _, h0⟩, ?_⟩
 rintro i m σ' H' ⟨rfl, hi, p⟩
 have q := hl i σ' H' hi p
 by_cases hlt : i < xs.length
 ·refine .inr ⟨⟨xs, xs[i], q, by simp [hlt]⟩, Pv (i + 1), fun σ' H' p' => ⟨xs.length - (i + 1), by omega, rfl, hlt, p'⟩, fun x H2 y => ?_⟩
  obtain ⟨e, y⟩ := y
  subst e
  exact hs i x σ' _ (y xs q) p
 ·have e : i = xs.length := by omega
  subst e
  exact .inl ⟨⟨xs, q, Nat.le_refl _⟩, hd σ' H' p⟩
theorem Eg.mono {e : Expr} {v : V} {R R' : St → Hp → Prop} (h : Eg X e v σ H R) (f : ∀ σ' H', R σ' H' → R' σ' H') : Eg X e v σ H R' :=
 ⟨fun pins s u I r => thn (h.run pins s u I r) fun _ s' ⟨σ', H', I', q⟩ => ⟨σ', H', I', f σ' H' q⟩⟩
theorem j2n {e1 e2 : Expr} {k : Nat} {pos : Pos} {t : Addr} {x y : V} {R : St → Hp → Prop} (hc : X.calm = true) (ht : SqT X.K H t [x, y]) (h : Eg X e1 x σ H fun σ1 H1 => Eg X e2 y σ1 H1 R)
  (hn : (assignEach [e1, e2] X.env).length = 2 := by rfl) (hst : (assignEach [e1, e2] X.env).findIdx? (·.1) = none := by rfl)
  (hs1 : (assignEach [e1, e2] X.env).map (·.2) = assign e1 X.env :: (assignEach [e2] X.env).map (·.2) := by rfl) (hs2 : (assignEach [e2] X.env).map (·.2) = assign e2 X.env :: (assignEach [] X.env).map (·.2) := by rfl) :
  Eg X (.Tuple [e1, e2] k pos) (.ref t) σ H R :=
 eg_of (pg_tup (t := gCons (fun v σ H Q => Eg X e1 v σ H Q) (gCons (fun v σ H Q => Eg X e2 v σ H Q) gNil)) hc (pgs_cons pg_eg (pgs_cons pg_eg pgs_nil hs2) hs1) hn hst) ⟨t, _, rfl, ht, rfl, _, _, rfl, h.mono fun σ1 H1 h1 => ⟨_, _, rfl, h1.mono fun σ2 H2 q => ⟨rfl, q⟩⟩⟩
end
end L2
namespace Nt
open PySem L2
theorem tie_two {n : Net} (T : j1g n) {e x : End} {z : Str} (h : j01 n e = some z) : j01 n x = some z ↔ x = e ∨ x = other n e := by
 obtain ⟨o1, o2, o3⟩ := j18 T h
 refine ⟨fun hx => ?_, fun hx => ?_⟩
 ·obtain ⟨a, b, hp, hab, he⟩ := pos_two T h
  have mx : x ∈ pos n z := mem_pos.mpr hx
  have mo : other n e ∈ pos n z := mem_pos.mpr o1
  rw [hp] at mx mo
  simp only [List.mem_cons, List.not_mem_nil, or_false] at mx mo
  rcases he with he | he
  ·rcases mx with m | m
   ·exact .inl (m.trans he.symm)
   ·rcases mo with m2 | m2
    ·exact absurd (m2.trans he.symm) o3
    ·exact .inr (m.trans m2.symm)
  ·rcases mx with m | m
   ·rcases mo with m2 | m2
    ·exact .inr (m.trans m2.symm)
    ·exact absurd (m2.trans he.symm) o3
   ·exact .inl (m.trans he.symm)
 ·rcases hx with rfl | rfl
  ·exact h
  ·exact o1
end Nt
namespace PySem
theorem getAttr?_miss_list {prog : Program} {w : World} {A : Around} {E : Value → Shared → Prop} {s : Shared} {a : Addr} {o : Obj} {xs : Array Value} {k : Nat} {name : Str} {Q : Option Value → Shared → Prop}
  (hx : s.heap.get? a = some o) (hc : o.cls = .type "list") (hdat : o.data = .seq xs k) (hd : o.dict = none) (hmiss : typeLookup (.type "list") name = pure none) (hname : (["__module__", "__name__", "__qualname__", "__doc__", "__annotations__"] : List Str).contains name = false) (hA : A.handled = none)
  (h : ∀ h' tk e, Heap.NewExcOf s.heap h' e "AttributeError" → Q none { s with heap := h', toks := tk }) (hsz : name.length + 100 ≤ sizeLine := by size_fits) :
  wpAny (model prog w) A (getAttr? (.ref a) name) Q E s := by
 obtain ⟨c, dct, dat, sl⟩ := o
 simp only at hc hdat hd
 subst hc hdat hd
 obtain ⟨hp, g, d, tk, os⟩ := s
 have hT : ∀ tk', (⟨hp, g, d, tk', os⟩ : Shared).TypeIs (.ref a) "list" := fun _ => ⟨_, hx, rfl⟩
 have f1 := sub_AttributeError
 have f3 := F.slot_list_getattribute.lookup
 have f4 := F.slot_list_getattribute.bind (.ref a)
 have f5 := am_list_getattr_none
 unfold getAttr? getAttrBy? getAttrBy
 repeat (any_goals (first | assumption | exact hT _ | ((with_reducible show wpAny _ _ (call (Value.builtin "list.__getattribute__") _ _) _ _ _); refine call_meets F.slot_list_getattribute (hT _) am_entry_list_getattribute (F.args_list_getattribute_2 _ _) (meets_getattribute_miss_list a xs k sl name _ hmiss hname hsz) ⟨hx, hA, fun h' tk' e hx' => ?_⟩) | wp_step))
 obtain ⟨t', u', he⟩ := hx'.there
 show wpAny _ _ (getattributeRaised _ _ _ _ _ _ _) _ _ _
 unfold getattributeRaised
 repeat (any_goals (first | assumption | wp_step))
 exact h _ _ _ hx'.of
end PySem
namespace PySem
namespace F
theorem entry_dict_update_loop : entryFor table "dict.update.loop" = some Builtin.«dict.update.loop» := entryFor_of_tree (by kernel_rfl)
theorem plain_dict_update_loop : plainId "dict.update.loop" = true := by decide +kernel
theorem list_no_keys : typeLookup (.type "list") "keys" = pure none := by rw [typeLookup_type, builtinLookup_eq_fast]; kernel_rfl
end F
section
variable {prog : Program} {w : World} {K : Type} [DecidableEq K] {knd : KeyKind prog w K} {A : Around} {R : Result → Shared → Prop}
noncomputable def PairsAt (knd : KeyKind prog w K) (h : Heap) (items : List Value) (prs : List (K × Value)) : Prop :=
 items.length = prs.length ∧ ∀ (j : Nat) it, items[j]? = some it → ∃ T key k v o n, it = .ref T ∧ prs[j]? = some (k, v) ∧ knd.is k key = true ∧ h.get? T = some o ∧ o.cls = .type "tuple" ∧ o.data = .seq #[key, v] n
theorem length_stored (kvs : List (K × Value)) (k : K) (v : Value) : (stored kvs k v).length ≤ kvs.length + 1 := by
 unfold stored
 split
 ·rw [List.length_map]; omega
 ·rw [List.length_append]; simp
theorem pairs_loop {hB : Heap} {d I l : Addr} {items : List Value} {prs : List (K × Value)} (hd : hB.objs.size ≤ d) (hI : hB.objs.size ≤ I) (hdI : d ≠ I) (hl : hB.IsList l items.toArray) (hp : PairsAt knd hB items prs) (hn : items.length < sizeLine) (hh : A.handled = none) :
  ∀ (k i : Nat) (s : Shared) (acc : List (K × Value)), items.length - i = k → i ≤ items.length → (∀ b o, hB.get? b = some o → s.heap.get? b = some o) → s.heap.IsListIter I l i → s.heap.DictOf knd d acc → acc.length ≤ i →
   (∀ h' tk, (∀ b o, b ≠ I → b ≠ d → s.heap.get? b = some o → h'.get? b = some o) → h'.DictOf knd d ((prs.drop i).foldl (fun a p => stored a p.1 p.2) acc) → R (.ok (.ret .none)) { s with heap := h', toks := tk }) →
   codeAny (model prog w) A (.builtin "dict.update.loop" ⟨[.ref d, .ref I, rawInt i, .none], []⟩) R s := by
 have nb : ∀ b o, hB.get? b = some o → b ≠ I ∧ b ≠ d := fun b o e => ⟨Nat.ne_of_lt (Nat.lt_of_lt_of_le (Heap.lt_size e) hI), Nat.ne_of_lt (Nat.lt_of_lt_of_le (Heap.lt_size e) hd)⟩
 intro k
 induction k with
 | zero =>
  intro i s acc hk hi hkeep hst hD hal hR
  have hin : i = items.length := by omega
  refine codeAny_builtin F.entry_dict_update_loop ?_
  rw [Around.under_plainId F.plain_dict_update_loop _]
  show wpAny _ A.in1 (pyNext (.ref I) >>= _) _ _ s
  have hl' : s.heap.IsList l items.toArray := let ⟨o, ho, r⟩ := hl; ⟨o, hkeep _ _ ho, r⟩
  refine wpAny_bind (wpAny_pyNext_list_end hh hst hl' (by simp; omega) fun h' eb => ?_)
  show wpAny _ A.in1 (Builtin.Dict.addKeywords d [] >>= _) _ _ _
  refine wpAny_bind (wpAny_pure (wpAny_pure ?_))
  refine hR h' s.toks (fun b o hb _ e => eb b o hb e) ?_
  rw [List.drop_eq_nil_of_le (by have := hp.1; omega)]
  exact hD.extBut eb hdI
 | succ k ih =>
  intro i s acc hk hi hkeep hst hD hal hR
  have hlt : i < items.length := by omega
  have hx : items[i]? = some items[i] := List.getElem?_eq_getElem hlt
  obtain ⟨T, key, kk, v, o, n, e1, e2, e3, e4, e5, e6⟩ := hp.2 i _ hx
  rw [e1] at hx
  refine codeAny_builtin F.entry_dict_update_loop ?_
  rw [Around.under_plainId F.plain_dict_update_loop _]
  show wpAny _ A.in1 (pyNext (.ref I) >>= _) _ _ s
  have hl' : s.heap.IsList l items.toArray := let ⟨o, ho, r⟩ := hl; ⟨o, hkeep _ _ ho, r⟩
  refine wpAny_bind (wpAny_pyNext_list_item hst hl' (x := .ref T) (by simpa using hx) fun h' st' sb => ?_)
  have eT : h'.get? T = some o := (sb.2 T (nb T o e4).1).trans (hkeep _ _ e4)
  refine wpAny_bind (wpAny_holding (wpAny_bind (wpAny_tryCatch ?_)))
  unfold Builtin.Dict.pairItems
  refine wpAny_bind (wpAny_typeOf (T := "tuple") ⟨o, eT, e5⟩ ?_)
  rw [if_pos (by decide)]
  refine wpAny_bind (wpAny_seqItems (s := { s with heap := h' }) eT e6 (wpAny_pure ?_))
  show wpAny _ _ (holding [key, v] (dictSet d key v)) _ _ _
  refine wpAny_holding (wpAny_dictSet_pairs (knd := knd) (s := { s with heap := h' }) (k := kk) e3 (hD.extBut sb.extBut hdI) (fun h2 D2 sb2 => ?_) (by omega))
  refine wpAny_pure ⟨plainId_quiet F.plain_dict_update_loop _, ?_⟩
  have hki : ∀ b o, b ≠ I → b ≠ d → s.heap.get? b = some o → h2.get? b = some o := fun b o h1 h3 e => (sb2.2 b h3).trans ((sb.2 b h1).trans e)
  refine ih (i + 1) { s with heap := h2, toks := s.toks + 1 } (stored acc kk v) (by omega) hlt (fun b o e => hki b o (nb b o e).1 (nb b o e).2 (hkeep _ _ e)) (st'.extBut sb2.extBut (Ne.symm hdI)) D2 (by have := length_stored acc kk v; omega) fun h3 tk k3 D3 => ?_
  refine hR h3 tk (fun b o h1 h2' e => k3 b o h1 h2' (hki b o h1 h2' e)) ?_
  have e7 : prs.drop i = (kk, v) :: prs.drop (i + 1) := by
   obtain ⟨hj, e8⟩ := List.getElem?_eq_some_iff.mp e2
   rw [List.drop_eq_getElem_cons hj, e8]
  rw [e7]
  exact D3
theorem call_dict_pairs {E : Value → Shared → Prop} {s : Shared} {Q : Value → Shared → Prop} {l : Addr} {ol : Obj} {nl : Nat} {items : List Value} {prs : List (K × Value)} (ho : s.heap.get? l = some ol) (hc : ol.cls = .type "list") (hod : ol.dict = none) (hdt : ol.data = .seq items.toArray nl) (hp : PairsAt knd s.heap items prs) (hn : items.length < sizeLine) (hh : A.handled = none)
  (h : ∀ h' tk, (∀ b o, s.heap.get? b = some o → h'.get? b = some o) → h'.DictOf knd s.heap.objs.size (prs.foldl (fun a p => stored a p.1 p.2) []) → Q (.ref s.heap.objs.size) { s with heap := h', toks := tk }) :
  wpAny (model prog w) A (call (.type "dict") [.ref l]) Q E s := by
 refine callType_codes (Q₁ := fun obj s₁ => obj = .ref s.heap.objs.size ∧ s₁ = { s with heap := s.heap.push { cls := .type "dict", data := .dict #[] } }) F.kt_called_dict (F.kt_typeCall_dict_1 _) F.entry_dict_init (kt_code_dict_new _ ⟨rfl, rfl⟩) ?_
 rintro obj s₁ ⟨rfl, rfl⟩
 have hnew : (s.heap.push { cls := .type "dict", data := .dict #[] }).DictOf knd s.heap.objs.size [] := Heap.DictOf.new s.heap
 have ho' : (s.heap.push { cls := .type "dict", data := .dict #[] }).get? l = some ol := Heap.get?_push_of_some _ ho
 refine ⟨hnew.typeIs, F.args_dict_init_2 _ _, ?_⟩
 unfold Builtin.«dict.__init__»
 refine wpAny_bind ?_
 unfold Builtin.Dict.selfAndRest
 refine wpAny_bind (wpAny_notOrdered_dict hnew.typeIs ?_)
 show wpAny _ _ (pure (s.heap.objs.size, [Value.ref l])) _ _ _
 refine wpAny_pure ?_
 show wpAny _ _ (Builtin.Dict.updateFrom "dict.__init__" s.heap.objs.size (.ref l) [] .none) _ _ _
 unfold Builtin.Dict.updateFrom
 refine wpAny_bind (wpAny_typeOf (T := "list") ⟨ol, ho', hc⟩ ?_)
 rw [if_pos (by decide)]
 refine wpAny_bind (getAttr?_miss_list ho' hc hdt hod F.list_no_keys (by decide) (by exact hh) (fun h' tk e ne => ?_))
 rw [if_pos (show (none : Option Value).isNone = true from rfl)]
 have kp : ∀ b o, s.heap.get? b = some o → h'.get? b = some o := fun b o e => ne.keeps b o (Heap.get?_push_of_some _ e)
 refine wpAny_bind (wpAny_rule ?_)
 have hL : h'.IsList l items.toArray := ⟨ol, kp _ _ ho, hc, nl, hdt⟩
 refine wpAny_bind (wpAny_pyIter_list hL ?_)
 refine wpAny_pure ⟨plainId_quiet F.plain_dict_update_loop _, ?_⟩
 have hD' : h'.DictOf knd s.heap.objs.size [] := let ⟨o, es, ep, ho, r⟩ := hnew; ⟨o, es, ep, ne.keeps _ _ ho, r⟩
 have hlt : s.heap.objs.size < h'.objs.size := let ⟨o, es, ep, ho, r⟩ := hD'; Heap.lt_size ho
 refine pairs_loop (hB := s.heap) (d := s.heap.objs.size) (I := h'.objs.size) (l := l) (Nat.le_refl _) (Nat.le_of_lt hlt) (Nat.ne_of_lt hlt) ⟨ol, ho, hc, nl, hdt⟩ hp hn (by exact hh) _ 0 _ [] rfl (Nat.zero_le _) (fun b o e => Heap.get?_push_of_some _ (kp b o e)) ⟨_, Heap.get?_push_size _ rfl, rfl, rfl⟩ (hD'.push _) (Nat.zero_le _) fun h2 tk2 k2 D2 => ?_
 refine ⟨rfl, h h2 tk2 (fun b o e => k2 b o (Nat.ne_of_lt (Heap.lt_size (kp b o e))) (Nat.ne_of_lt (Heap.lt_size e)) (Heap.get?_push_of_some _ (kp b o e))) D2⟩
end
end PySem
namespace L2
open PySem PySem.Spec PyProof.Rows
section
variable {X : Cx} {pins : List (Addr × Obj)} {σ : St} {H : Hp} {s : Shared}
theorem fold_stored {kvs : List (Key × V)} : ∀ {ps : List (Key × V)} {acc : List (Key × Value)} {rs : List (Key × Value)}, KV ps acc → KV kvs rs → KV (kvs.foldl (fun a p => putK a p.1 p.2) ps) (rs.foldl (fun a p => stored a p.1 p.2) acc) := by
 induction kvs with
 | nil => intro ps acc rs h g; cases g; exact h
 | cons p r ih =>
  intro ps acc rs h g
  cases g with
  | @cons _ q _ r' hq hr =>
   obtain ⟨e1, e2⟩ := hq
   rw [List.foldl_cons, List.foldl_cons]
   refine ih ?_ hr
   rw [← e1]
   exact h.put p.1 e2
theorem pairs_ex {P : Program} {w : World} {h : Heap} : ∀ {kvs : List (Key × V)} {ts : List Addr}, ts.length = kvs.length → (∀ (j : Nat) t kv, ts[j]? = some t → kvs[j]? = some kv → ∃ key v o m, (j0o P w).is kv.1 key = true ∧ RelV kv.2 v ∧ h.get? t = some o ∧ o.cls = .type "tuple" ∧ o.data = .seq #[key, v] m) →
  ∃ rs : List (Key × Value), KV kvs rs ∧ ∀ (j : Nat) t, ts[j]? = some t → ∃ key k v o m, rs[j]? = some (k, v) ∧ (j0o P w).is k key = true ∧ h.get? t = some o ∧ o.cls = .type "tuple" ∧ o.data = .seq #[key, v] m
 | [], ts, hl, _ => by
  have : ts = [] := List.length_eq_zero_iff.mp hl
  subst this
  exact ⟨[], .nil, fun j t h => by simp at h⟩
 | kv :: r, [], hl, _ => by simp at hl
 | kv :: r, t :: ts, hl, hp => by
  obtain ⟨key, v, o, m, q1, q2, q3, q4, q5⟩ := hp 0 t kv rfl rfl
  obtain ⟨rs, hk, hr⟩ := pairs_ex (kvs := r) (ts := ts) (by simpa using hl) fun j t kv h1 h2 => hp (j + 1) t kv (by simpa using h1) (by simpa using h2)
  refine ⟨(kv.1, v) :: rs, .cons ⟨rfl, q2⟩ hk, fun j t' ht => ?_⟩
  cases j with
  | zero =>
   cases ht
   exact ⟨key, kv.1, v, o, m, rfl, q1, q3, q4, q5⟩
  | succ j =>
   obtain ⟨key, k, v, o, m, e, z⟩ := hr j t' (by simpa using ht)
   exact ⟨key, k, v, o, m, by simpa using e, z⟩
theorem call_dict_list (hc : X.calm = true) : j2k X (.type "dict") (fun xs H Q => ∃ (a : Addr) (ts : List Addr) (kvs : List (Key × V)), xs = [.ref a] ∧ H a = some (.lst (ts.map V.ref)) ∧ ts.length = kvs.length ∧ ts.length < sizeLine ∧ (∀ (j : Nat) t kv, ts[j]? = some t → kvs[j]? = some kv → H t = some (.tup [kV kv.1, kv.2])) ∧
  ∀ d, H d = none → Q (.ref d) (upd H d (.dK (kvs.foldl (fun a p => putK a p.1 p.2) [])))) := by
 intro pins s σ H xs us Q I r h
 obtain ⟨a, ts, kvs, rfl, hH, hl, hz, ht, q⟩ := h
 obtain ⟨u, rfl, ru⟩ := vals1 r
 cases (show u = Value.ref a from ru)
 obtain ⟨z, its, n, rv, e⟩ := (show ObjOk X.prog X.w H s.heap a (.lst (ts.map V.ref)) from I.hok a _ hH)
 have hil := rv.length
 rw [List.length_map] at hil
 have its_at : ∀ (j : Nat) t, ts[j]? = some t → its[j]? = some (.ref t) := fun j t hj => by
  obtain ⟨u, hu, ru⟩ := rv.get (i := j) (x := .ref t) (by rw [List.getElem?_map, hj]; rfl)
  cases (show u = Value.ref t from ru)
  exact hu
 have pair : ∀ (j : Nat) t kv, ts[j]? = some t → kvs[j]? = some kv → ∃ key v o m, (j0o X.prog X.w).is kv.1 key = true ∧ RelV kv.2 v ∧ s.heap.get? t = some o ∧ o.cls = .type "tuple" ∧ o.data = .seq #[key, v] m := fun j t kv h1 h2 => by
  obtain ⟨z2, its2, rv2, o, eo, co, m, dm⟩ := (show ObjOk X.prog X.w H s.heap t (.tup [kV kv.1, kv.2]) from I.hok t _ (ht j t kv h1 h2))
  obtain ⟨key, v, e3, r1, r2⟩ := rv2.two
  refine ⟨key, v, o, m, kV_is r1, r2, eo, co, ?_⟩
  rw [dm, e3]
 obtain ⟨rs, hk, hr⟩ := pairs_ex hl pair
 have hkl := hk.length
 have hP : PairsAt (j0o X.prog X.w) s.heap its rs := by
  refine ⟨by omega, fun j it hj => ?_⟩
  have hjl : j < ts.length := by have := (List.getElem?_eq_some_iff.mp hj).1; omega
  have htj : ts[j]? = some ts[j] := List.getElem?_eq_getElem hjl
  have e2 := its_at j _ htj
  rw [hj] at e2
  obtain ⟨key, k, v, o, m, q1, q2, q3, q4, q5⟩ := hr j _ htj
  exact ⟨ts[j], key, k, v, o, m, Option.some.inj e2, q1, q2, q3, q4, q5⟩
 refine call_dict_pairs (knd := j0o X.prog X.w) e rfl rfl rfl hP (by omega) (I.ok.hd hc) fun h' tk kp D => ?_
 have hlen : ∀ (l : List (Key × V)) (a : List (Key × V)), (l.foldl (fun a p => putK a p.1 p.2) a).length ≤ a.length + l.length := by
  intro l
  induction l with
  | nil => intro a; exact Nat.le_refl _
  | cons p r ih =>
   intro a
   rw [List.foldl_cons, List.length_cons]
   have h1 := ih (putK a p.1 p.2)
   have h2 := j0w a p.1 p.2
   omega
 have hb := I.big
 refine ⟨.ref s.heap.objs.size, _, I.laid (t' := tk) kp (Nat.le_refl _) (show ObjOk X.prog X.w _ h' _ (.dK (kvs.foldl (fun a p => putK a p.1 p.2) [])) from ⟨?_, ?_, _, fold_stored (kvs := kvs) (ps := []) (acc := []) .nil hk, D⟩), rfl, q _ (I.hok.fresh (Nat.le_refl _))⟩
 ·have := hlen kvs []
  rw [List.length_nil] at this
  omega
 ·exact beq_eq_false_iff_ne.mpr (Nat.ne_of_gt hb)
end
end L2
namespace L2
open PySem PySem.Spec PyProof.Rows
section
variable {X : Cx} {pins : List (Addr × Obj)} {σ : St} {H : Hp} {s : Shared} {h' : Heap}
theorem Inv.turnedL {t' : Nat} {ch : List Addr} (I : Inv X pins σ H s) (hf : ∀ b ∈ ch, FpOk X pins H b) (k : ∀ b o, b ∉ ch → s.heap.get? b = some o → h'.get? b = some o) : Inv X pins σ H { s with heap := h', toks := t' } := by
 have nit : ∀ b u, H b = some u → b ∉ ch := fun b u e z => by rw [(hf b z).1] at e; cases e
 refine I.step (g' := s.gens) (d' := s.drawn) (ch := ch) (fun b hb => ?_) (fun b o _ _ hc e _ => k b o hc e) (fun b o _ _ hc e _ => ⟨o.slots, k b o hc e⟩) (fun _ _ _ _ n => n)
  (fun b o hc e => ⟨o, k b o hc e⟩) (fun _ _ e => e) (fun _ _ _ e => e) (fun b ps e => ⟨#[], by rw [e]; simp⟩) (fun m hm => ?_) (fun b u e => ?_) I.bare
 ·obtain ⟨f0, f1, f2, f3, f4, f5⟩ := hf b hb
  exact ⟨f3, f1, f4, f5⟩
 ·obtain ⟨o, es, ep, ho, r⟩ := hm
  exact ⟨o, es, ep, k _ o (fun z => (hf _ z).2.1 rfl) ho, r⟩
 ·refine (I.hok b u e).stay (fun c v hc q => k c v ?_ q) (fun _ q => q) fun _ _ q => q
  rcases hc with z | z
  ·rw [z]; exact nit b u e
  ·exact nit c _ z
noncomputable def Itz (K : PySem.W.Frag) (a b : Addr) : It :=
  ⟨fun i H => ∃ xs ys x y, SqL K H a xs ∧ SqL K H b ys ∧ xs[i]? = some x ∧ ys[i]? = some y,
   fun i H v H' => ∃ T x y, H T = none ∧ v = .ref T ∧ H' = upd H T (.tup [x, y]) ∧ (∀ xs, SqL K H a xs → xs[i]? = some x) ∧ ∀ ys, SqL K H b ys → ys[i]? = some y,
   fun i H => ∃ xs ys, SqL K H a xs ∧ SqL K H b ys ∧ (xs.length ≤ i ∨ ys.length ≤ i)⟩
noncomputable def ZipTn (m a b : Addr) (i : Nat) (h : Heap) : Prop :=
 IsZip h (m + 4) (m + 2) (m + 3) .none ∧ IsPair h (m + 2) (.ref m) (.ref (m + 1)) ∧ (∃ x y, IsPair h (m + 3) x y) ∧ h.IsListIter m a i ∧ h.IsListIter (m + 1) b i
theorem zip_apart {h : Heap} {m a b : Addr} {i : Nat} {xs ys : Array Value} (z : ZipTn m a b i h) (ha : h.IsList a xs) (hb : h.IsList b ys) : ZipApart (m + 4) (m + 2) (m + 3) m (m + 1) a b := by
  obtain ⟨z1, z2, ⟨x, y, z3⟩, ⟨o4, e4, c4, _⟩, ⟨o5, e5, c5, _⟩⟩ := z
  have cls : ∀ {l : Addr} {vs : Array Value} {c : Addr} {o : Obj}, h.IsList l vs → h.get? c = some o → o.cls ≠ .type "list" → l ≠ c := fun hl hc hn e => by
    obtain ⟨ol, hol, hcl, _⟩ := hl
    rw [e, hc] at hol
    cases hol
    exact hn hcl
  exact { TIz := by simp, TOz := by simp, i1z := by simp, i2z := by simp, TITO := by simp, TIi1 := by simp, TIi2 := by simp, TOi1 := by simp, TOi2 := by simp, i12 := by simp
          l1z := cls ha z1 (by show Value.type "zip" ≠ Value.type "list"; decide), l1TO := cls ha z3 (by show Value.type "tuple" ≠ Value.type "list"; decide), l1i1 := cls ha e4 (by rw [c4]; decide), l1i2 := cls ha e5 (by rw [c5]; decide)
          l2z := cls hb z1 (by show Value.type "zip" ≠ Value.type "list"; decide), l2TO := cls hb z3 (by show Value.type "tuple" ≠ Value.type "list"; decide), l2i1 := cls hb e4 (by rw [c4]; decide), l2i2 := cls hb e5 (by rw [c5]; decide) }
theorem turn_zip {P : Program} {w : World} {K : PySem.W.Frag} {elts : List Expr} {k : Nat} {tp : Pos} (m a b : Addr) : Turn P w K (.Tuple elts k tp) (Itz K a b) [m, m + 1, m + 2, m + 3, m + 4] (m + 4) (ZipTn m a b) where
 mem := by simp
 obj := fun i h st c hc => by
  obtain ⟨z1, z2, ⟨x, y, z3⟩, ⟨o4, e4, c4, d4⟩, ⟨o5, e5, c5, d5⟩⟩ := st
  simp only [List.mem_cons, List.not_mem_nil, or_false] at hc
  rcases hc with rfl | rfl | rfl | rfl | rfl
  ·exact ⟨_, e4, fun v z => by rw [d4] at z; cases z⟩
  ·exact ⟨_, e5, fun v z => by rw [d5] at z; cases z⟩
  ·exact ⟨_, z2, fun v z => by cases z⟩
  ·exact ⟨_, z3, fun v z => by cases z⟩
  ·exact ⟨_, z1, fun v z => by cases z⟩
 keep := fun i h h' st kp => by
  obtain ⟨z1, z2, ⟨x, y, z3⟩, ⟨o4, e4, r4⟩, ⟨o5, e5, r5⟩⟩ := st
  exact ⟨kp _ (by simp) _ z1, kp _ (by simp) _ z2, ⟨x, y, kp _ (by simp) _ z3⟩, ⟨o4, kp _ (by simp) _ e4, r4⟩, ⟨o5, kp _ (by simp) _ e5, r5⟩⟩
 item := by
  intro X hP hw hK hc i pins s σ H E I hf st hg
  subst hP hw hK
  obtain ⟨xs, ys, x, y, hxs, hys, hx, hy⟩ := hg
  obtain ⟨its1, rv1, p1, hz1⟩ := I.list hxs
  obtain ⟨its2, rv2, p2, hz2⟩ := I.list hys
  obtain ⟨u1, hu1, ru1⟩ := rv1.get hx
  obtain ⟨u2, hu2, ru2⟩ := rv2.get hy
  have D := zip_apart st p1.isList p2.isList
  obtain ⟨z1, z2, ⟨x0, y0, z3⟩, z4, z5⟩ := id st
  refine wpAny_pyNext_zip_item D z1 z2 z3 z4 z5 p1.isList p2.isList (x := u1) (y := u2) (by simpa using hu1) (by simpa using hu2) fun h' a1 a2 a3 a4 a5 a6 kp => ?_
  have hT : H s.heap.objs.size = none := I.hok.fresh (Nat.le_refl _)
  have nT : ∀ c ∈ [m, m + 1, m + 2, m + 3, m + 4], c ≠ s.heap.objs.size := fun c hc' => by
   have : ∃ o, s.heap.get? c = some o := by
    obtain ⟨o4, e4, _⟩ := z4
    obtain ⟨o5, e5, _⟩ := z5
    simp only [List.mem_cons, List.not_mem_nil, or_false] at hc'
    rcases hc' with rfl | rfl | rfl | rfl | rfl
    ·exact ⟨_, e4⟩
    ·exact ⟨_, e5⟩
    ·exact ⟨_, z2⟩
    ·exact ⟨_, z3⟩
    ·exact ⟨_, z1⟩
   obtain ⟨o, e⟩ := this
   exact Nat.ne_of_lt (Heap.lt_size e)
  have I1 : Inv X pins σ (upd H s.heap.objs.size (.tup [x, y])) { s with heap := s.heap.push { cls := .type "tuple", data := .seq #[u1, u2] } } :=
   I.laid (t' := s.toks) (fun b o e => Heap.get?_push_of_some _ e) (Nat.le_refl _) (show ObjOk X.prog X.w _ _ _ (.tup [x, y]) from ⟨(by show 2 ≤ sizeLine; decide), [u1, u2], .cons ru1 (.cons ru2 .nil), ⟨_, Heap.get?_push_size _ rfl, rfl, _, rfl⟩⟩)
  have f1 : ∀ c ∈ [m, m + 1, m + 2, m + 3, m + 4], FpOk X pins (upd H s.heap.objs.size (.tup [x, y])) c := fun c hc' => ⟨by rw [j0d (nT c hc')]; exact (hf c hc').1, (hf c hc').2⟩
  have kp2 : ∀ c o, c ∉ [m, m + 1, m + 2, m + 3, m + 4] → (s.heap.push { cls := .type "tuple", data := .seq #[u1, u2] }).get? c = some o → h'.get? c = some o := fun c o hc' e => by
   rcases Heap.get?_push_cases e with ⟨ec, eo⟩ | e'
   ·rw [ec, eo]
    exact a5
   ·simp only [List.mem_cons, List.not_mem_nil, or_false, not_or] at hc'
    exact kp c o hc'.2.2.2.2 hc'.2.2.2.1 hc'.1 hc'.2.1 e'
  have I2 := Inv.turnedL (h' := h') (t' := s.toks) I1 f1 kp2
  refine ⟨_, rfl, wpAny_letOwnedTupleGo_zip (s := { s with heap := h' }) a1 fun h2 b1 sb => ?_⟩
  have z2' : IsPair h' (m + 2) (.ref m) (.ref (m + 1)) := kp _ _ (by simp) (by simp) (by simp) (by simp) z2
  have kp3 : ∀ c o, c ∉ [m + 4] → h'.get? c = some o → h2.get? c = some o := fun c o hc' e => (sb.2 c (by simpa using hc')).trans e
  have I3 := Inv.turnedL (h' := h2) (t' := s.toks) I2 (ch := [m + 4]) (fun c hc' => f1 c (by simp at hc'; simp [hc'])) kp3
  refine ⟨.ref s.heap.objs.size, _, I3, rfl, ⟨_, x, y, hT, rfl, rfl, fun zs hz => by rw [I.list_inj hz hxs]; exact hx, fun zs hz => by rw [I.list_inj hz hys]; exact hy⟩, ?_, fun c hc' => (f1 c hc').1⟩
  have sx : ∀ c o, c ≠ m + 4 → h'.get? c = some o → h2.get? c = some o := fun c o hc' e => (sb.2 c hc').trans e
  obtain ⟨o3, e3, r3⟩ := a3
  obtain ⟨o4, e4, r4⟩ := a4
  exact ⟨b1, sx _ _ (by simp) z2', ⟨u1, u2, sx _ _ (by simp) a2⟩, ⟨o3, sx _ _ (by simp) e3, r3⟩, ⟨o4, sx _ _ (by simp) e4, r4⟩⟩
 done := by
  intro X hP hw hK hc i pins s σ H E I hf st hg
  subst hP hw hK
  obtain ⟨xs, ys, hxs, hys, hend⟩ := hg
  obtain ⟨its1, rv1, p1, hz1⟩ := I.list hxs
  obtain ⟨its2, rv2, p2, hz2⟩ := I.list hys
  have l1 := rv1.length
  have l2 := rv2.length
  have D := zip_apart st p1.isList p2.isList
  obtain ⟨z1, z2, ⟨x0, y0, z3⟩, z4, z5⟩ := id st
  refine wpAny_pyNext_zip_end (I.ok.hd hc) D z1 z2 z3 z4 z5 p1.isList p2.isList ?_ fun h' kp => ⟨rfl, I.turnedL (t' := s.toks) (ch := [m, m + 1, m + 2, m + 3, m + 4]) hf fun c o hc' e => ?_⟩
  ·rcases hend with h | h
   ·exact .inl (by simp; omega)
   ·exact .inr (by simp; omega)
  ·simp only [List.mem_cons, List.not_mem_nil, or_false, not_or] at hc'
   exact kp c o hc'.2.2.2.2 hc'.2.2.2.1 hc'.1 hc'.2.1 e
 self := fun _ _ _ _ _ st h => wpAny_pyIter_zip st.1 h
end
section
variable {X : Cx}
noncomputable def iZip (K : PySem.W.Frag) (ta : TA) : TI := fun σ H R => ta σ H fun vs H1 => ∃ a b, vs = [.ref a, .ref b] ∧ (∃ xs, SqL K H1 a xs) ∧ (∃ ys, SqL K H1 b ys) ∧ R (Itz K a b) H1
theorem pi_zip {elts : List Expr} {k : Nat} {tp : Pos} {a b : Expr} {ta : TA} {p pos : Pos} (hg : Gl X "zip") (hm : X.mg "zip" = none) (ha : PA X [a, b] ta) (hs : starEach [a, b] X.env = [(false, eval a X.env), (false, eval b X.env)] := by rfl) (hs2 : starEach [b] X.env = [(false, eval b X.env)] := by rfl) :
  PI X (.Tuple elts k tp) (.Call (.Name "zip" p) [a, b] [] pos) (iZip X.K ta) := by
 intro pins s σ H R I h
 refine Call_ (ld_blt I hg hm boot_zip (PyProof.Rows.callWith_type1 (thn (ha pos pins s σ H _ I h) fun us s1 ⟨vs, H1, I1, r1, q1⟩ => ?_) (by rw [hs, hs2]) (by rw [hs2]; rfl)))
 obtain ⟨x, y, e, ⟨xs, hx⟩, ⟨ys, hy⟩, q⟩ := q1
 subst e
 obtain ⟨u, v, rfl, ru, rv⟩ := r1.two
 cases (show u = Value.ref x from ru)
 cases (show v = Value.ref y from rv)
 obtain ⟨its1, rv1, p1, hz1⟩ := I1.list hx
 obtain ⟨its2, rv2, p2, hz2⟩ := I1.list hy
 refine call_zip_2 p1.isList p2.isList fun h' a1 a2 a3 a4 a5 a6 kp => ?_
 refine wpAny_pyIter_zip (s := { s1 with heap := h' }) a1 ?_
 refine ⟨s1.heap.objs.size + 4, [s1.heap.objs.size, s1.heap.objs.size + 1, s1.heap.objs.size + 2, s1.heap.objs.size + 3, s1.heap.objs.size + 4], _, _, H1, rfl, I1.kept (t' := s1.toks) kp, turn_zip s1.heap.objs.size x y, ⟨a1, a2, ⟨_, _, a3⟩, a4, a5⟩, fun b hb => ?_, q⟩
 have hle : s1.heap.objs.size ≤ b := by
  simp only [List.mem_cons, List.not_mem_nil, or_false] at hb
  rcases hb with rfl | rfl | rfl | rfl | rfl <;> omega
 exact I1.fpOk hle (I1.hok.fresh hle)
end
end L2
namespace L2
open PySem PySem.Spec PyProof.Rows
structure Clause (e : Expr) (d : Nat) (tg iter : Expr) (ifs : List Expr) (acc : Value) (env : Env) (inner : Sem Unit) : Prop where
 at' : (clausesOf e)[d]? = some ⟨tg, iter, ifs, 0⟩
 quiet : ∀ it, (Code.compLoop e d it acc env).quiet = true
 den : ∀ (prog : Program) (w : World) it, (model prog w).den (.compLoop e d it acc env) = (compTurn e d it acc env).onRaise (fun x => do noteFrame x env; theTreesLotGoes x)
 und : ∀ (A : Around) it, A.under (.compLoop e d it acc env) = A
 denS : ∀ (prog : Program) (w : World) it, (model prog w).den (.compStart e d it acc env) = (compStart e d it acc env).onRaise (fun x => do noteFrame x env; standAt theWindowsPlace)
 undS : ∀ (A : Around) it, A.under (.compStart e d it acc env) = A
 turn : ∀ it, compTurn e d it acc env = (do
   standAt iter.pos
   match ← pyNext it with
   | none => pure (.done .next)
   | some v =>
    letOwnedTupleGo tg it v
    assign tg env v
    let mut ok := true
    for c in ifs do
     if ok then ok ← isTrue c env (eval c env)
    if ok then
     inner
    again (.compLoop e d it acc env))
section
variable {prog : Program} {w : World} {A : Around} {R : Result → Shared → Prop} {s : Shared}
theorem j3a {e : Expr} {d : Nat} {tg iter : Expr} {ifs : List Expr} {it acc : Value} {env : Env} {inner : Sem Unit} (C : Clause e d tg iter ifs acc env inner) (I : Nat → Shared → Prop)
  (turn : ∀ n s, I n s → wpAny (model prog w) A (pyNext it) (fun r s₁ => match r with
   | none => R (.ok .next) s₁
   | some v => wpAny (model prog w) A (letOwnedTupleGo tg it v) (fun _ s₁' => wpAny (model prog w) A (assign tg env v) (fun _ s₂ =>
     wpAny (model prog w) A (forIn ifs true fun c r => if r = true then do let ok ← isTrue c env (eval c env); pure (ForInStep.yield ok) else pure (ForInStep.yield r)) (fun ok s₃ =>
      if ok = true then wpAny (model prog w) A inner (fun _ s₄ => ∃ m, m < n ∧ I m s₄) (notedBy (model prog w) A env fun e s' => R (.error e) s') s₃
      else ∃ m, m < n ∧ I m s₃) (notedBy (model prog w) A env fun e s' => R (.error e) s') s₂) (notedBy (model prog w) A env fun e s' => R (.error e) s') s₁') (notedBy (model prog w) A env fun e s' => R (.error e) s') s₁) (notedBy (model prog w) A env fun e s' => R (.error e) s') s)
  (n : Nat) (h : I n s) :
  codeAny (model prog w) A (.compLoop e d it acc env) R s := by
 refine codeAny_loop (C.quiet it) I (fun n s hI => ?_) n h
 rw [C.und, C.den]
 refine wpAny_noted ?_
 rw [C.turn]
 refine wpAny_bind (wpAny_standAt (wpAny_bind (wpAny_mono (turn n s hI) (fun r s₁ h₁ => ?_) fun _ _ h' => h')))
 cases r with
 | none => exact wpAny_pure h₁
 | some v =>
  refine wpAny_bind (wpAny_mono h₁ (fun _ s₁' h₁' => ?_) fun _ _ h' => h')
  refine wpAny_bind (wpAny_mono h₁' (fun _ s₂ h₂ => wpAny_bind (wpAny_mono h₂ (fun ok s₃ h₃ => ?_) fun _ _ h' => h')) fun _ _ h' => h')
  cases ok with
  | false => exact wpAny_pure ⟨rfl, h₃⟩
  | true => exact wpAny_bind (wpAny_mono h₃ (fun _ s₄ h₄ => wpAny_pure ⟨rfl, h₄⟩) fun _ _ h' => h')
theorem j24 {e : Expr} {d : Nat} {tg iter : Expr} {ifs : List Expr} {it acc : Value} {env : Env} {inner : Sem Unit} (C : Clause e d tg iter ifs acc env inner)
  (h0 : codeAny (model prog w) A (.compLoop e d it acc env) R s)
  (h : wpAny (model prog w) A (pyIter it) (fun it' s' => codeAny (model prog w) A (.compLoop e d it' acc env) R s') (notedBy (model prog w) A env fun x s' => R (.error x) s') s) :
  codeAny (model prog w) A (.compStart e d it acc env) R s := by
 refine codeAny_of_tree ?_
 rw [C.undS, C.denS]
 refine wpAny_notedAt ?_
 unfold compStart
 rw [C.at']
 show wpAny _ _ (ask >>= _) _ _ s
 refine wpAny_bind (wpAny_askSetting (wpAny_ite ?_))
 split
 ·first
   | exact wpAny_bind (wpAny_pure (wpAny_pure (And.intro (C.quiet _) h0)))
   | exact wpAny_pure (And.intro (C.quiet _) h0)
 ·first
   | exact wpAny_bind (wpAny_rule (wpAny_bind (wpAny_standAt (wpAny_bind (wpAny_mono h (fun it' s' h' => wpAny_pure (And.intro (C.quiet _) h')) fun _ _ x => x)))))
   | (refine wpAny_bind (wpAny_rule ?_); show wpAny _ _ (standAt iter.pos >>= _) _ _ s; exact wpAny_bind (wpAny_standAt (wpAny_bind (wpAny_mono h (fun it' s' h' => wpAny_pure (And.intro (C.quiet _) h')) fun _ _ x => x))))
end
structure Ein (X : Cx) (m : Sem Unit) (σ : St) (H : Hp) (Q : St → Hp → Prop) : Prop where
 run : ∀ (pins : List (Addr × Obj)) (s : Shared), Inv X pins σ H s → wpAny (model X.prog X.w) X.A m (fun _ s' => ∃ σ' H', Inv X pins σ' H' s' ∧ Q σ' H') X.xe s
noncomputable def j2h (X : Cx) (tg : Expr) (ifs : List Expr) (inner : Sem Unit) (J : It) (after : St → Hp → Prop) (σ : St) (H : Hp) : Prop :=
 ∃ W : Nat → Nat → St → Hp → Prop, (∃ m, W 0 m σ H) ∧ ∀ i m σ' H', W i m σ' H' →
  (J.stop i H' ∧ after σ' H') ∨ (J.go i H' ∧ ∃ N : St → Hp → Prop, (∀ σ' H', N σ' H' → ∃ m', m' < m ∧ W (i + 1) m' σ' H') ∧ ∀ x H2, J.yld i H' x H2 → Eg X tg x σ' H2 fun σ2 H3 => Ei X ifs σ2 H3 fun b H4 =>
   if b = true then Ein X inner σ2 H4 N else N σ2 H4)
theorem j3f {X : Cx} (hxe : X.xe = fun _ _ => False) (hc : X.calm = true) {e : Expr} {d : Nat} {tg iter : Expr} {ifs : List Expr} {acc : Value} {inner : Sem Unit} (C : Clause e d tg iter ifs acc X.env inner) {pins : List (Addr × Obj)} {σ : St} {H : Hp} {s : Shared}
  {it : Addr} {fp : List Addr} {tn : Nat → Heap → Prop} {J : It} {after : St → Hp → Prop} {R : Result → Shared → Prop} (I : Inv X pins σ H s) (T : Turn X.prog X.w X.K tg J fp it tn) (st : tn 0 s.heap) (hf : ∀ b ∈ fp, FpOk X pins H b) (h : j2h X tg ifs inner J after σ H)
  (hR : ∀ σ' H' s', Inv X pins σ' H' s' → after σ' H' → R (.ok .next) s') :
  codeAny (model X.prog X.w) X.A (.compStart e d (.ref it) acc X.env) R s := by
 obtain ⟨W, ⟨m0, w0⟩, turn⟩ := h
 have stat : ∀ {H' : Hp}, (∀ b ∈ fp, H' b = none) → ∀ b ∈ fp, FpOk X pins H' b := fun hn b hb => ⟨hn b hb, (hf b hb).2⟩
 have loop : codeAny (model X.prog X.w) X.A (.compLoop e d (.ref it) acc X.env) R s := by
  refine j3a C (fun k s' => ∃ i σ' H', Inv X pins σ' H' s' ∧ tn i s'.heap ∧ (∀ b ∈ fp, H' b = none) ∧ W i k σ' H') ?_ m0 ⟨0, σ, H, I, st, fun b hb => (hf b hb).1, w0⟩
  rintro k s4 ⟨i, σ4, H4, J4, st4, fr4, w4⟩
  rcases turn i k σ4 H4 w4 with ⟨stop, qn⟩ | ⟨go, N, hN, step⟩
  ·have d1 := T.done X rfl rfl rfl hc i pins s4 σ4 H4 (fun _ _ => False) J4 (stat fr4) st4 stop
   refine thnF d1 fun r s5 ⟨hr, I5⟩ => ?_
   subst hr
   exact hR _ _ _ I5 qn
  ·have d1 := T.item X rfl rfl rfl hc i pins s4 σ4 H4 (fun _ _ => False) J4 (stat fr4) st4 go
   refine thnF d1 fun r s5 ⟨u, hr, h5⟩ => ?_
   subst hr
   refine thnF h5 fun _ s6 ⟨x, H6, I6, r6, y6, st6, fr6⟩ => ?_
   have I6' := I6.pinned (stat fr6) (T.obj _ _ st6)
   have again : ∀ {σ7 : St} {H7 : Hp} {s7 : Shared}, Inv X (pins ++ pinsAt fp s6.heap) σ7 H7 s7 → N σ7 H7 → ∃ m, m < k ∧ ∃ i σ' H', Inv X pins σ' H' s7 ∧ tn i s7.heap ∧ (∀ b ∈ fp, H' b = none) ∧ W i m σ' H' := fun {σ7 H7 s7} I7 n7 => by
    obtain ⟨m', hm, w7⟩ := hN σ7 H7 n7
    refine ⟨m', hm, i + 1, σ7, H7, I7.unpinned, T.keep _ _ _ st6 fun b hb o e => (I7.pin (b, o) (List.mem_append_right _ (List.mem_append_right _ (j17 hb e)))).1, fun b hb => ?_, w7⟩
    obtain ⟨o, e, d⟩ := T.obj _ _ st6 b hb
    exact (I7.pin (b, o) (List.mem_append_right _ (List.mem_append_right _ (j17 hb e)))).2.1
   have a1 := (step x H6 y6).run _ s6 u I6' r6
   rw [hxe] at a1
   refine thnF a1 fun _ s7 ⟨σ7, H7, I7, q7⟩ => ?_
   have a2 := q7.run _ s7 I7
   rw [hxe] at a2
   refine thnF a2 fun ok s8 ⟨H8, I8, q8⟩ => ?_
   cases ok with
   | false =>
    rw [if_neg Bool.false_ne_true] at q8 ⊢
    exact again I8 q8
   | true =>
    rw [if_pos rfl] at q8 ⊢
    have a3 := q8.run _ s8 I8
    rw [hxe] at a3
    exact thnF a3 fun _ s9 ⟨σ9, H9, I9, q9⟩ => again I9 q9
 exact j24 C loop (T.self _ 0 _ _ _ st loop)
end L2
namespace L2
open PySem PySem.Spec PyProof.Rows
theorem j2m {X : Cx} {e : Expr} {tg iter : Expr} {ifs : List Expr} {scope : Scope} {N' : List Str} {newAcc : Sem Value} {o0 : Obj} {u0 : Addr → HO} {n : Nat} {inner : Value → Env → Sem Unit} {pins : List (Addr × Obj)} {σ : St} {H2 : Hp} {s2 : Shared} {E : Value → Shared → Prop} {RR : Value → Addr → Result → Shared → Prop} {it : Addr} {fp : List Addr} {tn : Nat → Heap → Prop} {J : It} {Q : VK}
  (hnew : ∀ (Q : Value → Shared → Prop) (E : Value → Shared → Prop) (s : Shared), Q (.ref s.heap.objs.size) { s with heap := s.heap.push o0 } → wpAny (model X.prog X.w) X.A newAcc Q E s) (hobj : ∀ (H : Hp) (h : Heap), sysModules < h.objs.size → ObjOk X.prog X.w H (h.push o0) h.objs.size (u0 h.objs.size))
  (hc : X.calm = true) (ck : CompOk X.env.scope scope X.N N') (hl : N'.length = X.N.length + n) (hC : ∀ acc env, Clause e 0 tg iter ifs acc env (inner acc env))
  (I2 : Inv X pins σ H2 s2) (T : Turn X.prog X.w X.K tg J fp it tn) (st2 : tn 0 s2.heap) (f2 : ∀ b ∈ fp, FpOk X pins H2 b)
  (q : ∀ D, H2 D = none → ∀ cl C s₀ H₀ ex, j2h (j1d X N' scope cl C s₀ H₀ ex) tg ifs (inner (.ref D) (compEnvC scope cl C X.env)) J (fun _ H' => Q (.ref D) H') (σ ++ List.replicate n none) (upd H2 D (u0 D)))
  (hRR : ∀ D C H' s' m, Inv X pins σ H' s' → s'.heap.Ns C m → H' C = none → C ≠ X.env.locals → X.s₀.heap.objs.size ≤ C → (∀ x c, X.env.cells.lookup x = some c → c ≠ C) → (∀ p ∈ X.pn ++ pins, p.1 ≠ C) → Q (.ref D) H' → RR (.ref D) C (.ok .next) s') :
  wpAny (model X.prog X.w) X.A newAcc (fun acc s₃ => wpAny (model X.prog X.w) X.A (newFunctionEnv scope X.env.globals (j03 scope.names X.env.cells []) [] X.env.qual none .none (some X.env)) (fun cenv s₄ =>
   codeAny (model X.prog X.w) X.A (.compStart e 0 (.ref it) acc { cenv with scope := relabel scope X.env }) (RR acc cenv.locals) s₄) E s₃) E s2 := by
 refine hnew _ _ _ (wpAny_newFunctionEnv ck.cell (by intro y hy; simp at hy) (fun h₁ hns₁ hsb₁ => ?_) ck.kind)
 have hD : H2 s2.heap.objs.size = none := I2.hok.fresh (Nat.le_refl _)
 have q0 := q s2.heap.objs.size hD (j03 scope.names X.env.cells [])
 have fl : ∀ b ∈ fp, b < s2.heap.objs.size := fun b hb => by
  obtain ⟨o, e, _⟩ := T.obj 0 _ st2 b hb
  exact Heap.lt_size e
 have I3 : Inv X pins σ (upd H2 s2.heap.objs.size (u0 s2.heap.objs.size)) { s2 with heap := s2.heap.push o0 } :=
  I2.laid (t' := s2.toks) (fun b o e => Heap.get?_push_of_some _ e) (Nat.le_refl _) (hobj _ _ I2.big)
 generalize hs3 : ({ s2 with heap := s2.heap.push o0 } : Shared) = s3 at I3 hns₁ hsb₁ ⊢
 have hz3 : s3.heap.objs.size = s2.heap.objs.size + 1 := by rw [← hs3]; exact Heap.size_push ..
 have old2 : ∀ b o, s2.heap.get? b = some o → s3.heap.get? b = some o := fun b o e => by rw [← hs3]; exact Heap.get?_push_of_some _ e
 have old : ∀ b o, s3.heap.get? b = some o → h₁.get? b = some o := fun b o e =>
  hsb₁.extBut b o (Nat.ne_of_lt (Heap.lt_size e)) (Heap.get?_push_of_some _ e)
 have f3 : ∀ b ∈ fp, FpOk X pins (upd H2 s2.heap.objs.size (u0 s2.heap.objs.size)) b ∧ b < s3.heap.objs.size := fun b hb => by
  refine ⟨⟨?_, (f2 b hb).2⟩, by rw [hz3]; exact Nat.lt_succ_of_lt (fl b hb)⟩
  rw [j0d (Nat.ne_of_lt (fl b hb))]
  exact (f2 b hb).1
 have I4 := fun (t' : Nat) => inv_comp (N' := N') (scope := scope) (n := n) (fp := fp) (h₁ := h₁) (t' := t') I3 ck hl hns₁ old f3
 generalize hX : j1d X N' scope (j03 scope.names X.env.cells []) s3.heap.objs.size s3 (upd H2 s2.heap.objs.size (u0 s2.heap.objs.size)) fp = X' at I4
 have eP : X'.prog = X.prog := by rw [← hX]; rfl
 have ew : X'.w = X.w := by rw [← hX]; rfl
 have eK : X'.K = X.K := by rw [← hX]; rfl
 have eA : X'.A = X.A := by rw [← hX]; rfl
 have eE : X'.env = compEnvC scope (j03 scope.names X.env.cells []) s3.heap.objs.size X.env := by rw [← hX]; rfl
 have ec : X'.calm = true := by rw [← hX]; exact hc
 have ex' : X'.xe = fun _ _ => False := by rw [← hX]; rfl
 have stat : ∀ {H' : Hp}, (∀ b ∈ fp, H' b = none) → ∀ b ∈ fp, FpOk X' [] H' b := fun hn b hb => by
  refine ⟨hn b hb, ?_, ?_, ?_, ?_, ?_⟩
  ·rw [eE]; exact Nat.ne_of_lt (f3 b hb).2
  ·rw [← hX]
   intro hf
   rcases List.mem_cons.mp (I3.stkSub b hf) with z | z
   ·exact (f3 b hb).1.2.1 z
   ·exact (f3 b hb).1.2.2.1 z
  ·rw [← hX]; exact .inl hb
  ·rw [eE]
   intro x c e
   exact (f3 b hb).1.2.2.2.2.1 x c (j26 _ _ _ (fun _ _ z => by simp at z) x c (PySem.mem_of_lookup e))
  ·rw [← hX]; intro p hp; exact absurd hp (by simp [j1d])
 have fin : ∀ {σ' : St} {H' : Hp} {s' : Shared}, Inv X' [] σ' H' s' → Q (.ref s2.heap.objs.size) H' → RR (.ref s2.heap.objs.size) s3.heap.objs.size (.ok .next) s' := fun {σ' H' s'} I' q' => by
  obtain ⟨m', hn', _⟩ := id I'.loc
  rw [eE] at hn'
  have hos : s'.os = s3.os := by have := I'.os; rw [← hX] at this; exact this
  have hun : Un (frs X.stack) fp (upd H2 s2.heap.objs.size (u0 s2.heap.objs.size)) H' s3.heap s'.heap := by have := I'.base; rw [← hX] at this; exact this
  have hok : HOk X.prog X.w H' s'.heap := by have := I'.hok; rw [eP, ew] at this; exact this
  have IX : Inv X pins σ H' s' := I3.call' (ch := fp) hos hun hok I'.bare fun b hb => ⟨(f3 b hb).1.2.2.2.1, (f3 b hb).1.2.1, (f3 b hb).1.2.2.2.2.1, (f3 b hb).1.2.2.2.2.2⟩
  have hfr := I'.free
  rw [eE] at hfr
  refine hRR _ _ H' s' m' IX hn' hfr (Nat.ne_of_gt I3.lt) I3.sz (fun x c e z => ?_) (fun p hp z => ?_) q'
  ·obtain ⟨v, o, ho, _⟩ := I3.cell x c e
   exact absurd (Heap.lt_size ho) (by rw [z]; exact Nat.lt_irrefl _)
  ·exact absurd (Heap.lt_size (I3.pin p hp).1) (by rw [z]; exact Nat.lt_irrefl _)
 have fs0 : ∀ b ∈ fp, FpOk X' [] (upd H2 s2.heap.objs.size (u0 s2.heap.objs.size)) b := stat fun b hb => (f3 b hb).1.1
 have q1 : j2h X' tg ifs (inner (.ref s2.heap.objs.size) X'.env) J (fun _ H' => Q (.ref s2.heap.objs.size) H') (σ ++ List.replicate n none) (upd H2 s2.heap.objs.size (u0 s2.heap.objs.size)) := by
  rw [eE, ← hX]
  exact q0 _ _ _ _
 have T' : Turn X'.prog X'.w X'.K tg J fp it tn := by rw [eP, ew, eK]; exact T
 have fin2 := j3f (s := { s3 with heap := h₁, toks := s3.toks }) ex' ec (hC (.ref s2.heap.objs.size) X'.env) (I4 s3.toks) T' (T.keep 0 _ _ st2 fun b _ o e => old b o (old2 b o e)) fs0 q1 (R := RR (.ref s2.heap.objs.size) s3.heap.objs.size) fun σ' H' s' I' a' => fin I' a'
 rw [eP, ew, eA, eE] at fin2
 exact fin2
end L2
namespace L2
open PySem PySem.Spec PyProof.Rows
noncomputable def next2 (elt t1 i1 : Expr) (f1 : List Expr) (t2 i2 : Expr) (f2 : List Expr) (scope : Scope) (pos : Pos) (acc : Value) (env : Env) : Sem Unit := do
 let x ← eval i2 env
 standAt i2.pos
 let x ← foldedSetIterable i2 env x
 let _ ← runOwn (.compStart (.ListComp elt [⟨t1, i1, f1, 0⟩, ⟨t2, i2, f2, 0⟩] scope pos) 1 (← holding [x] (pyIter x)) acc env) env
noncomputable def emit (elt : Expr) (acc : Value) (env : Env) : Sem Unit := do let _ ← call (.builtin "list.append") [acc, ← eval elt env]
section
variable {X : Cx} {elt t1 i1 t2 i2 : Expr} {f1 f2 : List Expr} {scope : Scope} {pos : Pos} {σ : St} {H : Hp} {acc : Value} {env : Env}
theorem clause0 : Clause (.ListComp elt [⟨t1, i1, f1, 0⟩, ⟨t2, i2, f2, 0⟩] scope pos) 0 t1 i1 f1 acc env (next2 elt t1 i1 f1 t2 i2 f2 scope pos acc env) := ⟨rfl, fun _ => rfl, fun _ _ _ => rfl, fun _ _ => rfl, fun _ _ _ => rfl, fun _ _ => rfl, fun it => by
 unfold next2
 simp only [bind_assoc, pure_bind]
 rfl⟩
theorem clause1 : Clause (.ListComp elt [⟨t1, i1, f1, 0⟩, ⟨t2, i2, f2, 0⟩] scope pos) 1 t2 i2 f2 acc env (emit elt acc env) := ⟨rfl, fun _ => rfl, fun _ _ _ => rfl, fun _ _ => rfl, fun _ _ _ => rfl, fun _ _ => rfl, fun _ => rfl⟩
theorem ein_emit {D : Addr} {Q : St → Hp → Prop} (h : Ev X elt σ H fun v H1 => ∃ ys, H1 D = some (.lst ys) ∧ ys.length < sizeLine ∧ Q σ (upd H1 D (.lst (ys ++ [v])))) : Ein X (emit elt (.ref D) X.env) σ H Q := by
 refine ⟨fun pins s I => ?_⟩
 unfold emit
 refine wpAny_bind (thn (h.run pins s I) fun v s1 ⟨x, H1, I1, r1, ys, hy, hz, q⟩ => ?_)
 refine wpAny_bind (thn (mt_append (X := X) _ s1 σ H1 (.ref D) [x] (.ref D) [v] (fun _ H' => Q σ H') I1 rfl (.cons r1 .nil) ⟨_, ys, x, rfl, rfl, hy, hz, q⟩) fun _ s2 ⟨_, H2, I2, _, q2⟩ => wpAny_pure ⟨σ, H2, I2, q2⟩)
theorem ein_next {wi : TI} {Q : St → Hp → Prop} (hxe : X.xe = fun _ _ => False) (hc : X.calm = true) (hi : PI X t2 i2 wi) (h : wi σ H fun J H1 => j2h X t2 f2 (emit elt acc X.env) J Q σ H1)
  (hs : ∀ x, foldedSetIterable i2 X.env x = pure x := by intro _; rfl) : Ein X (next2 elt t1 i1 f1 t2 i2 f2 scope pos acc X.env) σ H Q := by
 refine ⟨fun pins s I => ?_⟩
 unfold next2
 refine wpAny_bind (thn (hi pins s σ H _ I h) fun x s1 h1 => ?_)
 refine wpAny_bind (wpAny_standAt (wpAny_bind (wpAny_of_eq (hs x) (wpAny_bind (wpAny_holding (wpAny_mono h1 (fun itv s2 h2 => ?_) fun _ _ e => e))))))
 obtain ⟨it, fp, tn, J, H2, e, I2, T, st2, f2', q⟩ := h2
 subst e
 refine wpAny_bind (wpAny_runOwn (Q := fun _ s' => wpAny (model X.prog X.w) X.A (pure ()) (fun _ s' => ∃ σ' H', Inv X pins σ' H' s' ∧ Q σ' H') X.xe s') ?_)
 exact j3f hxe hc clause1 I2 T st2 f2' q fun σ' H' s' I' q' => wpAny_pure ⟨σ', H', I', q'⟩
theorem ev_comp2 {wi : TI} {Q : VK} (sc : Scope) (N N' : List Str) (n : Nat) (hi : PI X t1 i1 wi)
  (h : wi σ H fun J H1 => ∀ D, H1 D = none → ∀ cl C s₀ H₀ ex, j2h (j1d X N' scope cl C s₀ H₀ ex) t1 f1 (next2 elt t1 i1 f1 t2 i2 f2 scope pos (.ref D) (compEnvC scope cl C X.env)) J (fun _ H' => Q (.ref D) H') (σ ++ List.replicate n none) (upd H1 D (.lst [])))
  (hc : X.calm = true := by rfl) (hsc : X.env.scope = sc := by rfl) (hN : X.N = N := by rfl) (hk : compOk sc scope N N' = true := by decide +kernel) (hl : N'.length = N.length + n := by rfl)
  (hs : ∀ x, foldedSetIterable i1 X.env x = pure x := by intro _; rfl) : Ev X (.ListComp elt [⟨t1, i1, f1, 0⟩, ⟨t2, i2, f2, 0⟩] scope pos) σ H Q := by
 refine ⟨fun pins s I => ?_⟩
 subst hsc hN
 have ck := CompOk.of hk
 rw [eval_ListComp]
 refine wpAny_comprehension_free (use := none) rfl hs (j2j fun x hx hf => I.ok.has x.1 (ck.free x hx hf)) ck.kind ck.names (thn (hi pins s σ H _ I h) fun v s1 h1 => thn h1 fun itv s2 h2 => ?_)
 obtain ⟨it, fp, tn, J, H2, e, I2, T, st2, f2', q⟩ := h2
 subst e
 refine j2m (e := .ListComp elt [⟨t1, i1, f1, 0⟩, ⟨t2, i2, f2, 0⟩] scope pos) (newAcc := newList []) (o0 := { cls := .type "list", dict := none, data := .seq ([] : List Value).toArray }) (u0 := fun _ => .lst []) (fun _ _ _ h => wpAny_newObj_type h (by show (0 : Nat) ≤ sizeLine; exact Nat.zero_le _)) (fun _ _ _ => ⟨Nat.zero_le _, [], 0, .nil, Heap.get?_push_size _ rfl⟩) (Q := Q) (RR := fun acc C => compPost (model X.prog X.w) X.A X.xe none (EP X pins σ Q) acc C) hc ck hl (inner := next2 elt t1 i1 f1 t2 i2 f2 scope pos) (fun _ _ => clause0) I2 T st2 f2' q ?_
 intro D C H' s' m IX hn hC c1 c2 c3 c4 qq
 exact ⟨m, hn, fun h' hs' => ⟨.ref D, H', IX.turned (t' := s'.toks) (fun b o hb e => hs'.extBut b o hb e) hC (Ne.symm (Ne.symm c1)) (.inr c2) c3 c4, rfl, qq⟩⟩
end
end L2
namespace L2
open PySem PySem.Spec PyProof.Rows
section
variable {X : Cx} {pins : List (Addr × Obj)} {σ : St} {H : Hp} {s : Shared} {a : Addr} {y v : V} {u r : Value} {A : Around} {E : Value → Shared → Prop}
theorem d_dictSet {H' : Hp} {Q : Unit → Shared → Prop} (hu : A.units + 1 < cLine) (I : Inv X pins σ H s) (g : DPut H a y v H') (ry : RelV y u) (rv : RelV v r) (h : ∀ s', Inv X pins σ H' s' → Q () s') :
  wpAny (model X.prog X.w) A (dictSet a u r) Q E s := by
 rcases g with ⟨kvs, k, e, ey, l, eH⟩ | ⟨kvs, k, b, e, ey, eb, l, eH⟩
 ·subst ey eH
  obtain ⟨z, hd, vs, rel, dd⟩ := dk_of I.hok e
  have hz : vs.length ≤ sizeLine := by rw [← rel.length]; exact z
  have hl : (putK kvs k v).length ≤ sizeLine := by have := j0w kvs k v; omega
  refine wpAny_dictSet_pairs (hsz := hz) (kV_is ry) dd fun h' dd' hs => h _ ?_
  have he : ∃ q, h'.get? a = some q := let ⟨q, _, _, hq, _⟩ := dd'; ⟨q, hq⟩
  exact j2w I (by rw [e]; exact True.intro) hs he (dk_new hl hd (rel.put k rv) dd')
 ·subst ey eH
  cases (show u = Value.ref b from ry)
  obtain ⟨z, hd, xs, rel, dd⟩ := dt_of I.hok e
  have hz : xs.length ≤ sizeLine := by rw [← Paired.length rel]; exact z
  have hl : (putK kvs k v).length ≤ sizeLine := by have := j0w kvs k v; omega
  have room : (tupleKind (j0o X.prog X.w)).room A := by first | exact hu | exact Nat.lt_of_succ_lt hu | exact Nat.lt_of_le_of_lt (Nat.le_succ _) hu
  refine wpAny_dictSet_heap (hsz := hz) room (j3d I.hok eb) dd fun h' dd' hs => h _ ?_
  obtain ⟨q, es, ep, hq, h2, h3, h4, _, h5⟩ := dd'
  refine j2w I (by rw [e]; exact True.intro) hs ⟨q, hq⟩ ⟨hl, hd, _, (rel.put k eb rv).keeps fun c ys ec => ?_, q, es, ep, hq, h2, h3, h4, h5⟩
  rw [j0d (j1q ec e (fun z => nomatch z))]
  exact ec
end
noncomputable def emitD (k v : Expr) (acc : Value) (env : Env) : Sem Unit := do
 let kv ← eval k env
 let vv ← holding [kv] (eval v env)
 match acc with
 | .ref d => do
  standAt { k.pos with endLine := v.pos.endLine, endCol := v.pos.endCol }
  holding [kv, vv] (dictSet d kv vv)
 | _ => unsupported "internal:dictcomp"
section
variable {X : Cx} {k v t1 i1 t2 i2 : Expr} {f1 f2 : List Expr} {scope : Scope} {pos : Pos} {σ : St} {H : Hp} {acc : Value} {env : Env}
theorem clauseD : Clause (.DictComp k v [⟨t1, i1, f1, 0⟩] scope pos) 0 t1 i1 f1 acc env (emitD k v acc env) := ⟨rfl, fun _ => rfl, fun _ _ _ => rfl, fun _ _ => rfl, fun _ _ _ => rfl, fun _ _ => rfl, fun it => by
 unfold emitD
 cases acc <;> first | rfl | (simp only [bind_assoc, pure_bind]; rfl)⟩
theorem ein_emitD {D : Addr} {Q : St → Hp → Prop} (hu : X.A.units + 1 < cLine) (h : Ev X k σ H fun y H1 => Ev X v σ H1 fun x H2 => ∃ H3, DPut H2 D y x H3 ∧ Q σ H3) : Ein X (emitD k v (.ref D) X.env) σ H Q := by
 refine ⟨fun pins s I => ?_⟩
 unfold emitD
 refine wpAny_bind (thn (h.run pins s I) fun kv s1 ⟨y, H1, I1, r1, h1⟩ => ?_)
 refine wpAny_bind (wpAny_holding (thn (h1.run pins s1 I1) fun vv s2 ⟨x, H2, I2, r2, H3, dp, q⟩ => ?_))
 show wpAny _ _ (standAt _ >>= fun _ => holding [kv, vv] (dictSet D kv vv)) _ _ _
 exact wpAny_bind (wpAny_standAt (wpAny_holding (d_dictSet hu I2 dp r1 r2 fun s' I' => ⟨σ, H3, I', q⟩)))
theorem ev_compDT {wi : TI} {Q : VK} (sc : Scope) (N N' : List Str) (n : Nat) (hi : PI X t1 i1 wi)
  (h : wi σ H fun J H1 => ∀ D, H1 D = none → ∀ cl C s₀ H₀ ex, j2h (j1d X N' scope cl C s₀ H₀ ex) t1 f1 (emitD k v (.ref D) (compEnvC scope cl C X.env)) J (fun _ H' => Q (.ref D) H') (σ ++ List.replicate n none) (upd H1 D (.dT [])))
  (hc : X.calm = true := by rfl) (hsc : X.env.scope = sc := by rfl) (hN : X.N = N := by rfl) (hk : compOk sc scope N N' = true := by decide +kernel) (hl : N'.length = N.length + n := by rfl)
  (hs : ∀ x, foldedSetIterable i1 X.env x = pure x := by intro _; rfl) : Ev X (.DictComp k v [⟨t1, i1, f1, 0⟩] scope pos) σ H Q := by
 refine ⟨fun pins s I => ?_⟩
 subst hsc hN
 have ck := CompOk.of hk
 show wpAny _ _ (comprehension (.DictComp k v [⟨t1, i1, f1, 0⟩] scope pos) scope X.env (firstIterPos [⟨t1, i1, f1, 0⟩] pos) newDict (firstAsync [⟨t1, i1, f1, 0⟩]) (firstIter [⟨t1, i1, f1, 0⟩] X.env)) _ _ _
 refine wpAny_comprehension_free (use := none) rfl hs (j2j fun x hx hf => I.ok.has x.1 (ck.free x hx hf)) ck.kind ck.names (thn (hi pins s σ H _ I h) fun xv s1 h1 => thn h1 fun itv s2 h2 => ?_)
 obtain ⟨it, fp, tn, J, H2, e, I2, T, st2, f2', q⟩ := h2
 subst e
 refine j2m (e := .DictComp k v [⟨t1, i1, f1, 0⟩] scope pos) (newAcc := newDict) (o0 := { cls := .type "dict", data := .dict #[] }) (u0 := fun _ => .dT []) (fun _ _ _ h => wpAny_newObj_type h) (fun _ h hb => dt_empty h hb) (Q := Q) (RR := fun acc C => compPost (model X.prog X.w) X.A X.xe none (EP X pins σ Q) acc C) hc ck hl (inner := emitD k v) (fun _ _ => clauseD) I2 T st2 f2' q ?_
 intro D C H' s' m IX hn hC c1 c2 c3 c4 qq
 exact ⟨m, hn, fun h' hs' => ⟨.ref D, H', IX.turned (t' := s'.toks) (fun b o hb e => hs'.extBut b o hb e) hC (Ne.symm (Ne.symm c1)) (.inr c2) c3 c4, rfl, qq⟩⟩
end
end L2
namespace L2
open PySem PySem.Spec PyProof.Rows SetT
theorem call_add {prog : Program} {w : World} {A : Around} {E : Value → Shared → Prop} {s : Shared} {a : Addr} {zs : List Str} {z : Str} {tk : Tok} {Q : Value → Shared → Prop} (S : SetAt prog w s.heap a zs) (hb : zs.length + 1 < 1000)
  (h : ∀ h', Heap.SameBut a s.heap h' → SetAt prog w h' a (added zs z) → Q .none { s with heap := h', toks := s.toks + 1 }) :
  wpAny (model prog w) A (call (.builtin "set.add") [.ref a, .str z tk]) Q E s := by
 have hT : s.TypeIs (.ref a) "set" := let ⟨o, _, _, _, ho, hx, _⟩ := S; ⟨o, ho, hx.1⟩
 refine wpAny_call_entry F.slot_set_add hT F.entry_set_add ?_ (F.args_set_add_2 _ _)
 unfold Builtin.«set.add» Builtin.Frozenset.oneOther
 simp only [List.isEmpty_nil, bind_assoc]
 unfold Builtin.Frozenset.addrOf setAdd
 refine wpAny_bind (wpAny_pure ?_)
 try dsimp only
 refine wpAny_bind (wpAny_pure ?_)
 try dsimp only
 refine wpAny_bind ?_
 refine wpAny_holding ?_
 refine wpAny_bind ((PySem.strKind prog w).pyHash (k := z) (v := .str z tk) (by simp [PySem.strKind, Value.isStrOf]) ?_)
 refine wp_add (s := { s with toks := s.toks + 1 }) S hb fun b h' sb S' => ?_
 show wpAny _ _ (ret Value.none) _ _ _
 exact wpAny_pure ⟨_, rfl, h h' sb S'⟩
theorem new_set {prog : Program} {w : World} {A : Around} {E : Value → Shared → Prop} {s : Shared} {Q : Value → Shared → Prop} (k : Q (.ref s.heap.objs.size) { s with heap := s.heap.push (j1s w) }) : wpAny (model prog w) A (newSet (.type "set")) Q E s := by
 unfold newSet
 refine wpAny_bind (wp_text ?_)
 dsimp only
 simp only [newObj]
 exact wpAny_bind (wpAny_alloc (wpAny_pure k))
noncomputable def emitS (elt : Expr) (acc : Value) (env : Env) : Sem Unit := do let v ← eval elt env; standAt elt.pos; let _ ← call (.builtin "set.add") [acc, v]
noncomputable def nextS (elt t1 i1 : Expr) (f1 : List Expr) (t2 i2 : Expr) (f2 : List Expr) (scope : Scope) (pos : Pos) (acc : Value) (env : Env) : Sem Unit := do
 let x ← eval i2 env
 standAt i2.pos
 let x ← foldedSetIterable i2 env x
 let _ ← runOwn (.compStart (.SetComp elt [⟨t1, i1, f1, 0⟩, ⟨t2, i2, f2, 0⟩] scope pos) 1 (← holding [x] (pyIter x)) acc env) env
section
variable {X : Cx} {elt t1 i1 t2 i2 : Expr} {f1 f2 : List Expr} {scope : Scope} {pos : Pos} {σ : St} {H : Hp} {acc : Value} {env : Env}
theorem clauseS0 : Clause (.SetComp elt [⟨t1, i1, f1, 0⟩, ⟨t2, i2, f2, 0⟩] scope pos) 0 t1 i1 f1 acc env (nextS elt t1 i1 f1 t2 i2 f2 scope pos acc env) := ⟨rfl, fun _ => rfl, fun _ _ _ => rfl, fun _ _ => rfl, fun _ _ _ => rfl, fun _ _ => rfl, fun it => by
 unfold nextS
 simp only [bind_assoc, pure_bind]
 rfl⟩
theorem clauseS1 : Clause (.SetComp elt [⟨t1, i1, f1, 0⟩, ⟨t2, i2, f2, 0⟩] scope pos) 1 t2 i2 f2 acc env (emitS elt acc env) := ⟨rfl, fun _ => rfl, fun _ _ _ => rfl, fun _ _ => rfl, fun _ _ _ => rfl, fun _ _ => rfl, fun it => by
 unfold emitS
 first | rfl | (simp only [bind_assoc, pure_bind]; rfl)⟩
theorem ein_emitS {D : Addr} {Q : St → Hp → Prop} (h : Ev X elt σ H fun v H1 => ∃ z zs, v = .str z ∧ H1 D = some (SetO X.prog X.w D zs) ∧ zs.length + 1 < 1000 ∧ Q σ (upd H1 D (SetO X.prog X.w D (added zs z)))) : Ein X (emitS elt (.ref D) X.env) σ H Q := by
 refine ⟨fun pins s I => ?_⟩
 unfold emitS
 refine wpAny_bind (thn (h.run pins s I) fun v s1 ⟨x, H1, I1, r1, z, zs, e, hD, hl, q⟩ => ?_)
 subst e
 obtain ⟨tk, rfl⟩ := r1
 refine wpAny_bind (wpAny_standAt (wpAny_bind (call_add (I1.set hD) hl fun h' sb S' => wpAny_pure ⟨σ, _, j2w (t' := s1.toks + 1) I1 (by rw [hD]; exact True.intro) sb ?_ (set_obj S'), q⟩)))
 obtain ⟨o, _, _, _, ho, _⟩ := S'
 exact ⟨o, ho⟩
theorem ein_nextS {wi : TI} {Q : St → Hp → Prop} (hxe : X.xe = fun _ _ => False) (hc : X.calm = true) (hi : PI X t2 i2 wi) (h : wi σ H fun J H1 => j2h X t2 f2 (emitS elt acc X.env) J Q σ H1)
  (hs : ∀ x, foldedSetIterable i2 X.env x = pure x := by intro _; rfl) : Ein X (nextS elt t1 i1 f1 t2 i2 f2 scope pos acc X.env) σ H Q := by
 refine ⟨fun pins s I => ?_⟩
 unfold nextS
 refine wpAny_bind (thn (hi pins s σ H _ I h) fun x s1 h1 => ?_)
 refine wpAny_bind (wpAny_standAt (wpAny_bind (wpAny_of_eq (hs x) (wpAny_bind (wpAny_holding (wpAny_mono h1 (fun itv s2 h2 => ?_) fun _ _ e => e))))))
 obtain ⟨it, fp, tn, J, H2, e, I2, T, st2, f2', q⟩ := h2
 subst e
 refine wpAny_bind (wpAny_runOwn (Q := fun _ s' => wpAny (model X.prog X.w) X.A (pure ()) (fun _ s' => ∃ σ' H', Inv X pins σ' H' s' ∧ Q σ' H') X.xe s') ?_)
 exact j3f hxe hc clauseS1 I2 T st2 f2' q fun σ' H' s' I' q' => wpAny_pure ⟨σ', H', I', q'⟩
theorem ev_compS2 {wi : TI} {Q : VK} (sc : Scope) (N N' : List Str) (n : Nat) (hi : PI X t1 i1 wi)
  (h : wi σ H fun J H1 => ∀ D, H1 D = none → ∀ cl C s₀ H₀ ex, j2h (j1d X N' scope cl C s₀ H₀ ex) t1 f1 (nextS elt t1 i1 f1 t2 i2 f2 scope pos (.ref D) (compEnvC scope cl C X.env)) J (fun _ H' => Q (.ref D) H') (σ ++ List.replicate n none) (upd H1 D (SetO X.prog X.w D [])))
  (hc : X.calm = true := by rfl) (hsc : X.env.scope = sc := by rfl) (hN : X.N = N := by rfl) (hk : compOk sc scope N N' = true := by decide +kernel) (hl : N'.length = N.length + n := by rfl)
  (hs : ∀ x, foldedSetIterable i1 X.env x = pure x := by intro _; rfl) : Ev X (.SetComp elt [⟨t1, i1, f1, 0⟩, ⟨t2, i2, f2, 0⟩] scope pos) σ H Q := by
 refine ⟨fun pins s I => ?_⟩
 subst hsc hN
 have ck := CompOk.of hk
 show wpAny _ _ (comprehension (.SetComp elt [⟨t1, i1, f1, 0⟩, ⟨t2, i2, f2, 0⟩] scope pos) scope X.env (firstIterPos [⟨t1, i1, f1, 0⟩, ⟨t2, i2, f2, 0⟩] pos) (newSet (.type "set")) (firstAsync [⟨t1, i1, f1, 0⟩, ⟨t2, i2, f2, 0⟩]) (firstIter [⟨t1, i1, f1, 0⟩, ⟨t2, i2, f2, 0⟩] X.env)) _ _ _
 refine wpAny_comprehension_free (use := none) rfl hs (j2j fun x hx hf => I.ok.has x.1 (ck.free x hx hf)) ck.kind ck.names (thn (hi pins s σ H _ I h) fun xv s1 h1 => thn h1 fun itv s2 h2 => ?_)
 obtain ⟨it, fp, tn, J, H2, e, I2, T, st2, f2', q⟩ := h2
 subst e
 refine j2m (e := .SetComp elt [⟨t1, i1, f1, 0⟩, ⟨t2, i2, f2, 0⟩] scope pos) (newAcc := newSet (.type "set")) (o0 := j1s X.w) (u0 := fun D => SetO X.prog X.w D []) (fun _ _ _ h => new_set h) (fun _ h _ => set_obj (setNew_at (Heap.get?_push_size _ rfl))) (Q := Q) (RR := fun acc C => compPost (model X.prog X.w) X.A X.xe none (EP X pins σ Q) acc C) hc ck hl (inner := nextS elt t1 i1 f1 t2 i2 f2 scope pos) (fun _ _ => clauseS0) I2 T st2 f2' q ?_
 intro D C H' s' m IX hn hC c1 c2 c3 c4 qq
 exact ⟨m, hn, fun h' hs' => ⟨.ref D, H', IX.turned (t' := s'.toks) (fun b o hb e => hs'.extBut b o hb e) hC (Ne.symm (Ne.symm c1)) (.inr c2) c3 c4, rfl, qq⟩⟩
end
end L2
namespace Spl
open PySem PySem.Builtin PySem.Builtin.Str PySem.StrLaws
end Spl
namespace L2
open PySem PySem.Builtin PySem.Builtin.Str
section
variable {X : Cx} {σ : St} {H : Hp} {Q : VK}
end
end L2
namespace PySem
noncomputable def Plain (h : Heap) (d : Addr) (es : Array DictEntry) (ep : Nat) : Prop := ∃ o, h.get? d = some o ∧ o.ExactDict ∧ o.data = .dict es ep
section
variable {P : Program} {w : World} {A : Around} {E : Value → Shared → Prop} {s : Shared}
theorem items_spec (d : Addr) (hd : (d == sysModules) = false) : MeetsIn P w (Builtin.«dict.items» ⟨[.ref d], []⟩) (fun _ R u => u.TypeIs (.ref d) "dict" ∧
  R (.ok (.ret (.ref u.heap.objs.size))) { u with heap := u.heap.push { cls := .type "dict_items", data := .fields #[.ref d] } }) := by
 refine .of_wp fun B R u ⟨hT, k⟩ => ?_
 unfold Builtin.«dict.items» Builtin.Dict.noArgs
 refine wpAny_bind (wpAny_bind (wpAny_notOrdered_dict hT ?_))
 show wpAny _ _ (pure d) _ _ u
 refine wpAny_pure ?_
 show wpAny _ _ (Builtin.Dict.showsAll d >>= _) _ _ u
 unfold Builtin.Dict.showsAll
 rw [if_neg (by rw [hd]; exact Bool.false_ne_true)]
 exact wpAny_bind (wpAny_pure (wpAny_bind (wpAny_newObj_type (wpAny_pure ⟨_, rfl, k⟩))))
theorem items_iter {v d : Addr} {es : Array DictEntry} {ep : Nat} {Q : Value → Shared → Prop} (hv : s.heap.IsItemsView v d) (hm : Plain s.heap d es ep)
  (k : Q (.ref s.heap.objs.size) { s with heap := s.heap.push { cls := .type "dict_itemiterator", data := .fields #[.none, .bool false, .ref d, .int 0 0, .int es.size 0, .int ep 0, .none, .none] } }) :
  wpAny (model P w) A (pyIter (.ref v)) Q E s := by
 obtain ⟨vo, e1, e2, e3⟩ := id hv
 obtain ⟨o, f1, f2, f3⟩ := hm
 refine wpAny_pyIter_slot hv.typeIs F.slot_dict_items_iter (wpAny_call_entry F.slot_dict_items_iter hv.typeIs F.entry_dict_items_iter ?_ (F.args_dict_items_iter_1 _))
 unfold Builtin.«dict_items.__iter__» Builtin.Dict_items.dictOf Builtin.Dict_items.newIterator
 refine wpAny_bind (wpAny_pure (wpAny_bind (wpAny_bind (wpAny_field e1 e3 (x := .ref d) rfl (wpAny_pure ?_)))))
 refine wpAny_bind (wpAny_bind (wpAny_dictEntries f1 f3 (wpAny_bind (wpAny_dictEpoch f1 f3 ?_))))
 have ow : Builtin.Dict_items.ownsTuple "dict_itemiterator" = true := by decide
 simp only [ow, if_true]
 refine wpAny_newObj_type (wpAny_pure ⟨_, rfl, "dict_itemiterator", _, ⟨_, Heap.get?_push_size _ rfl, rfl⟩, F.slot_dict_itemiterator_next.lookup, ?_⟩) ?_
 ·simpa [rawInt, Builtin.Dict_items.ownedTupleFields] using k
 ·simp only [sizeOk, Builtin.Dict_items.ownedTupleFields, List.size_toArray, List.length_append, List.length_cons, List.length_nil, sizeLine_eq]
  omega
theorem items_next {it d : Addr} {i ep : Nat} {es : Array DictEntry} {en : DictEntry} {y z : Value} {Q : Option Value → Shared → Prop} (hit : IsItemIter s.heap it d i es.size ep y z) (hm : Plain s.heap d es ep) (hx : es[i]? = some en)
  (k : ∀ h', IsItemIterOut h' it d (i + 1) es.size ep en.key en.val s.heap.objs.size → h'.get? s.heap.objs.size = some { cls := .type "tuple", data := .seq #[en.key, en.val] } →
   (∀ b o, b ≠ it → s.heap.get? b = some o → h'.get? b = some o) → Q (some (.ref s.heap.objs.size)) { s with heap := h' }) : wpAny (model P w) A (pyNext (.ref it)) Q E s := by
 obtain ⟨hp, g, dr, tk, os⟩ := s
 obtain ⟨o, f1, f2, f3⟩ := hm
 have ty : Shared.TypeIs ⟨hp, g, dr, tk, os⟩ (.ref it) "dict_itemiterator" := ⟨_, hit, rfl⟩
 have lt : i < es.size := by
  rcases Nat.lt_or_ge i es.size with h | h
  ·exact h
  ·rw [Array.getElem?_eq_none h] at hx
   cases hx
 have ow : Builtin.Dict_items.ownsTuple "dict_itemiterator" = true := by decide
 unfold pyNext
 refine wpAny_bind (wpAny_attempt (wpAny_callSpecial?_slot (name := Str.ofString "__next__") ty F.slot_dict_itemiterator_next (wpAny_call_entry F.slot_dict_itemiterator_next ty F.entry_dict_itemiterator_next ?_ (F.args_dict_itemiterator_next_1 _))))
 refine wpAny_bind (wpAny_pure (wpAny_bind (wpAny_bind ?_)))
 first | refine wpAny_bind (wpAny_typeNameOfWhole_itemiter ty (wpAny_pure ?_)) | refine wpAny_bind (wpAny_typeNameOf_itemiter ty (wpAny_pure ?_))
 refine wpAny_bind (wpAny_fieldsOf hit rfl ?_)
 simp only [ow, if_true]
 show wpAny _ _ (if (Value.ref d == Value.none) = true then _ else _) _ _ _
 rw [if_neg (show ¬ ((Value.ref d == Value.none) = true) from Bool.false_ne_true)]
 refine wpAny_bind (wpAny_pure (wpAny_bind (wpAny_dictEntries f1 f3 ?_)))
 rw [if_neg (by simp)]
 refine wpAny_bind (wpAny_pure (wpAny_bind (wpAny_dictEpoch f1 f3 ?_)))
 rw [if_neg (by simp)]
 refine wpAny_pure ?_
 have ee : es[i] = en := Option.some.inj ((Array.getElem?_eq_getElem lt).symm.trans hx)
 simp only [show ¬ ((i : Int) < 0) from by omega, if_false, Int.toNat_natCast, hx]
 refine wpAny_bind ?_
 first | refine wpAny_bind (wpAny_typeNameOfWhole_itemiter ty (wpAny_pure ?_)) | refine wpAny_bind (wpAny_typeNameOf_itemiter ty (wpAny_pure ?_))
 refine wpAny_bind (wpAny_isOneOf_itemiter ty ?_)
 show wpAny _ _ (setField (.ref it) 3 (rawInt ((i : Int) + 1)) >>= _) _ _ ⟨hp, g, dr, tk, os⟩
 refine wpAny_bind (wpAny_setField_rec hit (by simp) fun ha ea sa => ?_)
 replace sa : Heap.SameBut it hp ha := sa
 replace ea : IsItemIter ha it d (i + 1) es.size ep y z := by
  have e : ((i + 1 : Nat) : Int) = (i : Int) + 1 := by omega
  unfold IsItemIter
  rw [e]
  simpa [rawInt] using ea
 have tya : Shared.TypeIs ⟨ha, g, dr, tk, os⟩ (.ref it) "dict_itemiterator" := ⟨_, ea, rfl⟩
 refine wpAny_bind (wpAny_holding (wpAny_bind (wpAny_isOneOf_itemiter tya (wpAny_bind (wpAny_isOneOf_itemiter tya ?_)))))
 show wpAny _ _ (Builtin.Dict_items.pairFromOwner (.ref it) 6 en.key en.val) _ _ ⟨ha, g, dr, tk, os⟩
 unfold Builtin.Dict_items.pairFromOwner Builtin.Dict_items.ownedTupleIsFree
 refine wpAny_bind (wpAny_newTuple ?_)
 have eb : IsItemIter (ha.push { cls := .type "tuple", data := .seq #[en.key, en.val] }) it d (i + 1) es.size ep y z := Heap.get?_push_of_some _ ea
 have za : ha.objs.size = hp.objs.size := sa.1
 have il : it < hp.objs.size := Heap.lt_size hit
 have tb : (ha.push { cls := .type "tuple", data := .seq #[en.key, en.val] }).get? hp.objs.size = some { cls := .type "tuple", data := .seq #[en.key, en.val] } := by rw [← za]; exact Heap.get?_push_size _ rfl
 have kb : ∀ b u, b ≠ it → hp.get? b = some u → (ha.push { cls := .type "tuple", data := .seq #[en.key, en.val] }).get? b = some u := fun b u hb e => Heap.get?_push_of_some _ (sa.extBut b u hb e)
 rw [za]
 generalize ha.push { cls := .type "tuple", data := .seq #[en.key, en.val] } = hb at eb tb kb
 refine wpAny_bind (wpAny_bind (wpAny_field (s := ⟨hb, g, dr, tk, os⟩) eb rfl (x := .none) rfl (wpAny_pure ?_)))
 simp only [if_true]
 refine wpAny_bind (wpAny_field (s := ⟨hb, g, dr, tk, os⟩) eb rfl (x := y) rfl (wpAny_bind (wpAny_field (s := ⟨hb, g, dr, tk, os⟩) eb rfl (x := z) rfl ?_)))
 refine wpAny_bind (wpAny_setField_rec eb (by simp) fun h3 e3 s3 => ?_)
 replace s3 : Heap.SameBut it hb h3 := s3
 replace e3 : IsItemIter h3 it d (i + 1) es.size ep en.key z := e3
 refine wpAny_bind (wpAny_setField_rec e3 (by simp) fun h4 e4 s4 => ?_)
 replace s4 : Heap.SameBut it h3 h4 := s4
 replace e4 : IsItemIter h4 it d (i + 1) es.size ep en.key en.val := e4
 refine wpAny_bind (wpAny_setField_rec e4 (by simp) fun h5 e5 s5 => ?_)
 replace s5 : Heap.SameBut it h4 h5 := s5
 replace e5 : IsItemIterOut h5 it d (i + 1) es.size ep en.key en.val hp.objs.size := e5
 refine wpAny_bind (wpAny_setField_rec e5 (by simp) fun h6 e6 s6 => ?_)
 replace s6 : Heap.SameBut it h5 h6 := s6
 replace e6 : IsItemIterOut h6 it d (i + 1) es.size ep en.key en.val hp.objs.size := e6
 have all := ((s3.trans s4).trans s5).trans s6
 exact wpAny_bind (wpAny_letGo (wpAny_pure (wpAny_pure ⟨_, rfl, wpAny_pure (k h6 e6 (all.extBut _ _ (Nat.ne_of_gt il) tb) fun b u hb' e => all.extBut b u hb' (kb b u hb' e))⟩)))
theorem items_end {it d : Addr} {i ep : Nat} {es : Array DictEntry} {y z : Value} {Q : Option Value → Shared → Prop} (hh : A.handled = none) (hit : IsItemIter s.heap it d i es.size ep y z) (hm : Plain s.heap d es ep) (hx : es.size ≤ i)
  (k : ∀ h', Heap.ExtBut it s.heap h' → Q none { s with heap := h' }) : wpAny (model P w) A (pyNext (.ref it)) Q E s := by
 obtain ⟨o, f1, f2, f3⟩ := hm
 have ty : s.TypeIs (.ref it) "dict_itemiterator" := ⟨_, hit, rfl⟩
 have ow : Builtin.Dict_items.ownsTuple "dict_itemiterator" = true := by decide
 unfold pyNext
 refine wpAny_bind (wpAny_attempt (wpAny_callSpecial?_slot (name := Str.ofString "__next__") ty F.slot_dict_itemiterator_next (wpAny_call_entry F.slot_dict_itemiterator_next ty F.entry_dict_itemiterator_next ?_ (F.args_dict_itemiterator_next_1 _))))
 refine wpAny_bind (wpAny_pure (wpAny_bind (wpAny_bind ?_)))
 first | refine wpAny_bind (wpAny_typeNameOfWhole_itemiter ty (wpAny_pure ?_)) | refine wpAny_bind (wpAny_typeNameOf_itemiter ty (wpAny_pure ?_))
 refine wpAny_bind (wpAny_fieldsOf hit rfl ?_)
 simp only [ow, if_true]
 show wpAny _ _ (if (Value.ref d == Value.none) = true then _ else _) _ _ s
 rw [if_neg (show ¬ ((Value.ref d == Value.none) = true) from Bool.false_ne_true)]
 refine wpAny_bind (wpAny_pure (wpAny_bind (wpAny_dictEntries f1 f3 ?_)))
 rw [if_neg (by simp)]
 refine wpAny_bind (wpAny_pure (wpAny_bind (wpAny_dictEpoch f1 f3 ?_)))
 rw [if_neg (by simp)]
 refine wpAny_pure ?_
 simp only [show ¬ ((i : Int) < 0) from by omega, if_false, Int.toNat_natCast, Array.getElem?_eq_none hx]
 refine wpAny_bind ?_
 first | refine wpAny_bind (wpAny_typeNameOfWhole_itemiter ty (wpAny_pure ?_)) | refine wpAny_bind (wpAny_typeNameOf_itemiter ty (wpAny_pure ?_))
 show wpAny _ _ (setField (.ref it) 2 .none >>= _) _ _ s
 refine wpAny_bind (wpAny_setField hit rfl (by simp) ?_)
 show wpAny _ _ (newExc (.type "StopIteration") [] >>= _) _ _ _
 refine wpAny_bind ?_
 simp only [newExc, newTuple]
 refine wpAny_bind (wpAny_newObj_type ?_ (by size_fits))
 refine wpAny_bind (m := firstArgMember _ _) (wpAny_of_eq (a := Value.none) (by first | rfl | (simp only [firstArgMember]; rfl)) ?_)
 refine wpAny_newObj_type ?_ (by size_fits)
 simp only [raiseNew]
 refine wpAny_bind (wpAny_handled ?_)
 rw [show A.in1.handled = none from hh]
 refine wpAny_bind (wpAny_pure (wpAny_throw ?_))
 exact wpAny_bind (wpAny_isInstance (T := "StopIteration") (b := true) ⟨_, Heap.get?_push_size _ rfl, rfl⟩ isSubtype_stop (wpAny_pure (k _ (((Heap.SameBut.update ..).extBut.push _).push _))))
theorem entry_itemiter : entryFor table "dict_itemiterator.__iter__" = some Builtin.«dict_keyiterator.__iter__» :=
 entryFor_alias (id' := "dict_keyiterator.__iter__") (by kernel_rfl) rfl (by decide +kernel) (by kernel_rfl)
theorem items_self {it d : Addr} {i n ep : Nat} {y z : Value} {Q : Value → Shared → Prop} (e : IsItemIter s.heap it d i n ep y z) (h : Q (.ref it) s) : wpAny (model P w) A (pyIter (.ref it)) Q E s := by
 have ty : s.TypeIs (.ref it) "dict_itemiterator" := ⟨_, e, rfl⟩
 refine wpAny_pyIter_slot ty F.slot_dict_itemiterator_iter (wpAny_call_entry F.slot_dict_itemiterator_iter ty entry_itemiter ?_ (F.args_dict_itemiterator_iter_1 _))
 show wpAny _ _ (ret (.ref it)) _ _ s
 exact wpAny_pure ⟨_, rfl, "dict_itemiterator", _, ty, F.slot_dict_itemiterator_next.lookup, h⟩
end
end PySem
namespace L2
open PySem PySem.Spec PyProof.Rows
section
variable {X : Cx} {pins : List (Addr × Obj)} {σ : St} {H : Hp} {s : Shared}
theorem inv_freezeT {d : Addr} {kvs : List (List Key × V)} (I : Inv X pins σ H s) (e : H d = some (.dT kvs)) : ∃ o, s.heap.get? d = some o ∧ Inv X pins σ (upd H d (.frz o (.dT kvs))) s := by
 obtain ⟨z, hd, xs, r, o, es, ep, ho, h2, h3, h4, h5⟩ := (show ObjOk X.prog X.w H s.heap d (.dT kvs) from I.hok d _ e)
 refine ⟨o, ho, ?_⟩
 have r' : KT (upd H d (.frz o (.dT kvs))) kvs xs := KT.keeps r fun b ys q => by
  rw [j0d (j1q q e fun z => nomatch z)]
  exact q
 exact j2w (t' := s.toks) I (by rw [e]; exact True.intro) ⟨rfl, fun _ _ => rfl⟩ ⟨o, ho⟩ (show ObjOk X.prog X.w _ s.heap d (.frz o (.dT kvs)) from ⟨ho, z, hd, xs, r', o, es, ep, ho, h2, h3, h4, h5⟩)
noncomputable def Itm (d : Addr) (o : Obj) (kvs : List (List Key × V)) : It :=
  ⟨fun i H => H d = some (.frz o (.dT kvs)) ∧ i < kvs.length,
   fun i H v H' => ∃ T b k x, kvs[i]? = some (k, x) ∧ H b = some (.tup (k.map kV)) ∧ H T = none ∧ v = .ref T ∧ H' = upd H T (.tup [.ref b, x]),
   fun i H => H d = some (.frz o (.dT kvs)) ∧ kvs.length ≤ i⟩
theorem frz_atT {P : Program} {w : World} {h : Heap} {d : Addr} {o : Obj} {es : Array DictEntry} {ep : Nat} {kvs : List (List Key × V)} (hok : HOk P w H h) (e : H d = some (.frz o (.dT kvs))) (hd : o.data = .dict es ep) :
  Plain h d es ep ∧ ∃ xs, KT H kvs xs ∧ es.toList = xs.map (entryOfKey (tupleKind (j0o P w))) := by
 obtain ⟨ho, z, _, xs, r, o', es', ep', ho', h2, h3, h4, h5⟩ := (show ObjOk P w H h d (.frz o (.dT kvs)) from hok d _ e)
 have : o = o' := Option.some.inj (ho.symm.trans ho')
 subst this
 rw [hd] at h3
 injection h3 with e1 e2
 subst e1
 subst e2
 exact ⟨⟨o, ho, h2, hd⟩, xs, r, h4⟩
theorem kt_len {H : Hp} : ∀ {kvs : List (List Key × V)} {xs : List (List Key × Addr × Value)}, KT H kvs xs → kvs.length = xs.length := fun r => by
 induction r with
 | nil => rfl
 | cons _ _ ih => simp only [List.length_cons, ih]
theorem kt_at {H : Hp} : ∀ {kvs : List (List Key × V)} {xs : List (List Key × Addr × Value)}, KT H kvs xs → ∀ {i : Nat} {k : List Key} {x : V}, kvs[i]? = some (k, x) → ∃ b u, xs[i]? = some (k, b, u) ∧ H b = some (.tup (k.map kV)) ∧ RelV x u := fun r => by
 induction r with
 | nil => intro i k x h; simp at h
 | @cons p q ps qs hq t ih =>
  intro i k x h
  cases i with
  | zero =>
   simp only [List.getElem?_cons_zero, Option.some.injEq] at h
   subst h
   obtain ⟨a, b, c⟩ := q
   obtain ⟨q1, q2, q3⟩ := hq
   have q1 : k = a := q1
   subst q1
   exact ⟨b, c, rfl, q2, q3⟩
  | succ i => exact ih (by simpa using h)
theorem turn_items {P : Program} {w : World} {K : PySem.W.Frag} {elts : List Expr} {kk : Nat} {tp : Pos} (d it : Addr) (o : Obj) (es : Array DictEntry) (ep : Nat) (kvs : List (List Key × V)) (hod : o.data = .dict es ep) :
  Turn P w K (.Tuple elts kk tp) (Itm d o kvs) [it] it (fun i h => ∃ y z, IsItemIter h it d i es.size ep y z) where
 mem := by simp
 obj := fun i h st b hb => by
  have e : b = it := by simpa using hb
  subst e
  obtain ⟨y, z, e⟩ := st
  exact ⟨_, e, fun v z => by cases z⟩
 keep := fun i h h' st k => let ⟨y, z, e⟩ := st; ⟨y, z, k it (by simp) _ e⟩
 item := by
  intro X hP hw hK hc i pins s σ H E I hf st hg
  subst hP hw hK
  obtain ⟨f0, f1, f2, f3, f4, f5⟩ := hf it (by simp)
  obtain ⟨hd, hi⟩ := hg
  obtain ⟨pd, xs, r, hes⟩ := frz_atT I.hok hd hod
  obtain ⟨y, z, st⟩ := st
  have hx : kvs[i]? = some (kvs[i].1, kvs[i].2) := List.getElem?_eq_getElem hi
  obtain ⟨b, u, hxs, hb, ru⟩ := kt_at r hx
  have hen := entry_at hes i
  rw [hxs] at hen
  refine items_next st pd (en := entryOfKey (tupleKind (j0o X.prog X.w)) (kvs[i].1, b, u)) hen fun h' q1 q2 kp => ?_
  have hT : H s.heap.objs.size = none := I.hok.fresh (Nat.le_refl _)
  have nT : it ≠ s.heap.objs.size := Nat.ne_of_lt (Heap.lt_size st)
  have I1 : Inv X pins σ (upd H s.heap.objs.size (.tup [.ref b, kvs[i].2])) { s with heap := s.heap.push { cls := .type "tuple", data := .seq #[Value.ref b, u] } } :=
   I.laid (t' := s.toks) (fun b o e => Heap.get?_push_of_some _ e) (Nat.le_refl _) (show ObjOk X.prog X.w _ _ _ (.tup [.ref b, kvs[i].2]) from ⟨(by show 2 ≤ sizeLine; decide), [Value.ref b, u], .cons rfl (.cons ru .nil), ⟨_, Heap.get?_push_size _ rfl, rfl, _, rfl⟩⟩)
  have fp : ∀ c ∈ [it], FpOk X pins (upd H s.heap.objs.size (.tup [.ref b, kvs[i].2])) c := fun c hc' => by
   have e : c = it := by simpa using hc'
   subst e
   exact ⟨by rw [j0d nT]; exact f0, f1, f2, f3, f4, f5⟩
  have I2 := Inv.turnedL (h' := h') (t' := s.toks) I1 fp fun c v hc' e => by
   have nc : c ≠ it := by simpa using hc'
   rcases Heap.get?_push_cases e with ⟨ec, eo⟩ | e'
   ·rw [ec, eo]
    exact q2
   ·exact kp c v nc e'
  refine ⟨_, rfl, wpAny_letOwnedTupleGo_items (s := { s with heap := h' }) q1 fun h2 b1 sb => ?_⟩
  have I3 := Inv.turnedL (h' := h2) (t' := s.toks) I2 fp fun c v hc' e => (sb.2 c (by simpa using hc')).trans e
  exact ⟨.ref s.heap.objs.size, _, I3, rfl, ⟨_, b, kvs[i].1, kvs[i].2, hx, hb, hT, rfl, rfl⟩, ⟨_, _, b1⟩, fun c hc' => (fp c hc').1⟩
 done := by
  intro X hP hw hK hc i pins s σ H E I hf st hg
  subst hP hw hK
  obtain ⟨hd, hi⟩ := hg
  obtain ⟨pd, xs, r, hes⟩ := frz_atT I.hok hd hod
  obtain ⟨y, z, st⟩ := st
  have hl : es.size = kvs.length := by rw [kt_len r, ← Array.length_toList, hes, List.length_map]
  exact items_end (I.ok.hd hc) st pd (by omega) fun h' eb => ⟨rfl, I.turnedL (t' := s.toks) hf fun c v hc' e => eb c v (by simpa using hc') e⟩
 self := fun _ _ _ _ _ st h => let ⟨y, z, e⟩ := st; items_self e h
end
section
variable {X : Cx}
noncomputable def iItems (to : TE) : TI := fun σ H R => to σ H fun x H1 => ∃ d kvs, x = .ref d ∧ H1 d = some (.dT kvs) ∧ ∀ o, R (Itm d o kvs) (upd H1 d (.frz o (.dT kvs)))
theorem pi_items {elts : List Expr} {kk : Nat} {tp ap cp : Pos} {l : Expr} {to : TE} (ho : PE X l to) (hbase : attributeBase l "items" X.env (eval l X.env) = eval l X.env := by rfl) (hline : (ap.endLine == cp.line) = true := by rfl) :
  PI X (.Tuple elts kk tp) (.Call (.Attribute l "items" ap) [] [] cp) (iItems to) := by
 intro pins s σ H R I h
 refine wpAny_Call_method0_late hbase hline (thn (ho pins s σ H _ I h) fun v s1 ⟨x, H1, I1, r1, q1⟩ => ?_)
 obtain ⟨d, kvs, e, hd, q⟩ := q1
 subst e
 cases (show v = Value.ref d from r1)
 obtain ⟨_, hsy, _, _, o, es, ep, e1, e2, e3, _⟩ := (show ObjOk X.prog X.w H1 s1.heap d (.dT kvs) from I1.hok d _ hd)
 have ty : s1.TypeIs (.ref d) "dict" := ⟨o, e1, e2.1⟩
 refine ⟨"dict", "dict.items", F.plainAttrs_dict, F.slot_dict_items, F.type_dict_items, ty, fun a ea => ?_, Calls.callWith_builtin rfl (PySem.evalArgs_none ?_)⟩
 ·cases ea
  exact ⟨o, e1, e2.2.1⟩
 refine call_meetsIn F.slot_dict_items ty F.entry_dict_items (F.args_dict_items_1 _) (items_spec d hsy) ⟨ty, ?_⟩
 obtain ⟨o', eo, I2⟩ := inv_freezeT I1 hd
 have : o = o' := Option.some.inj (e1.symm.trans eo)
 subst this
 have I3 := I2.kept (t' := s1.toks) (h' := s1.heap.push { cls := .type "dict_items", data := .fields #[.ref d] }) fun b u e => Heap.get?_push_of_some _ e
 refine items_iter (s := { s1 with heap := s1.heap.push { cls := .type "dict_items", data := .fields #[.ref d] } }) (d := d) (es := es) (ep := ep) ⟨_, Heap.get?_push_size _ rfl, rfl, rfl⟩ ⟨o, Heap.get?_push_of_some _ e1, e2, e3⟩ ?_
 refine ⟨_, [(s1.heap.push { cls := .type "dict_items", data := .fields #[.ref d] }).objs.size], _, _, _, rfl, I3.kept (t' := s1.toks) fun b u e => Heap.get?_push_of_some _ e, turn_items d _ o es ep kvs e3, ⟨_, _, Heap.get?_push_size _ rfl⟩, fun b hb => ?_, q o⟩
 have e : b = (s1.heap.push { cls := .type "dict_items", data := .fields #[.ref d] }).objs.size := by simpa using hb
 subst e
 exact I3.fpOk (Nat.le_refl _) (I3.hok.fresh (Nat.le_refl _))
end
section
variable {X : Cx} {tg : Expr} {ifs : List Expr} {inner : Sem Unit} {σ : St} {H : Hp} {d : Addr} {o : Obj} {kvs : List (List Key × V)} {after : St → Hp → Prop}
theorem clause_itemsP (Pv : Nat → St → Hp → Prop) (h0 : Pv 0 σ H) (hl : ∀ i σ' H', i ≤ kvs.length → Pv i σ' H' → H' d = some (.frz o (.dT kvs)))
  (hs : ∀ i k x b T σ' H', kvs[i]? = some (k, x) → Pv i σ' H' → H' b = some (.tup (k.map kV)) → H' T = none → Eg X tg (.ref T) σ' (upd H' T (.tup [.ref b, x])) fun σ2 H3 => Ei X ifs σ2 H3 fun c H4 => if c = true then Ein X inner σ2 H4 (Pv (i + 1)) else Pv (i + 1) σ2 H4)
  (hd : ∀ σ' H', Pv kvs.length σ' H' → after σ' H') : j2h X tg ifs inner (Itm d o kvs) after σ H := by
 refine ⟨fun i m σ' H' => m = kvs.length - i ∧ i ≤ kvs.length ∧ Pv i σ' H', ⟨_, rfl, Nat.zero_le _, h0⟩, ?_⟩
 rintro i m σ' H' ⟨rfl, hi, p⟩
 have q := hl i σ' H' hi p
 by_cases hlt : i < kvs.length
 ·refine .inr ⟨⟨q, hlt⟩, Pv (i + 1), fun σ' H' p' => ⟨kvs.length - (i + 1), by omega, rfl, hlt, p'⟩, fun v H2 y => ?_⟩
  obtain ⟨T, b, k, x, hx, hb, hT, rfl, rfl⟩ := y
  exact hs i k x b T σ' _ hx p hb hT
 ·have e : i = kvs.length := by omega
  subst e
  exact .inl ⟨⟨q, Nat.le_refl _⟩, hd σ' H' p⟩
end
end L2
namespace V5
open PySem L2 Nt Sort2
noncomputable def spCopy : Sp := fun vs H Q _ => ∃ (R : Addr) (as : List (Addr × Addr)) (n : Net), vs = [.ref R] ∧ RowsAt H R as n ∧ n.length ≤ 1000 ∧ ∀ L as' H', Same H H' → H L = none → (∀ a ∈ as', H a.1 = none ∧ H a.2 = none) → RowsAt H' L as' n → Q (.ref L) H'
section
variable {P : Program} {w : World} {K : PySem.W.Frag} {mg : Str → Option Value} {base : Heap}
theorem j06 {H H' : Hp} {l : Addr} (s : Same H H') (h : H' l = none) : H l = none := by
 cases e : H l with
 | none => rfl
 | some v => rw [s _ _ e] at h; cases h
noncomputable abbrev NC : List Str := ["_law_rows"]
noncomputable abbrev NC' : List Str := ["_law_rows", "_law_row"]
theorem scCopy : FnScope NC ["_law_rows"] (j0c sCopy) := ⟨rfl, rfl, rfl, by decide +kernel, rfl, by decide +kernel, by decide +kernel⟩
theorem nd_c : NC'.Nodup := by decide +kernel
theorem ok_copy {f : Addr} {fd : FuncData} (F : Fun K "_law_copy" "_law_copy" sCopy f fd) (T : Txt mg) : FnOk P w K mg base CX0 1 f fd ["_law_rows"] spCopy := by
 refine F.gb scCopy (fun vs H Q E h => ?_) (fun b0 H vs Q E hr h => ?_)
 ·obtain ⟨R, as, n, rfl, _⟩ := h
  rfl
 obtain ⟨R, as, n, rfl, hR, hn, q⟩ := h
 have nd := scCopy.nd
 have hal := hR.len
 let X : Cx := cxB NC "_law_copy" (j0c sCopy) P w K mg base b0
 show Run X _ _ [some (.ref R)] H
 refine j0p (ev_comp (j0c sCopy) NC NC' 1 (j1u j0y) (ev_v 0 ⟨R, rfl, ⟨_, SqL.of hR.lst⟩, fun D hD => ?_⟩))
 refine j15 (xs := as.map fun a => V.ref a.1) (fun i σ' H' => (∃ v, σ' = [some (.ref R)] ++ [v]) ∧ ∃ bs : List (Addr × Addr), bs.length = i ∧ H' D = some (.lst (bs.map fun a => .ref a.1)) ∧
  (∀ (j : Nat) a r, bs[j]? = some a → n[j]? = some r → H' a.1 = some (.tup [.str r.1, .ref a.2]) ∧ H' a.2 = some (Ls r.2)) ∧ (bs.map (·.2)).Nodup ∧ (∀ a ∈ bs, a.2 ≠ D ∧ H a.1 = none ∧ H a.2 = none ∧ ∃ zs, H' a.2 = some (Ls zs)) ∧ Same H H')
  ⟨⟨none, rfl⟩, [], rfl, j0b, fun j a r h => by simp at h, List.nodup_nil, fun a h => by simp at h, j0g hD _⟩ ?_ ?_ ?_
 ·rintro i σ' H' _ ⟨_, bs, _, _, _, _, _, sm⟩
  exact SqL.of (sm _ _ hR.lst)
 ·rintro i x σ' H' hx ⟨⟨v, rfl⟩, bs, hb1, hb2, hb3, hb4, hb5, sm⟩
  have hi : i < n.length := by
   have := (List.getElem?_eq_some_iff.mp hx).1
   rw [List.length_map] at this
   omega
  obtain ⟨a, ea, eat, et, el, er⟩ := (hR.same sm).at hi
  rw [List.getElem?_map, ea] at hx
  cases hx
  intro cl C' s₀ H₀ ex
  refine j0l 1 nd_c ?_
  intro cl C' s₀ H₀ ex
  refine j2f ?_
  rw [if_pos rfl]
  intro cl C' s₀ H₀ ex
  refine j1f (j0a (j09 j1h (ev_v 1 (j0h ⟨a.1, _, _, .str n[i].1, rfl, rfl, SqT.of et, rfl, ?_⟩))))
  refine j0a (ev_typ call_list_of T.tlist PyProof.Rows.boot_list (j0a (j09 j1h (ev_v 1 (j0h ⟨a.1, _, _, .ref a.2, rfl, rfl, SqT.of et, rfl, ?_⟩)))))
  refine j0e ⟨a.2, _, rfl, .inl (SqL.of el), fun l hl => j0e ⟨(by show 2 ≤ sizeLine; decide), fun t ht => ?_⟩⟩
  have hl0 := j06 sm hl
  have ntl : t ≠ l := fun e => by rw [e, j0b] at ht; cases ht
  have ht' : H' t = none := by rw [j0d ntl] at ht; exact ht
  have ht0 := j06 sm ht'
  have nlD : l ≠ D := fun e => by rw [e] at hl; rw [hl] at hb2; cases hb2
  have ntD : t ≠ D := fun e => by rw [e] at ht'; rw [ht'] at hb2; cases hb2
  refine ⟨bs.map fun a => .ref a.1, ?_, ?_, ⟨_, rfl⟩, bs ++ [(t, l)], by rw [List.length_append, hb1]; rfl, ?_, ?_, ?_, ?_, ?_⟩
  ·rw [j0d (Ne.symm ntD), j0d (Ne.symm nlD)]
   exact hb2
  ·rw [List.length_map]
   exact j00 (by omega)
  ·rw [j0b, List.map_append]
   rfl
  ·intro j b r hb hr'
   by_cases hj : j < bs.length
   ·rw [List.getElem?_append_left hj] at hb
    obtain ⟨q1, q2⟩ := hb3 j b r hb hr'
    have hbD := (hb5 b (List.mem_of_getElem? hb)).1
    have n1 : b.1 ≠ D := j1q q1 hb2 fun z => nomatch z
    refine ⟨?_, ?_⟩
    ·rw [j0d n1, j0d (j0f q1 ht'), j0d (j0f q1 hl)]
     exact q1
    ·rw [j0d hbD, j0d (j0f q2 ht'), j0d (j0f q2 hl)]
     exact q2
   ·rw [List.getElem?_append_right (by omega)] at hb
    have hj2 : j - bs.length = 0 := by
     have := (List.getElem?_eq_some_iff.mp hb).1
     simp at this
     omega
    have hji : j = i := by omega
    rw [hj2] at hb
    cases hb
    rw [hji, List.getElem?_eq_getElem hi] at hr'
    cases hr'
    refine ⟨?_, ?_⟩
    ·rw [j0d ntD, j0b]
    ·rw [j0d nlD, j0d (Ne.symm ntl), j0b, er]
  ·rw [List.map_append]
   refine j2q hb4 fun hm => ?_
   obtain ⟨b, hb, e⟩ := List.mem_map.mp hm
   obtain ⟨_, _, _, zs, q⟩ := hb5 b hb
   have e' : b.2 = l := e
   rw [e', hl] at q
   cases q
  ·intro b hb
   rcases List.mem_append.mp hb with hb | hb
   ·obtain ⟨q1, q2, q3, zs, q4⟩ := hb5 b hb
    refine ⟨q1, q2, q3, zs, ?_⟩
    rw [j0d q1, j0d (j0f q4 ht'), j0d (j0f q4 hl)]
    exact q4
   ·rw [List.mem_singleton.mp hb]
    refine ⟨nlD, ht0, hl0, row n i, ?_⟩
    rw [j0d nlD, j0d (Ne.symm ntl), j0b]
  ·intro c o hc
   rw [j0d (j0f hc hD), j0d (j0f hc ht0), j0d (j0f hc hl0)]
   exact sm _ _ hc
 ·rintro σ' H' ⟨_, bs, hb1, hb2, hb3, hb4, hb5, sm⟩
  rw [List.length_map] at hb1
  exact q D bs H' sm hD (fun a ha => ⟨(hb5 a ha).2.1, (hb5 a ha).2.2.1⟩) ⟨by omega, hb2, hb3, hb4⟩
end
noncomputable abbrev Tn (p : Str) (j : Int) : HO := .tup [.str p, .int j]
noncomputable def spEnds : Sp := fun vs H Q _ => ∃ (t l : Addr) (p : Str) (zs : List Str), vs = [.ref t] ∧ H t = some (.tup [.str p, .ref l]) ∧ H l = some (Ls zs) ∧ zs.length ≤ 1000 ∧
 ∀ (L : Addr) (ts : List Addr) (H' : Hp), Same H H' → H L = none → H' L = some (.lst (ts.map V.ref)) → ts.length = zs.length → (∀ (j : Nat) t, ts[j]? = some t → H' t = some (Tn p j)) → Q (.ref L) H'
section
variable {X : Cx} {elt tg : Expr} {ifs : List Expr} {scope : Scope} {σ : St} {H : Hp} {N' : List Str} {A : Addr} {after : Hp → Prop}
theorem comp_rangeP {lo : Int} {n : Nat} (Pv : Nat → St → Hp → Prop) (h0 : Pv 0 σ H)
  (hs : ∀ i σ' H', i < n → Pv i σ' H' → CEg X N' scope tg (.int (lo + i)) σ' H' fun σ2 H3 => CEi X N' scope ifs σ2 H3 fun b H4 =>
   if b = true then CEv X N' scope elt σ2 H4 fun v H5 => ∃ ys, H5 A = some (.lst ys) ∧ ys.length < sizeLine ∧ Pv (i + 1) σ2 (upd H5 A (.lst (ys ++ [v]))) else Pv (i + 1) σ2 H4)
  (hd : ∀ σ' H', Pv n σ' H' → after H') : CompL X N' scope tg ifs elt (Itr lo n) A after σ H := by
 refine ⟨fun i m σ' H' => m = n - i ∧ i ≤ n ∧ Pv i σ' H', ⟨_, rfl, Nat.zero_le _, h0⟩, ?_⟩
 rintro i m σ' H' ⟨rfl, hi, p⟩
 by_cases hlt : i < n
 ·refine .inr ⟨hlt, Pv (i + 1), fun σ' H' p' => ⟨n - (i + 1), by omega, rfl, hlt, p'⟩, fun x H2 y => ?_⟩
  obtain ⟨e, y⟩ := y
  subst e y
  exact hs i σ' _ hlt p
 ·have e : i = n := by omega
  subst e
  exact .inl ⟨Nat.le_refl _, hd σ' H' p⟩
end
section
variable {P : Program} {w : World} {K : PySem.W.Frag} {mg : Str → Option Value} {base : Heap}
noncomputable abbrev NE1 : List Str := ["row", "point", "ties"]
noncomputable abbrev NE2 : List Str := ["row", "point", "ties", "place"]
theorem scEnds : FnScope NE1 ["row"] (j0c sEnds) := ⟨rfl, rfl, rfl, by decide +kernel, rfl, by decide +kernel, by decide +kernel⟩
theorem nd_e2 : NE2.Nodup := by decide +kernel
theorem ok_ends {f : Addr} {fd : FuncData} (F : Fun K "ends_round" "ends_round" sEnds f fd) (T : Txt mg) : FnOk P w K mg base CX0 1 f fd ["row"] spEnds := by
 refine F.gb scEnds (fun vs H Q E h => ?_) (fun b0 H vs Q E hr h => ?_)
 ·obtain ⟨t, l, p, zs, rfl, _⟩ := h
  rfl
 obtain ⟨t, l, p, zs, rfl, ht, hl, hz, q⟩ := h
 have nd := scEnds.nd
 let X : Cx := cxB NE1 "ends_round" (j0c sEnds) P w K mg base b0
 show Run X _ _ [some (.ref t), none, none] H
 refine run_asg (ev_v 0 (j2n rfl (SqT.of ht) (j0l 1 nd (j0l 2 nd ?_))))
 show Run _ _ _ [some (.ref t), some (.str p), some (.ref l)] H
 refine j0p (ev_comp (j0c sEnds) NE1 NE2 1 (pi_range1 rfl T.range (ta := tEa _ _) pa_ea (j2l _ [] _ rfl)) ?_)
 show Ea _ _ _ _ _
 refine j0a (j0u j0n T.len boot_len (j0a (ev_v 2 (j0e ⟨l, _, rfl, .inl (SqL.of hl), j0e ⟨_, rfl, by omega, by rw [List.length_map]; omega, fun D hD => ?_⟩⟩))))
 rw [List.length_map, Int.toNat_natCast]
 refine comp_rangeP (fun i σ' H' => (∃ v, σ' = [some (.ref t), some (.str p), some (.ref l)] ++ [v]) ∧ ∃ ts : List Addr, ts.length = i ∧ H' D = some (.lst (ts.map V.ref)) ∧ (∀ (j : Nat) t, ts[j]? = some t → H' t = some (Tn p j)) ∧ Same H H')
  ⟨⟨none, rfl⟩, [], rfl, j0b, fun j t h => by simp at h, j0g hD _⟩ ?_ ?_
 ·rintro i σ' H' hi ⟨⟨v, rfl⟩, ts, hl1, eD, hts, sm⟩
  rw [Int.zero_add]
  intro cl C' s₀ H₀ ex
  refine j0l 3 nd_e2 ?_
  intro cl C' s₀ H₀ ex
  refine j2f ?_
  rw [if_pos rfl]
  intro cl C' s₀ H₀ ex
  refine j1f (j0a (ev_v 1 (j0a (ev_v 3 (j0e ⟨(by show 2 ≤ sizeLine; decide), fun u hu => ?_⟩)))))
  have nu : u ≠ D := fun e => by rw [e, eD] at hu; cases hu
  have hu0 := j06 sm hu
  refine ⟨ts.map V.ref, by rw [j0d (Ne.symm nu)]; exact eD, by rw [List.length_map]; exact j00 (by omega), ⟨_, rfl⟩, ts ++ [u], by rw [List.length_append, hl1]; rfl, by rw [j0b, List.map_append]; rfl, ?_, ?_⟩
  ·intro j t' ht'
   by_cases hj : j < ts.length
   ·rw [List.getElem?_append_left hj] at ht'
    have e := hts j t' ht'
    have n1 : t' ≠ D := j1q e eD fun z => nomatch z
    rw [j0d n1, j0d (j0f e hu)]
    exact e
   ·rw [List.getElem?_append_right (by omega)] at ht'
    have hj2 : j - ts.length = 0 := by
     have := (List.getElem?_eq_some_iff.mp ht').1
     simp at this
     omega
    rw [hj2] at ht'
    cases ht'
    have : j = i := by omega
    rw [this, j0d nu, j0b]
  ·intro c o hc
   rw [j0d (j0f hc hD), j0d (j0f hc hu0)]
   exact sm _ _ hc
 ·rintro σ' H' ⟨_, ts, hl1, eD, hts, sm⟩
  exact q D ts H' sm hD eD hl1 hts
end
end V5
namespace V5
open PySem L2 Nt Sort2
noncomputable def spTL (g : Int → Int) : Sp := fun vs H Q _ => ∃ (e : Addr) (p : Str) (j m : Int), vs = [.ref e, .int m] ∧ H e = some (Tn p j) ∧ 0 < m ∧ ∀ t H', Same H H' → H' t = some (Tn p (g j % m)) → Q (.ref t) H'
section
variable {P : Program} {w : World} {K : PySem.W.Frag} {mg : Str → Option Value} {base : Heap}
noncomputable abbrev NT1 : List Str := ["end", "many", "point", "place"]
theorem scLeft : FnScope NT1 ["end", "many"] (j0c sLeft) := ⟨rfl, rfl, rfl, by decide +kernel, rfl, by decide +kernel, by decide +kernel⟩
theorem ok_left {f : Addr} {fd : FuncData} (F : Fun K "turned_left" "turned_left" sLeft f fd) (T : Txt mg) : FnOk P w K mg base CX0 1 f fd ["end", "many"] (spTL fun j => j + 1) := by
 refine F.gb scLeft (fun vs H Q E h => ?_) (fun b0 H vs Q E hr h => ?_)
 ·obtain ⟨e, p, j, m, rfl, _⟩ := h
  rfl
 obtain ⟨e, p, j, m, rfl, he, hm, q⟩ := h
 have nd := scLeft.nd
 let X : Cx := cxB NT1 "turned_left" (j0c sLeft) P w K mg base b0
 show Run X _ _ [some (.ref e), some (.int m), none, none] H
 refine run_asg (ev_v 0 (j2n rfl (SqT.of he) (j0l 2 nd (j0l 3 nd ?_))))
 refine j0p (j1f (j0a (ev_v 2 (j0a (j0t j1i (j0t j2b (ev_v 3 (j0h ⟨_, _, rfl, rfl, ev_v 1 ⟨_, _, rfl, rfl, (by show 0 < m; exact hm), j0e ⟨(by show 2 ≤ sizeLine; decide), fun t ht => ?_⟩⟩⟩))))))))
 exact q t _ (j0g ht _) j0b
theorem fold_new {kvs : List (Key × V)} : ∀ {acc : List (Key × V)}, ((acc ++ kvs).map (·.1)).Nodup → kvs.foldl (fun a p => putK a p.1 p.2) acc = acc ++ kvs := by
 induction kvs with
 | nil => intro acc _; simp
 | cons p r ih =>
  intro acc h
  have hn : valV acc p.1 = none := by
   cases e : valV acc p.1 with
   | none => rfl
   | some v =>
    have hm := valV_in e
    rw [List.map_append, List.map_cons] at h
    exact absurd rfl ((List.nodup_append.mp h).2.2 _ hm _ List.mem_cons_self)
  rw [List.foldl_cons, putK_new _ hn, ih (by rw [List.append_assoc]; exact h), List.append_assoc]
  rfl
theorem valV_at : ∀ {kvs : List (Key × V)} {i : Nat} {p : Key × V}, (kvs.map (·.1)).Nodup → kvs[i]? = some p → valV kvs p.1 = some p.2
 | [], _, _, _, h => by simp at h
 | q :: r, 0, p, _, h => by
  cases h
  exact j1a rfl
 | q :: r, i + 1, p, hn, h => by
  rw [List.map_cons, List.nodup_cons] at hn
  have hm : r[i]? = some p := by simpa using h
  rw [j04 fun e => hn.1 (by rw [e]; exact List.mem_map.mpr ⟨p, List.mem_of_getElem? hm, rfl⟩)]
  exact valV_at hn.2 hm
noncomputable def j2d (n : Net) (as : List (Addr × Addr)) : List (Key × V) := List.zipWith (fun r a => (Sum.inr r.1, V.ref a.2)) n as
theorem rowKvs_keys : ∀ (n : Net) (as : List (Addr × Addr)), as.length = n.length → (j2d n as).map (·.1) = (n.map (·.1)).map Sum.inr
 | [], [], _ => rfl
 | [], _ :: _, h => by simp at h
 | _ :: _, [], h => by simp at h
 | r :: n, a :: as, h => by
  have := rowKvs_keys n as (by simpa using h)
  show Sum.inr r.1 :: (j2d n as).map (·.1) = _
  rw [this]
  rfl
theorem rowKvs_at {n : Net} {as : List (Addr × Addr)} {i : Nat} {r : Str × List Str} {a : Addr × Addr} (h1 : n[i]? = some r) (h2 : as[i]? = some a) : (j2d n as)[i]? = some (Sum.inr r.1, .ref a.2) := by
 unfold j2d
 rw [List.getElem?_zipWith, h1, h2]
theorem nodup_inr {l : List Str} (h : l.Nodup) : (l.map (Sum.inr : Str → Key)).Nodup := by
 rw [List.nodup_iff_pairwise_ne, List.pairwise_map]
 exact (List.nodup_iff_pairwise_ne.mp h).imp fun h q => h (Sum.inr.inj q)
end
noncomputable def nameAt (n : Net) (r : Nat) : Str := ((n[r]?).map (·.1)).getD ⟨#[]⟩
noncomputable def key (n : Net) (e : Nt.End) : List Key := [Sum.inr (nameAt n e.1), Sum.inl (e.2 : Int)]
noncomputable abbrev TN (n : Net) (e : Nt.End) : HO := Tn (nameAt n e.1) (e.2 : Int)
theorem j2t {n : Net} {r : Nat} (h : r < n.length) : nameAt n r = n[r].1 := by unfold nameAt; rw [List.getElem?_eq_getElem h]; rfl
theorem key_inj {n : Net} (hN : (n.map (·.1)).Nodup) {a b : Nt.End} (ha : a.1 < n.length) (hb : b.1 < n.length) (h : key n a = key n b) : a = b := by
 unfold key at h
 injection h with h1 h2
 injection h2 with h2 _
 have e1 := Sum.inr.inj h1
 have e2 := Sum.inl.inj h2
 rw [j2t ha, j2t hb] at e1
 have e3 : a.1 = b.1 := by
  have la : a.1 < (n.map (·.1)).length := by rw [List.length_map]; exact ha
  have lb : b.1 < (n.map (·.1)).length := by rw [List.length_map]; exact hb
  refine (List.getElem_inj (i := a.1) (j := b.1) (h₀ := la) (h₁ := lb) hN).mp ?_
  rw [List.getElem_map, List.getElem_map]
  exact e1
 exact Prod.ext e3 (by omega)
theorem j19 {n : Net} {r p : Nat} {z : Str} (hr : r < n.length) (hz : (row n r)[p]? = some z) : ∃ rest, j0s n = (j0s (n.take r) ++ j0j r ((row n r).take p) 0) ++ (z, (r, p)) :: rest := by
 have e1 : j0s n = j0s (n.take (r + 1)) ++ j0x (0 + (n.take (r + 1)).length) (n.drop (r + 1)) := by
  have := j11 (n.take (r + 1)) (n.drop (r + 1)) 0
  rw [List.take_append_drop] at this
  exact this
 have e2 : j0j r (row n r) 0 = j0j r ((row n r).take (p + 1)) 0 ++ j0j r ((row n r).drop (p + 1)) (0 + ((row n r).take (p + 1)).length) := by
  unfold j0j
  rw [← List.map_append, ← List.zipIdx_append, List.take_append_drop]
 rw [e1, j16 hr, e2, j1p hz]
 refine ⟨j0j r ((row n r).drop (p + 1)) (0 + ((row n r).take (p + 1)).length) ++ j0x (0 + (n.take (r + 1)).length) (n.drop (r + 1)), ?_⟩
 simp only [List.append_assoc, List.cons_append, List.nil_append]
theorem keys_putK {κ : Type} [DecidableEq κ] (kvs : List (κ × V)) (k : κ) (v : V) : (putK kvs k v).map (·.1) = if k ∈ kvs.map (·.1) then kvs.map (·.1) else kvs.map (·.1) ++ [k] := by
 have e : (kvs.any fun kv => decide (kv.1 = k)) = decide (k ∈ kvs.map (·.1)) := by
  rw [Bool.eq_iff_iff, List.any_eq_true, decide_eq_true_iff, List.mem_map]
  exact ⟨fun ⟨p, h1, h2⟩ => ⟨p, h1, of_decide_eq_true h2⟩, fun ⟨p, h1, h2⟩ => ⟨p, h1, decide_eq_true h2⟩⟩
 unfold putK
 rw [e]
 by_cases h : k ∈ kvs.map (·.1)
 ·rw [if_pos (decide_eq_true h), if_pos h, List.map_map]
  refine List.map_congr_left fun p _ => ?_
  show (if p.1 = k then (p.1, v) else p).1 = p.1
  split <;> rfl
 ·rw [if_neg (by simpa using h), if_neg h, List.map_append]
  rfl
theorem mem_putK {κ : Type} [DecidableEq κ] {kvs : List (κ × V)} {k j : κ} {v : V} : j ∈ (putK kvs k v).map (·.1) ↔ j ∈ kvs.map (·.1) ∨ j = k := by
 rw [keys_putK]
 split
 ·exact ⟨.inl, fun h => h.elim id fun e => by rw [e]; assumption⟩
 ·rw [List.mem_append, List.mem_singleton]
theorem nodup_putK {κ : Type} [DecidableEq κ] {kvs : List (κ × V)} {k : κ} {v : V} (h : (kvs.map (·.1)).Nodup) : ((putK kvs k v).map (·.1)).Nodup := by
 rw [keys_putK]
 split
 ·exact h
 ·rename_i hn
  exact j2q h hn
structure OEI (n : Net) (done : List (Str × Nt.End)) (H : Hp) (kM : List (Key × V)) (kO : List (List Key × V)) : Prop where
 m0 : ∀ z, j08 done z = [] → valV kM (Sum.inr z) = none
 m1 : ∀ z a rest, j08 done z = a :: rest → ∃ t, valV kM (Sum.inr z) = some (.ref t) ∧ H t = some (TN n a)
 o : ∀ z a b rest, j08 done z = a :: b :: rest → (∃ u, valV kO (key n a) = some (.ref u) ∧ H u = some (TN n b)) ∧ ∃ u, valV kO (key n b) = some (.ref u) ∧ H u = some (TN n a)
 sub : ∀ p ∈ done, j01 n p.2 = some p.1
 lenM : kM.length ≤ done.length
 lenO : kO.length ≤ 2 * done.length
 ks : ∀ k ∈ kO.map (·.1), ∃ p ∈ done, k = key n p.2
 nd : (kO.map (·.1)).Nodup
theorem OEI.keep {n : Net} {done : List (Str × Nt.End)} {H H' : Hp} {kM : List (Key × V)} {kO : List (List Key × V)} (I : OEI n done H kM kO) (k : ∀ t p j, H t = some (Tn p j) → H' t = some (Tn p j)) : OEI n done H' kM kO where
 m0 := I.m0
 m1 := fun z a rest h => let ⟨t, e1, e2⟩ := I.m1 z a rest h; ⟨t, e1, k _ _ _ e2⟩
 o := fun z a b rest h => let ⟨⟨u, e1, e2⟩, ⟨v, e3, e4⟩⟩ := I.o z a b rest h; ⟨⟨u, e1, k _ _ _ e2⟩, ⟨v, e3, k _ _ _ e4⟩⟩
 sub := I.sub
 lenM := I.lenM
 lenO := I.lenO
 ks := I.ks
 nd := I.nd
theorem j2y {done : List (Str × Nt.End)} {z : Str} {a : Nt.End} (h : a ∈ j08 done z) : (z, a) ∈ done := by
 unfold j08 at h
 obtain ⟨⟨y, b⟩, hm, rfl⟩ := List.mem_map.mp h
 obtain ⟨h1, h2⟩ := List.mem_filter.mp hm
 have : y = z := of_decide_eq_true h2
 subst this
 exact h1
theorem OEI.new {n : Net} {done : List (Str × Nt.End)} {H : Hp} {kM : List (Key × V)} {kO : List (List Key × V)} (I : OEI n done H kM kO) {z : Str} {e : Nt.End} {t : Addr} (ht : H t = some (TN n e)) (hz : j01 n e = some z) (h0 : j08 done z = []) :
  OEI n (done ++ [(z, e)]) H (putK kM (Sum.inr z) (.ref t)) kO where
 m0 := fun y hy => by
  rw [j0m] at hy
  obtain ⟨h1, h2⟩ := List.append_eq_nil_iff.mp hy
  have hne : ¬ z = y := fun q => by rw [if_pos q] at h2; cases h2
  rw [j0q, if_neg (fun q => hne (Sum.inr.inj q).symm)]
  exact I.m0 y h1
 m1 := fun y a rest hy => by
  rw [j0m] at hy
  by_cases q : z = y
  ·subst q
   rw [h0, if_pos rfl] at hy
   cases hy
   exact ⟨t, by rw [j0q, if_pos rfl], ht⟩
  ·rw [if_neg q, List.append_nil] at hy
   obtain ⟨u, e1, e2⟩ := I.m1 y a rest hy
   exact ⟨u, by rw [j0q, if_neg (fun p => q (Sum.inr.inj p).symm)]; exact e1, e2⟩
 o := fun y a b rest hy => by
  rw [j0m] at hy
  by_cases q : z = y
  ·subst q
   rw [h0, if_pos rfl] at hy
   cases hy
  ·rw [if_neg q, List.append_nil] at hy
   exact I.o y a b rest hy
 sub := fun p hp => by
  rcases List.mem_append.mp hp with h | h
  ·exact I.sub p h
  ·rw [List.mem_singleton.mp h]
   exact hz
 lenM := by
  have := j0w kM (Sum.inr z) (.ref t)
  have := I.lenM
  rw [List.length_append, List.length_singleton]
  omega
 lenO := by
  have := I.lenO
  rw [List.length_append, List.length_singleton]
  omega
 ks := fun k hk => let ⟨p, hp, e⟩ := I.ks k hk; ⟨p, List.mem_append_left _ hp, e⟩
 nd := I.nd
theorem OEI.old {n : Net} (hN : (n.map (·.1)).Nodup) {done : List (Str × Nt.End)} {H : Hp} {kM : List (Key × V)} {kO : List (List Key × V)} (I : OEI n done H kM kO) {z : Str} {e a : Nt.End} {te tm : Addr} (ht : H te = some (TN n e)) (hm : H tm = some (TN n a)) (hz : j01 n e = some z) (h1 : j08 done z = [a]) (hae : a ≠ e) :
  OEI n (done ++ [(z, e)]) H kM (putK (putK kO (key n e) (.ref tm)) (key n a) (.ref te)) where
 m0 := fun y hy => by
  rw [j0m] at hy
  exact I.m0 y (List.append_eq_nil_iff.mp hy).1
 m1 := fun y c rest hy => by
  rw [j0m] at hy
  by_cases q : z = y
  ·subst q
   rw [h1, if_pos rfl] at hy
   cases hy
   exact I.m1 z a [] h1
  ·rw [if_neg q, List.append_nil] at hy
   exact I.m1 y c rest hy
 o := fun y c b rest hy => by
  rw [j0m] at hy
  have ta : j01 n a = some z := I.sub (z, a) (j2y (by rw [h1]; exact List.mem_singleton.mpr rfl))
  by_cases q : z = y
  ·subst q
   rw [h1, if_pos rfl] at hy
   cases hy
   refine ⟨⟨te, by rw [j0q, if_pos rfl], ht⟩, ⟨tm, ?_, hm⟩⟩
   rw [j0q, if_neg (fun p => hae (key_inj hN (j1r hz) (j1r ta) p).symm), j0q, if_pos rfl]
  ·rw [if_neg q, List.append_nil] at hy
   have tc : j01 n c = some y := I.sub (y, c) (j2y (by rw [hy]; exact List.mem_cons_self))
   have tb : j01 n b = some y := I.sub (y, b) (j2y (by rw [hy]; exact List.mem_cons_of_mem _ List.mem_cons_self))
   have ne : ∀ x : Nt.End, j01 n x = some y → ¬ key n x = key n a ∧ ¬ key n x = key n e := fun x hx => by
    refine ⟨fun p => ?_, fun p => ?_⟩
    ·have := key_inj hN (j1r hx) (j1r ta) p
     rw [this, ta] at hx
     exact q (Option.some.inj hx)
    ·have := key_inj hN (j1r hx) (j1r hz) p
     rw [this, hz] at hx
     exact q (Option.some.inj hx)
   obtain ⟨⟨u, e1, e2⟩, ⟨v, e3, e4⟩⟩ := I.o y c b rest hy
   refine ⟨⟨u, ?_, e2⟩, ⟨v, ?_, e4⟩⟩
   ·rw [j0q, if_neg (ne c tc).1, j0q, if_neg (ne c tc).2]
    exact e1
   ·rw [j0q, if_neg (ne b tb).1, j0q, if_neg (ne b tb).2]
    exact e3
 sub := fun p hp => by
  rcases List.mem_append.mp hp with h | h
  ·exact I.sub p h
  ·rw [List.mem_singleton.mp h]
   exact hz
 lenM := by
  have := I.lenM
  rw [List.length_append, List.length_singleton]
  omega
 lenO := by
  have h1 := j0w (putK kO (key n e) (.ref tm)) (key n a) (.ref te)
  have h2 := j0w kO (key n e) (.ref tm)
  have := I.lenO
  rw [List.length_append, List.length_singleton]
  omega
 ks := fun k hk => by
  rcases mem_putK.mp hk with hk | rfl
  ·rcases mem_putK.mp hk with hk | rfl
   ·obtain ⟨p, hp, e⟩ := I.ks k hk
    exact ⟨p, List.mem_append_left _ hp, e⟩
   ·exact ⟨(z, e), List.mem_append_right _ (List.mem_singleton.mpr rfl), rfl⟩
  ·exact ⟨(z, a), List.mem_append_left _ (j2y (by rw [h1]; exact List.mem_singleton.mpr rfl)), rfl⟩
 nd := nodup_putK (nodup_putK I.nd)
theorem OEI.whole {n : Net} (T : j1g n) {H : Hp} {kM : List (Key × V)} {kO : List (List Key × V)} (I : OEI n (j0s n) H kM kO) {e : Nt.End} (he : e ∈ ends n) : ∃ u, valV kO (key n e) = some (.ref u) ∧ H u = some (TN n (other n e)) := by
 obtain ⟨z, hz⟩ := mem_ends.mp he
 obtain ⟨a, b, hp, hab, hor⟩ := pos_two T hz
 have hp' : j08 (j0s n) z = a :: b :: [] := hp
 have ta : j01 n a = some z := mem_pos.mp (by rw [hp]; simp)
 have tb : j01 n b = some z := mem_pos.mp (by rw [hp]; simp)
 obtain ⟨o1, o2⟩ := I.o z a b [] hp'
 rcases hor with rfl | rfl
 ·have : b = other n e := ((tie_two T hz).mp tb).resolve_left (Ne.symm hab)
  rw [← this]
  exact o1
 ·have : a = other n e := ((tie_two T hz).mp ta).resolve_left hab
  rw [← this]
  exact o2
noncomputable def spOE : Sp := fun vs H Q _ => ∃ (R : Addr) (as : List (Addr × Addr)) (n : Net), vs = [.ref R] ∧ RowsAt H R as n ∧ (n.map (·.1)).Nodup ∧ j1g n ∧ n.length ≤ 1000 ∧ (ties n).length ≤ 1000 ∧
 ∀ (d : Addr) (kvs : List (List Key × V)) (H' : Hp), Same H H' → H d = none → H' d = some (.dT kvs) → (∀ e ∈ ends n, ∃ u, valV kvs (key n e) = some (.ref u) ∧ H' u = some (TN n (other n e))) → (kvs.map (·.1)).Nodup → (∀ k ∈ kvs.map (·.1), ∃ e ∈ ends n, k = key n e) → kvs.length ≤ 2000 → Q (.ref d) H'
section
variable {X : Cx} {D : Ends} {σ : St} {H : Hp} {body : List Stmt}
theorem loop_zip {tg : Expr} {a b : Addr} {xs ys : List V} {after : St → Hp → Prop} (hlen : xs.length = ys.length) (Pv : Nat → St → Hp → Prop) (h0 : Pv 0 σ H) (hl : ∀ i σ H, i ≤ xs.length → Pv i σ H → SqL X.K H a xs ∧ SqL X.K H b ys)
  (hs : ∀ i x y T σ H, xs[i]? = some x → ys[i]? = some y → Pv i σ H → H T = none → Eg X tg (.ref T) σ (upd H T (.tup [x, y])) fun σ2 H2 => Run X body { D with nx := Pv (i + 1), ct := Pv (i + 1), bk := after } σ2 H2) (hd : ∀ σ H, Pv xs.length σ H → after σ H) : Loop X tg body (Itz X.K a b) D after σ H := by
 refine ⟨fun i m σ H => m = xs.length - i ∧ i ≤ xs.length ∧ Pv i σ H, ⟨xs.length, by simp, Nat.zero_le _, h0⟩, ?_⟩
 rintro i m σ H ⟨rfl, hi, p⟩
 obtain ⟨q1, q2⟩ := hl i σ H hi p
 by_cases hlt : i < xs.length
 ·refine .inr ⟨⟨xs, ys, xs[i], ys[i], q1, q2, List.getElem?_eq_getElem hlt, List.getElem?_eq_getElem (by omega)⟩, Pv (i + 1), fun σ' H' p' => ⟨xs.length - (i + 1), by omega, rfl, hlt, p'⟩, fun v H' y => ?_⟩
  obtain ⟨T, x, y, hT, rfl, rfl, y1, y2⟩ := y
  exact hs i x y T σ _ (y1 xs q1) (y2 ys q2) p hT
 ·have e : i = xs.length := by omega
  subst e
  exact .inl ⟨⟨xs, ys, q1, q2, .inl (Nat.le_refl _)⟩, hd σ H p⟩
end
end V5
namespace V5
open PySem L2 Nt Sort2
section
variable {P : Program} {w : World} {K : PySem.W.Frag} {mg : Str → Option Value} {base : Heap}
noncomputable abbrev NOE : List Str := ["rows", "met", "others", "row", "end", "tie"]
theorem scOE : FnScope NOE ["rows"] (j0c sOthers) := ⟨rfl, rfl, rfl, by decide +kernel, rfl, by decide +kernel, by decide +kernel⟩
theorem tup_ne_dK {H : Hp} {t d : Addr} {xs : List V} {kvs : List (Key × V)} (h : H t = some (.tup xs)) (g : H d = some (.dK kvs)) : t ≠ d := j1q h g fun z => nomatch z
theorem j2c {H : Hp} {t d : Addr} {xs : List V} {kvs : List (List Key × V)} (h : H t = some (.tup xs)) (g : H d = some (.dT kvs)) : t ≠ d := j1q h g fun z => nomatch z
theorem ok_OE {f : Addr} {fd : FuncData} (F : Fun K "other_ends" "other_ends" sOthers f fd) (T : Txt mg)
  (GE : Has P w K mg base 1 "ends_round" ["row"] spEnds) :
  FnOk P w K mg base CX0 2 f fd ["rows"] spOE := by
 refine F.gb scOE (fun vs H Q E h => ?_) (fun b0 H vs Q E hr h => ?_)
 ·obtain ⟨R, as, n, rfl, _⟩ := h
  rfl
 obtain ⟨R, as, n, rfl, hR, hN, hT, hn, ht, q⟩ := h
 have nd := scOE.nd
 have hal := hR.len
 have hu := hr.u1
 let X : Cx := cxB NOE "other_ends" (j0c sOthers) P w K mg base b0
 show Run X _ _ [some (.ref R), none, none, none, none, none] H
 refine j0k 1 nd (ev_dnewK fun dm hdm => ?_)
 refine j0k 2 nd (ev_dnewT fun dO hdO => ?_)
 show Run _ _ _ [some (.ref R), some (.ref dm), some (.ref dO), none, none, none] (upd (upd H dm (.dK [])) dO (.dT []))
 have ndd : dO ≠ dm := fun e => by rw [e, j0b] at hdO; cases hdO
 have hdO0 : H dO = none := by rw [j0d ndd] at hdO; exact hdO
 have em : (upd (upd H dm (.dK [])) dO (.dT [])) dm = some (.dK []) := by rw [j0d (Ne.symm ndd), j0b]
 have eo : (upd (upd H dm (.dK [])) dO (.dT [])) dO = some (.dT []) := j0b
 have s0 : Same H (upd (upd H dm (.dK [])) dO (.dT [])) := fun b o h => by rw [j0d (j0f h hdO0), j0d (j0f h hdm)]; exact h
 generalize upd (upd H dm (.dK [])) dO (.dT []) = H1 at em eo s0 ⊢
 refine j2g (ev_v 0 ⟨R, rfl, ⟨_, SqL.of (s0 _ _ hR.lst)⟩, j1x (xs := as.map fun a => V.ref a.1) (fun r σ H' => ∃ kM kO u1 u2 u3, Same H H' ∧ H' dm = some (.dK kM) ∧ H' dO = some (.dT kO) ∧ OEI n (j0s (n.take r)) H' kM kO ∧ σ = [some (.ref R), some (.ref dm), some (.ref dO), u1, u2, u3])
  ⟨[], [], _, _, _, s0, em, eo, ⟨fun _ _ => rfl, fun z a rest h => (by cases h), fun z a b rest h => (by cases h), fun p h => (by cases h), Nat.zero_le _, Nat.zero_le _, fun k h => (by cases h), List.nodup_nil⟩, rfl⟩ ?_ ?_ ?_⟩)
 ·rintro r σ H' _ ⟨kM, kO, u1, u2, u3, sm, _⟩
  exact SqL.of (sm _ _ hR.lst)
 ·rintro r x σ H' hx ⟨kM, kO, u1, u2, u3, sm, em', eo', I, rfl⟩
  have hi : r < n.length := by
   have := (List.getElem?_eq_some_iff.mp hx).1
   rw [List.length_map] at this
   omega
  obtain ⟨a, ea, eat, et, el, er⟩ := (hR.same sm).at hi
  rw [List.getElem?_map, ea] at hx
  cases hx
  have hrl : (row n r).length ≤ 1000 := Nat.le_trans (j3c n r) ht
  have enm : nameAt n r = n[r].1 := j2t hi
  refine j0l 3 nd ?_
  refine run_for (pi_zip rfl T.zip (ta := tEa _ _) pa_ea) ?_
  show Ea _ _ _ _ _
  refine j0a (j0v GE hr (j0a (ev_v 3 (j0e ⟨a.1, a.2, n[r].1, row n r, rfl, et, el, hrl, fun L ts H5 s5 n5 e5 l5 t5 => ?_⟩))))
  refine j0a (j09 j1h (ev_v 3 (j0h ⟨a.1, _, _, .ref a.2, rfl, rfl, SqT.of (s5 _ _ et), rfl, j0e ⟨L, a.2, rfl, ⟨_, SqL.of e5⟩, ⟨_, SqL.of (s5 _ _ el)⟩, ?_⟩⟩)))
  have em5 := s5 _ _ em'
  have eo5 := s5 _ _ eo'
  have el5 := s5 _ _ el
  refine loop_zip (xs := ts.map V.ref) (ys := (row n r).map V.str) (by rw [List.length_map, List.length_map, l5]) (fun p σ' H'' => ∃ kM kO u2 u3, (∀ b o, b ≠ dm → b ≠ dO → H5 b = some o → H'' b = some o) ∧ H'' dm = some (.dK kM) ∧ H'' dO = some (.dT kO) ∧ OEI n (j0s (n.take r) ++ j0j r ((row n r).take p) 0) H'' kM kO ∧ σ' = [some (.ref R), some (.ref dm), some (.ref dO), some (.ref a.1), u2, u3])
   ⟨kM, kO, _, _, fun b o _ _ h => h, em5, eo5, ?_, rfl⟩ ?_ ?_ ?_
  ·have : j0j r ((row n r).take 0) 0 = [] := by simp [j0j]
   rw [this, List.append_nil]
   exact I.keep fun t p j h => s5 _ _ h
  ·rintro p σ' H'' _ ⟨kM, kO, u2, u3, kb, _, _, _, rfl⟩
   exact ⟨SqL.of (kb _ _ (j1q e5 em5 fun z => nomatch z) (j1q e5 eo5 fun z => nomatch z) e5), SqL.of (kb _ _ (j1q el5 em5 fun z => nomatch z) (j1q el5 eo5 fun z => nomatch z) el5)⟩
  ·rintro p x y Tt σ' H'' hx hy ⟨kM, kO, u2, u3, kb, em6, eo6, I6, rfl⟩ hTt
   rw [List.getElem?_map, Option.map_eq_some_iff] at hx hy
   obtain ⟨te, hte, rfl⟩ := hx
   obtain ⟨z, hz, rfl⟩ := hy
   have e5t := t5 p te hte
   have ete : H'' te = some (Tn n[r].1 p) := kb _ _ (tup_ne_dK e5t em5) (j2c e5t eo5) e5t
   have htz : j01 n (r, p) = some z := hz
   obtain ⟨rest, hsp⟩ := j19 hi hz
   have hlen : (j0s (n.take r) ++ j0j r ((row n r).take p) 0).length < 1000 := by
    have h1 : (j0s n).length = (ties n).length := by
     have := congrArg List.length (j07 n 0)
     rw [List.length_map] at this
     exact this
    have h2 := congrArg List.length hsp
    rw [List.length_append, List.length_cons] at h2
    omega
   have hnext : j0s (n.take r) ++ j0j r ((row n r).take (p + 1)) 0 = (j0s (n.take r) ++ j0j r ((row n r).take p) 0) ++ [(z, (r, p))] := by
    rw [j1p hz, List.append_assoc]
   have hfresh : ∀ b, b ∈ j08 (j0s (n.take r) ++ j0j r ((row n r).take p) 0) z → b ≠ (r, p) := fun b hb e => by
    have hm := j2y hb
    have hnd := ends_nodup n
    unfold ends at hnd
    rw [hsp, List.map_append, List.map_cons] at hnd
    exact (List.nodup_append.mp hnd).2.2 _ (List.mem_map.mpr ⟨_, hm, rfl⟩) _ List.mem_cons_self e
   have hcnt : (j08 (j0s (n.take r) ++ j0j r ((row n r).take p) 0) z).length ≤ 1 := by
    have h1 : (pos n z).length = 2 := by rw [pos_len]; exact hT z (j2s htz)
    have h2 : pos n z = j08 (j0s (n.take r) ++ j0j r ((row n r).take p) 0) z ++ j08 ((z, (r, p)) :: rest) z := by
     show j08 (j0s n) z = _
     rw [hsp]
     unfold j08
     rw [List.filter_append, List.map_append]
    have h3 : 1 ≤ (j08 ((z, (r, p)) :: rest) z).length := by
     unfold j08
     rw [List.filter_cons, if_pos (by simp)]
     simp
    rw [h2, List.length_append] at h1
    omega
   generalize j0s (n.take r) ++ j0j r ((row n r).take p) 0 = done at I6 hlen hnext hfresh hcnt
   rw [hnext]
   have hTm : Tt ≠ dm := fun e => by rw [e, em6] at hTt; cases hTt
   have hTo : Tt ≠ dO := fun e => by rw [e, eo6] at hTt; cases hTt
   have s7 := j0g hTt (.tup [.ref te, .str z])
   have kb7 : ∀ b o, b ≠ dm → b ≠ dO → H5 b = some o → (upd H'' Tt (.tup [.ref te, .str z])) b = some o := fun b o h1 h2 h => s7 _ _ (kb b o h1 h2 h)
   have em7 := s7 _ _ em6
   have eo7 := s7 _ _ eo6
   have I7 := I6.keep (H' := upd H'' Tt (.tup [.ref te, .str z])) fun t p j h => s7 _ _ h
   have ete7 := s7 _ _ ete
   refine j2n rfl (SqT.of j0b) (j0l 4 nd (j0l 5 nd ?_))
   show Run _ _ _ [some (.ref R), some (.ref dm), some (.ref dO), some (.ref a.1), some (.ref te), some (.str z)] _
   generalize upd H'' Tt (.tup [.ref te, .str z]) = H7 at kb7 em7 eo7 I7 ete7
   have ete8 : H7 te = some (TN n (r, p)) := by
    show H7 te = some (Tn (nameAt n r) p)
    rw [enm]
    exact ete7
   have hM : kM.length < sizeLine := j00 (by have := I7.lenM; omega)
   have hO : kO.length < sizeLine := j00 (by have := I7.lenO; omega)
   refine j1n (et_din hu (ev_v 5 (ev_v 1 ⟨dm, _, rfl, DGet.k (k := Sum.inr z) em7, ?_⟩)))
   match hpz : j08 done z with
   | [] =>
    rw [I7.m0 z hpz]
    show if false = true then _ else _
    rw [if_neg Bool.false_ne_true]
    refine j2o hu (ev_v 4 (ev_v 1 (ev_v 5 ⟨dm, _, rfl, DPut.k (k := Sum.inr z) em7 hM, j0i (j0i ⟨_, kO, _, _, fun b o h1 h2 h => ?_, j0b, ?_, ?_, rfl⟩)⟩)))
    ·rw [j0d h1]
     exact kb7 b o h1 h2 h
    ·rw [j0d ndd]
     exact eo7
    ·exact (I7.new ete8 htz hpz).keep fun t p j h => by rw [j0d (tup_ne_dK h em7)]; exact h
   | b :: more =>
    have hmore : more = [] := by
     rw [hpz, List.length_cons] at hcnt
     exact List.length_eq_zero_iff.mp (by omega)
    subst hmore
    obtain ⟨tm, vm, etm⟩ := I7.m1 z b [] hpz
    rw [vm]
    show if true = true then _ else _
    rw [if_pos rfl]
    have hbe : b ≠ (r, p) := hfresh b (by rw [hpz]; exact List.mem_singleton.mpr rfl)
    refine j2o hu (j21 hu (ev_v 1 (ev_v 5 ⟨dm, .ref tm, rfl, by rw [← vm]; exact DGet.k (k := Sum.inr z) em7, ev_v 2 (ev_v 4 ⟨dO, _, rfl, DPut.t (k := key n (r, p)) eo7 ete8 hO, ?_⟩)⟩)))
    have hO2 := j0w kO (key n (r, p)) (.ref tm)
    have hO3 := I7.lenO
    have em8 : (upd H7 dO (.dT (putK kO (key n (r, p)) (.ref tm)))) dm = some (.dK kM) := by rw [j0d (Ne.symm ndd)]; exact em7
    have etm8 : (upd H7 dO (.dT (putK kO (key n (r, p)) (.ref tm)))) tm = some (TN n b) := by rw [j0d (j2c etm eo7)]; exact etm
    refine j2o hu (ev_v 4 (ev_v 2 (j21 hu (ev_v 1 (ev_v 5 ⟨dm, .ref tm, rfl, by rw [← vm]; exact DGet.k (k := Sum.inr z) em8, dO, _, rfl, DPut.t (k := key n b) j0b etm8 (j00 (by omega)), j0i (j0i ⟨kM, _, _, _, fun b o h1 h2 h => ?_, ?_, j0b, ?_, rfl⟩)⟩)))))
    ·rw [j0d h2, j0d h2]
     exact kb7 b o h1 h2 h
    ·rw [j0d (Ne.symm ndd)]
     exact em8
    ·exact (I7.old hN ete8 etm htz hpz hbe).keep fun t p j h => by rw [j0d (j2c h eo7), j0d (j2c h eo7)]; exact h
  ·rintro σ' H'' ⟨kM, kO, u2, u3, kb, em6, eo6, I6, rfl⟩
   refine j0i ⟨kM, kO, _, _, _, fun b o h => ?_, em6, eo6, ?_, rfl⟩
   ·exact kb b o (j0f h hdm) (j0f h hdO0) (s5 _ _ (sm _ _ h))
   ·rw [List.length_map, l5, List.take_length] at I6
    rw [j16 hi]
    exact I6
 ·rintro σ H' ⟨kM, kO, u1, u2, u3, sm, em', eo', I, rfl⟩
  rw [List.length_map, hal, List.take_length] at I
  have lO := I.lenO
  have ls : (j0s n).length = (ties n).length := by rw [← j07 n 0, List.length_map]; rfl
  exact j0p (ev_v 2 (q dO kO H' sm hdO0 eo' (fun e he => I.whole hT he) I.nd (fun k hk => let ⟨p, hp, e⟩ := I.ks k hk; ⟨p.2, List.mem_map.mpr ⟨p, hp, rfl⟩, e⟩) (by omega)))
end
end V5
namespace V5
open PySem L2 Nt Sort2
noncomputable def AtN (n : Net) (H : Hp) (us : List Addr) (done : List (Str × Nt.End)) : Prop := us.length = done.length ∧ ∀ (j : Nat) u p, us[j]? = some u → done[j]? = some p → H u = some (TN n p.2)
theorem AtN.keep {n : Net} {H H' : Hp} {us : List Addr} {done : List (Str × Nt.End)} (h : AtN n H us done) (k : ∀ t p j, H t = some (Tn p j) → H' t = some (Tn p j)) : AtN n H' us done := ⟨h.1, fun j u p h1 h2 => k _ _ _ (h.2 j u p h1 h2)⟩
theorem AtN.snoc {n : Net} {H H' : Hp} {us : List Addr} {done : List (Str × Nt.End)} {u : Addr} {p : Str × Nt.End} (h : AtN n H us done) (k : ∀ t p j, H t = some (Tn p j) → H' t = some (Tn p j)) (hu : H' u = some (TN n p.2)) : AtN n H' (us ++ [u]) (done ++ [p]) := by
 obtain ⟨hl, ha⟩ := h
 refine ⟨by rw [List.length_append, List.length_append, hl]; rfl, fun j v x hv hx => ?_⟩
 by_cases hj : j < us.length
 ·rw [List.getElem?_append_left hj] at hv
  rw [List.getElem?_append_left (by omega)] at hx
  exact k _ _ _ (ha j v x hv hx)
 ·rw [List.getElem?_append_right (by omega)] at hv hx
  have hj2 : j - us.length = 0 := by
   have := (List.getElem?_eq_some_iff.mp hv).1
   simp at this
   omega
  have hj3 : j - done.length = 0 := by omega
  rw [hj2] at hv
  rw [hj3] at hx
  cases hv
  cases hx
  exact hu
section
variable {X : Cx} {tg : Expr} {ifs : List Expr} {inner : Sem Unit} {σ : St} {H : Hp} {a b : Addr} {xs ys : List V} {after : St → Hp → Prop}
theorem j1m (Pv : Nat → St → Hp → Prop) (h0 : Pv 0 σ H) (hl : ∀ i σ' H', i ≤ xs.length → Pv i σ' H' → SqL X.K H' a xs)
  (hs : ∀ i x σ' H', xs[i]? = some x → Pv i σ' H' → Eg X tg x σ' H' fun σ2 H3 => Ei X ifs σ2 H3 fun b H4 => if b = true then Ein X inner σ2 H4 (Pv (i + 1)) else Pv (i + 1) σ2 H4)
  (hd : ∀ σ' H', Pv xs.length σ' H' → after σ' H') : j2h X tg ifs inner (Itl X.K a) after σ H := by
 refine ⟨fun i m σ' H' => m = xs.length - i ∧ i ≤ xs.length ∧ Pv i σ' H', ⟨_, rfl, Nat.zero_le _, h0⟩, ?_⟩
 rintro i m σ' H' ⟨rfl, hi, p⟩
 have q := hl i σ' H' hi p
 by_cases hlt : i < xs.length
 ·refine .inr ⟨⟨xs, xs[i], q, by simp [hlt]⟩, Pv (i + 1), fun σ' H' p' => ⟨xs.length - (i + 1), by omega, rfl, hlt, p'⟩, fun x H2 y => ?_⟩
  obtain ⟨e, y⟩ := y
  subst e
  exact hs i x σ' _ (y xs q) p
 ·have e : i = xs.length := by omega
  subst e
  exact .inl ⟨⟨xs, q, Nat.le_refl _⟩, hd σ' H' p⟩
end
noncomputable def spOrd : Sp := fun vs H Q _ => ∃ (R : Addr) (as : List (Addr × Addr)) (n : Net), vs = [.ref R] ∧ RowsAt H R as n ∧ n.length ≤ 1000 ∧ (ties n).length ≤ 1000 ∧
 ∀ (L : Addr) (ts : List Addr) (H' : Hp), Same H H' → H L = none → H' L = some (.lst (ts.map V.ref)) → AtN n H' ts (j0s n) → Q (.ref L) H'
section
variable {P : Program} {w : World} {K : PySem.W.Frag} {mg : Str → Option Value} {base : Heap}
noncomputable abbrev NO1 : List Str := ["rows"]
noncomputable abbrev NO2 : List Str := ["rows", "row", "end"]
theorem scOrder : FnScope NO1 ["rows"] (j0c sOrder) := ⟨rfl, rfl, rfl, by decide +kernel, rfl, by decide +kernel, by decide +kernel⟩
theorem nd_o2 : NO2.Nodup := by decide +kernel
theorem ok_order {f : Addr} {fd : FuncData} (F : Fun K "ends_in_order" "ends_in_order" sOrder f fd) (T : Txt mg)
  (GE : Has P w K mg base 1 "ends_round" ["row"] spEnds) :
  FnOk P w K mg base CX0 2 f fd ["rows"] spOrd := by
 refine F.gb scOrder (fun vs H Q E h => ?_) (fun b0 H vs Q E hr h => ?_)
 ·obtain ⟨R, as, n, rfl, _⟩ := h
  rfl
 obtain ⟨R, as, n, rfl, hR, hn, ht, q⟩ := h
 have nd := scOrder.nd
 have hal := hR.len
 let X : Cx := cxB NO1 "ends_in_order" (j0c sOrder) P w K mg base b0
 show Run X _ _ [some (.ref R)] H
 refine j0p (ev_comp2 (j0c sOrder) NO1 NO2 2 (j1u j0y) (ev_v 0 ⟨R, rfl, ⟨_, SqL.of hR.lst⟩, fun D hD cl C s₀ H₀ ex => ?_⟩))
 refine j1m (xs := as.map fun a => V.ref a.1) (fun r σ' H' => (∃ v1 v2, σ' = [some (.ref R)] ++ [v1, v2]) ∧ ∃ ts : List Addr, Same H H' ∧ H' D = some (.lst (ts.map V.ref)) ∧ AtN n H' ts (j0s (n.take r))) ⟨⟨none, none, rfl⟩, [], j0g hD _, j0b, ⟨rfl, fun j u p h => (by cases h)⟩⟩ ?_ ?_ ?_
 ·rintro r σ' H' _ ⟨_, ts, sm, _⟩
  exact SqL.of (sm _ _ hR.lst)
 ·rintro r x σ' H' hx ⟨⟨v1, v2, rfl⟩, ts, sm, eD, AN⟩
  have hi : r < n.length := by
   have := (List.getElem?_eq_some_iff.mp hx).1
   rw [List.length_map] at this
   omega
  obtain ⟨a, ea, eat, et, el, er⟩ := (hR.same sm).at hi
  rw [List.getElem?_map, ea] at hx
  cases hx
  have hrl : (row n r).length ≤ 1000 := Nat.le_trans (j3c n r) ht
  refine j0l 1 nd_o2 ?_
  refine j2f ?_
  rw [if_pos rfl]
  refine ein_next rfl rfl (j1u j0y) (j0v GE hr (j0a (ev_v 1 (j0e ⟨a.1, a.2, n[r].1, row n r, rfl, et, el, hrl, fun L us H5 s5 n5 e5 l5 t5 => ⟨L, rfl, ⟨_, SqL.of e5⟩, ?_⟩⟩))))
  have nLD : L ≠ D := fun e => by rw [e, eD] at n5; cases n5
  refine j1m (xs := us.map V.ref) (fun p σ' H'' => (∃ v2, σ' = [some (.ref R)] ++ [some (.ref a.1), v2]) ∧ ∃ ts : List Addr, (∀ b o, b ≠ D → H5 b = some o → H'' b = some o) ∧ H'' D = some (.lst (ts.map V.ref)) ∧ AtN n H'' ts (j0s (n.take r) ++ j0j r ((row n r).take p) 0))
   ⟨⟨_, rfl⟩, ts, fun b o _ h => h, s5 _ _ eD, by simpa [j0j] using AN.keep (H' := H5) fun t p j h => s5 _ _ h⟩ ?_ ?_ ?_
  ·rintro p σ' H'' _ ⟨_, ts, kb, _⟩
   exact SqL.of (kb _ _ nLD e5)
  ·rintro p x σ' H'' hx ⟨⟨v2, rfl⟩, ts, kb, eD6, AN6⟩
   rw [List.getElem?_map, Option.map_eq_some_iff] at hx
   obtain ⟨te, hte, rfl⟩ := hx
   have hp : p < (row n r).length := by have := (List.getElem?_eq_some_iff.mp hte).1; omega
   have hz : (row n r)[p]? = some (row n r)[p] := List.getElem?_eq_getElem hp
   generalize (row n r)[p] = z at hz
   have e5t := t5 p te hte
   have nte : te ≠ D := j1q e5t (s5 _ _ eD) fun z => nomatch z
   have ete := kb _ _ nte e5t
   obtain ⟨rest, hsp⟩ := j19 hi hz
   have hlen : ts.length < 1000 := by
    have h1 : (j0s n).length = (ties n).length := by
     have := congrArg List.length (j07 n 0)
     rw [List.length_map] at this
     exact this
    have h2 := congrArg List.length hsp
    rw [List.length_append, List.length_cons] at h2
    have := AN6.1
    omega
   refine j0l 2 nd_o2 ?_
   refine j2f ?_
   rw [if_pos rfl]
   refine ein_emit (ev_v 2 ⟨ts.map V.ref, eD6, by rw [List.length_map]; exact j00 (by omega), ⟨_, rfl⟩, ts ++ [te], fun b o hb h => by rw [j0d hb]; exact kb b o hb h, by rw [j0b, List.map_append]; rfl, ?_⟩)
   rw [j1p hz, ← List.append_assoc]
   refine AN6.snoc (fun t p j h => by rw [j0d (j1q h eD6 fun z => nomatch z)]; exact h) ?_
   rw [j0d nte]
   show H'' te = some (Tn (nameAt n r) p)
   rw [j2t hi]
   exact ete
  ·rintro σ' H'' ⟨⟨v2, rfl⟩, ts, kb, eD6, AN6⟩
   refine ⟨⟨_, _, rfl⟩, ts, fun b o h => kb b o (j0f h hD) (s5 _ _ (sm _ _ h)), eD6, ?_⟩
   rw [List.length_map, l5, List.take_length, ← j16 hi] at AN6
   exact AN6
 ·rintro σ' H' ⟨_, ts, sm, eD, AN⟩
  rw [List.length_map, hal, List.take_length] at AN
  exact q D ts H' sm hD eD AN
end
section
variable {X : Cx} {H : Hp}
theorem eqs_tn {p p' : Str} {j j' : Int} : ∀ (i : Nat) (u v : V), [V.str p, .int j][i]? = some u → [V.str p', .int j'][i]? = some v → EqD X H 0 u v (if i = 0 then eqV (.str p) (.str p') else eqV (.int j) (.int j'))
 | 0, u, v, h1, h2 => by
  cases h1
  cases h2
  exact j27 rfl rfl
 | 1, u, v, h1, h2 => by
  cases h1
  cases h2
  exact j27 rfl rfl
 | i + 2, u, v, h1, h2 => by simp at h1
theorem dec_tn (p p' : Str) (j j' : Int) : (eqV (.str p) (.str p') && eqV (.int j) (.int j')) = decide (p = p' ∧ j = j') := by
 show ((p == p') && (j == j')) = _
 by_cases h : p = p' <;> by_cases h2 : j = j' <;> simp [h, h2]
theorem rnD_tn {s t : Addr} {p p' : Str} {j j' : Int} (hs : H s = some (Tn p j)) (ht : H t = some (Tn p' j')) : RnD X H 1 (.ref s) (.ref t) (decide (p = p' ∧ j = j')) := by
 have := rnD_tup (X := X) (k := 0) (fun i => if i = 0 then eqV (.str p) (.str p') else eqV (.int j) (.int j')) (SqT.of hs) (SqT.of ht) rfl eqs_tn
 rw [show ([V.str p, .int j].length) = 2 from rfl, all2] at this
 have e := dec_tn p p' j j'
 simp only [if_true] at this
 rw [if_neg (by decide), e] at this
 exact this
end
section
variable {P : Program} {w : World} {K : PySem.W.Frag} {mg : Str → Option Value} {base : Heap}
end
end V5
namespace L2
open PySem PySem.Spec PyProof.Rows SetT
section
variable {X : Cx} {σ : St} {H : Hp} {Q : VK}
end
section
variable {prog : Program} {w : World} {A : Around} {E : Value → Shared → Prop} {s : Shared}
theorem code_new0 {Q : Value → Shared → Prop} (k : Q (.ref s.heap.objs.size) { s with heap := s.heap.push (j1s w) }) : codeAny (model prog w) A (.call (.builtin "set.__new__") ⟨[.type "set"], []⟩) (wants Q E) s := by
 refine codeAny_of_tree ?_
 show wpAny _ A.in1 (checkBuiltinCall "set.__new__" ⟨[.type "set"], []⟩ >>= fun _ => again (.builtin "set.__new__" ⟨[.type "set"], []⟩)) _ _ s
 refine wpAny_bind (wpAny_of_eq PySem.F.newCall_set_0 (wpAny_pure ⟨plainId_quiet PySem.F.plain_set_new _, codeAny_builtin PySem.F.entry_set_new ?_⟩))
 rw [Around.under_plainId PySem.F.plain_set_new _]
 unfold Builtin.«set.__new__» Builtin.Frozenset.newClass
 dsimp only
 refine wpAny_bind (wpAny_bind (wpAny_of_eq (show isType (.type "set") = pure true from rfl) (wpAny_pure ?_)))
 simp only [Bool.not_true, Bool.false_eq_true, if_false]
 unfold newSet
 refine wpAny_bind (wpAny_bind (wp_text ?_))
 dsimp only
 simp only [newObj]
 exact wpAny_bind (wpAny_alloc (wpAny_pure (wpAny_pure k)))
theorem call_set0 {Q : Value → Shared → Prop} (k : Q (.ref s.heap.objs.size) { s with heap := s.heap.push (j1s w) }) : wpAny (model prog w) A (call (.type "set") []) Q E s := by
 obtain ⟨c, tl, hmro⟩ := PySem.F.called_set.mro
 have hmade := PySem.F.called_set.made
 have hsub := PySem.F.called_set.sub
 refine wpAny_call (codeAny_of_tree ?_)
 show wpAny _ _ (callAny (.type "set") _) _ _ _
 refine wpAny_pure ⟨Code.quiet_builtin _ (by decide +kernel), codeAny_builtin PySem.F.entry_type_call ?_⟩
 rw [Around.under_plain (weight_type_call_type "set" [] []) rfl]
 have h1 := PySem.F.called_set.notType
 have h2 := PySem.F.called_set.canCreate
 have h3 := PySem.F.typeCall_set_0
 repeat (any_goals (first | assumption | wp_step))
 refine codeAny_mono (code_new0 (E := E) (Q := fun v u => v = .ref s.heap.objs.size ∧ u = { s with heap := s.heap.push (j1s w) }) ⟨rfl, rfl⟩) fun r u hr => ?_
 cases r with
 | error e => exact hr
 | ok fl =>
  cases fl with
  | ret v =>
   obtain ⟨rfl, rfl⟩ := hr
   have hT : Shared.TypeIs { s with heap := s.heap.push (j1s w) } (.ref s.heap.objs.size) "set" := ⟨_, Heap.get?_push_size _ rfl, rfl⟩
   have hli := PySem.F.called_set.init.lookup
   have hbi := PySem.F.called_set.init.bind (.ref s.heap.objs.size)
   repeat (any_goals (first | assumption | wp_step))
   refine codeAny_mono (codeAny_call_builtin (R := wants (fun r u => r = .none ∧ Q (.ref s.heap.objs.size) u) E) PySem.F.called_set.init.plain PySem.F.entry_set_init (check_set_init hT ?_)) fun r2 u2 hr2 => ?_
   ·unfold Builtin.«set.__init__» noKeywords
    wp_walk
    exact ⟨rfl, k⟩
   ·cases r2 with
    | error e => exact hr2
    | ok f2 =>
     cases f2 with
     | ret r =>
      obtain ⟨rfl, hq⟩ := hr2
      repeat (any_goals (first | assumption | wp_step))
     | _ => exact hr2.elim
  | _ => exact hr.elim
end
section
variable {X : Cx} {σ : St} {H : Hp} {Q : VK}
end
end L2
namespace Nt
open PySem L2
noncomputable def rnd (c : Int) (n : Net) (e : End) : End := (e.1, (((e.2 : Int) + c) % ((row n e.1).length : Int)).toNat)
theorem rnd_int {c : Int} {n : Net} {e : End} (h : e ∈ ends n) : (((rnd c n e).2 : Nat) : Int) = ((e.2 : Int) + c) % ((row n e.1).length : Int) := by
 obtain ⟨z, hz⟩ := mem_ends.mp h
 have := end_lt hz
 exact Int.toNat_of_nonneg (Int.emod_nonneg _ (by omega))
theorem left_rnd {n : Net} {e : End} (h : e ∈ ends n) : left n e = rnd 1 n e := by
 have h2 := rnd_int (c := 1) h
 refine Prod.ext rfl ?_
 show (e.2 + 1) % (row n e.1).length = (rnd 1 n e).2
 have : (((e.2 + 1) % (row n e.1).length : Nat) : Int) = ((e.2 : Int) + 1) % ((row n e.1).length : Int) := by simp
 omega
noncomputable def go (c : Int) (n : Net) (e : End) : End := rnd c n (other n e)
theorem step_go {n : Net} (T : j1g n) {e : End} (h : e ∈ ends n) : step n e = go 1 n e := left_rnd (j2i T h)
end Nt
namespace V5
open PySem L2 Nt Sort2
theorem valV_atG {κ : Type} [DecidableEq κ] : ∀ {kvs : List (κ × V)} {i : Nat} {p : κ × V}, (kvs.map (·.1)).Nodup → kvs[i]? = some p → valV kvs p.1 = some p.2
 | [], _, _, _, h => by simp at h
 | q :: r, 0, p, _, h => by
  cases h
  exact j1a rfl
 | q :: r, i + 1, p, hn, h => by
  rw [List.map_cons, List.nodup_cons] at hn
  have hm : r[i]? = some p := by simpa using h
  rw [j04 fun e => hn.1 (by rw [e]; exact List.mem_map.mpr ⟨p, List.mem_of_getElem? hm, rfl⟩)]
  exact valV_atG hn.2 hm
theorem nd_idx {κ : Type} {l : List κ} (h : l.Nodup) {i j : Nat} {a : κ} (hi : l[i]? = some a) (hj : l[j]? = some a) : i = j := by
 have h1 := (List.getElem?_eq_some_iff.mp hi).1
 have h2 := (List.getElem?_eq_some_iff.mp hj).1
 have e1 := (List.getElem?_eq_some_iff.mp hi).2
 have e2 := (List.getElem?_eq_some_iff.mp hj).2
 rcases Nat.lt_trichotomy i j with c | c | c
 ·exact absurd (e1.trans e2.symm) (List.pairwise_iff_getElem.mp h i j h1 h2 c)
 ·exact c
 ·exact absurd (e2.trans e1.symm) (List.pairwise_iff_getElem.mp h j i h2 h1 c)
noncomputable def spLS (c : Int) : Sp := fun vs H Q _ => ∃ (R : Addr) (as : List (Addr × Addr)) (n : Net), vs = [.ref R] ∧ RowsAt H R as n ∧ (n.map (·.1)).Nodup ∧ j1g n ∧ n.length ≤ 1000 ∧ (ties n).length ≤ 1000 ∧
 ∀ (d : Addr) (kvs : List (List Key × V)) (H' : Hp), Same H H' → H d = none → H' d = some (.dT kvs) → (∀ e ∈ ends n, ∃ u, valV kvs (key n e) = some (.ref u) ∧ H' u = some (TN n (go c n e))) → Q (.ref d) H'
section
variable {P : Program} {w : World} {K : PySem.W.Frag} {mg : Str → Option Value} {base : Heap}
noncomputable abbrev NLs1 : List Str := ["rows", "lists"]
noncomputable abbrev NLs2 : List Str := ["rows", "lists", "end", "other"]
theorem nd_ls2 : NLs2.Nodup := by decide +kernel
theorem scLS : FnScope NLs1 ["rows"] (j0c sLS) := ⟨rfl, rfl, rfl, by decide +kernel, rfl, by decide +kernel, by decide +kernel⟩
theorem ok_LS {f : Addr} {fd : FuncData} (F : Fun K "left_steps" "left_steps" sLS f fd) (T : Txt mg)
  (GO : Has P w K mg base 2 "other_ends" ["rows"] spOE)
  (GT : Has P w K mg base 2 "turned_left" ["end", "many"] (spTL fun j => j + 1)) :
  FnOk P w K mg base CX0 3 f fd ["rows"] (spLS (1)) := by
 refine F.gb scLS (fun vs H Q E h => ?_) (fun b0 H vs Q E hr h => ?_)
 ·obtain ⟨R, as, n, rfl, _⟩ := h
  rfl
 obtain ⟨R, as, n, rfl, hR, hN, hT, hn, ht, q⟩ := h
 have nd := scLS.nd
 have hal := hR.len
 have hu := hr.u1
 let X : Cx := cxB NLs1 "left_steps" (j0c sLS) P w K mg base b0
 show Run X _ _ [some (.ref R), none] H
 have keys := rowKvs_keys n as hal
 have knd : ((j2d n as).map (·.1)).Nodup := by rw [keys]; exact nodup_inr hN
 have klen : (j2d n as).length = n.length := by have := congrArg List.length keys; simpa using this
 refine j0k 1 nd (ev_typ (call_dict_list rfl) T.tdict PyProof.Rows.boot_dict (j0a (ev_v 0 (j0e ⟨R, as.map (·.1), j2d n as, rfl, ?_, ?_, ?_, ?_, fun dl hdl => ?_⟩))))
 ·rw [List.map_map]
  exact hR.lst
 ·rw [List.length_map, klen, hal]
 ·rw [List.length_map]
  exact j00 (by omega)
 ·intro j t kv h1 h2
  rw [List.getElem?_map, Option.map_eq_some_iff] at h1
  obtain ⟨a, ea, rfl⟩ := h1
  have hj : j < n.length := by have := (List.getElem?_eq_some_iff.mp ea).1; omega
  have e := rowKvs_at (List.getElem?_eq_getElem hj) ea
  rw [h2] at e
  cases e
  exact (hR.tup j a n[j] ea (List.getElem?_eq_getElem hj)).1
 have ef : (j2d n as).foldl (fun a p => putK a p.1 p.2) [] = j2d n as := by
  rw [fold_new (acc := []) (by rw [List.nil_append]; exact knd), List.nil_append]
 rw [ef]
 have s1 := j0g hdl (.dK (j2d n as))
 have el : (upd H dl (.dK (j2d n as))) dl = some (.dK (j2d n as)) := j0b
 generalize upd H dl (.dK (j2d n as)) = H1 at s1 el
 show Run _ _ _ [some (.ref R), some (.ref dl)] H1
 refine j0p (ev_compDT (j0c sLS) NLs1 NLs2 2 (pi_items j0y) ?_)
 refine j0v GO hr (j0a (ev_v 0 (j0e ⟨R, as, n, rfl, hR.same s1, hN, hT, hn, ht, fun d kvs H2 s2 nd2 ed val knd2 kks klen2 => ?_⟩)))
 refine ⟨d, kvs, rfl, ed, fun o D hD cl C s₀ H₀ ex => ?_⟩
 have nDd : D ≠ d := fun e => by rw [e, j0b] at hD; cases hD
 have hD2 : H2 D = none := by rw [j0d nDd] at hD; exact hD
 have hd0 : H d = none := j06 s1 nd2
 have sB : Same H (upd H2 d (.frz o (.dT kvs))) := j02 (s1.trans s2) hd0
 have kB : ∀ b o', b ≠ d → H2 b = some o' → (upd H2 d (.frz o (.dT kvs))) b = some o' := fun b o' hb h => by rw [j0d hb]; exact h
 have tB : ∀ b p j, H2 b = some (Tn p j) → (upd H2 d (.frz o (.dT kvs))) b = some (Tn p j) := fun b p j h => kB b _ (j2c h ed) h
 have edB : (upd H2 d (.frz o (.dT kvs))) d = some (.frz o (.dT kvs)) := j0b
 have elB : (upd H2 d (.frz o (.dT kvs))) dl = some (.dK (j2d n as)) := kB _ _ (fun e => by rw [e, nd2] at el; cases el) (s2 _ _ el)
 have hRB := hR.same sB
 generalize upd H2 d (.frz o (.dT kvs)) = HB at hD sB tB edB elB hRB
 have hD0 := j06 sB hD
 refine clause_itemsP (fun i σ' H' => (∃ v1 v2, σ' = [some (.ref R), some (.ref dl)] ++ [v1, v2]) ∧ ∃ kv2 : List (List Key × V), H' D = some (.dT kv2) ∧ kv2.length ≤ i ∧ Same HB H' ∧
  (∀ j k x e, j < i → kvs[j]? = some (k, x) → e ∈ ends n → k = key n e → ∃ u, valV kv2 (key n e) = some (.ref u) ∧ H' u = some (TN n (go (1) n e))))
  ⟨⟨none, none, rfl⟩, [], j0b, Nat.le_refl _, j0g hD _, fun j k x e h => absurd h (Nat.not_lt_zero _)⟩ ?_ ?_ ?_
 ·rintro i σ' H' _ ⟨_, _, _, _, sm, _⟩
  exact sm _ _ edB
 ·rintro i k x b Tt σ' H' hx ⟨⟨v1, v2, rfl⟩, kv2, eD, l2, sm, all⟩ hb hTt
  have hi : i < kvs.length := (List.getElem?_eq_some_iff.mp hx).1
  obtain ⟨e, he, rfl⟩ := kks k (List.mem_map.mpr ⟨_, List.mem_of_getElem? hx, rfl⟩)
  obtain ⟨u, hv, hu2⟩ := val e he
  have hx2 : valV kvs (key n e) = some x := valV_atG knd2 hx
  rw [hv] at hx2
  cases hx2
  have hob := j2i hT he
  obtain ⟨zo, hzo⟩ := mem_ends.mp hob
  have hrl := j1r hzo
  have hel := end_lt hzo
  have nmE : nameAt n (other n e).1 = n[(other n e).1].1 := j2t hrl
  have sT := j0g hTt (.tup [.ref b, .ref u])
  have huT := sT _ _ (sm _ _ (tB _ _ _ hu2))
  refine j2n rfl (SqT.of j0b) (j0l 2 nd_ls2 (j0l 3 nd_ls2 ?_))
  refine j2f ?_
  rw [if_pos rfl]
  have eai : as[(other n e).1]? = some (as[(other n e).1]'(by omega)) := List.getElem?_eq_getElem (by omega)
  have hni : n[(other n e).1]? = some n[(other n e).1] := List.getElem?_eq_getElem hrl
  have ev : valV (j2d n as) (Sum.inr (nameAt n (other n e).1)) = some (.ref (as[(other n e).1]'(by omega)).2) := by rw [nmE]; exact valV_at knd (rowKvs_at hni eai)
  have hrow := (hR.tup _ _ _ eai hni).2
  have erow : row n (other n e).1 = n[(other n e).1].2 := row_eq hrl
  refine ein_emitD hu (ev_v 2 (j0v GT hr (j0a (ev_v 3 (j0a (j0u j0n T.len boot_len (j0a (j21 hu (ev_v 1 (j09 j1h (ev_v 3 (j0h ⟨u, _, _, .str (nameAt n (other n e).1), rfl, rfl, SqT.of huT, rfl, ?_⟩))))))))))))
  refine ⟨dl, .ref (as[(other n e).1]'(by omega)).2, rfl, by rw [← ev]; exact DGet.k (k := Sum.inr (nameAt n (other n e).1)) (sT _ _ (sm _ _ elB)), j0e ⟨_, _, rfl, .inl (SqL.of (sT _ _ (sm _ _ (sB _ _ hrow)))), j0e ⟨u, _, _, _, rfl, huT, ?_, fun t2 H4 s4 et2 => ?_⟩⟩⟩
  ·rw [List.length_map, ← erow]
   omega
  rw [List.length_map, ← erow] at et2
  have et3 : H4 t2 = some (TN n (go (1) n e)) := by
   rw [et2]
   have := rnd_int (c := 1) hob
   show some (Tn _ _) = some (Tn _ (((go (1) n e).2 : Nat) : Int))
   unfold go
   rw [this]
   rfl
  have hb4 := s4 _ _ (sT _ _ hb)
  refine ⟨_, DPut.t (k := key n e) (s4 _ _ (sT _ _ eD)) hb4 (j00 (by omega)), ⟨_, _, rfl⟩, _, j0b, ?_, j02 ((sm.trans sT).trans s4) hD, fun j k' x' e' hj hx' he' hk' => ?_⟩
  ·have := j0w kv2 (key n e) (.ref t2)
   omega
  ·subst hk'
   by_cases hji : j = i
   ·subst hji
    rw [hx] at hx'
    have hke : key n e = key n e' := congrArg Prod.fst (Option.some.inj hx')
    obtain ⟨z1, hz1⟩ := mem_ends.mp he
    obtain ⟨z2, hz2⟩ := mem_ends.mp he'
    have := key_inj hN (j1r hz1) (j1r hz2) hke
    subst this
    exact ⟨t2, by rw [j0q, if_pos rfl], by rw [j0d (j2c et3 (s4 _ _ (sT _ _ eD)))]; exact et3⟩
   ·obtain ⟨u3, hu3, hu4⟩ := all j _ x' e' (by omega) hx' he' rfl
    refine ⟨u3, ?_, ?_⟩
    ·rw [j0q, if_neg, hu3]
     intro hk
     have h1 : (kvs.map (·.1))[j]? = some (key n e') := by rw [List.getElem?_map, hx']; rfl
     have h2 : (kvs.map (·.1))[i]? = some (key n e') := by rw [List.getElem?_map, hx, hk]; rfl
     exact hji (nd_idx knd2 h1 h2)
    ·have q4 := s4 _ _ (sT _ _ hu4)
     rw [j0d (j2c q4 (s4 _ _ (sT _ _ eD)))]
     exact q4
 ·rintro σ' H' ⟨_, kv2, eD, _, sm, all⟩
  refine q D kv2 H' (sB.trans sm) hD0 eD fun e he => ?_
  obtain ⟨u, hv, _⟩ := val e he
  obtain ⟨i, hi⟩ : ∃ i : Nat, (kvs.map (·.1))[i]? = some (key n e) := List.getElem?_of_mem (valV_in hv)
  rw [List.getElem?_map, Option.map_eq_some_iff] at hi
  obtain ⟨⟨k, x⟩, hx, hk⟩ := hi
  exact all i k x e (List.getElem?_eq_some_iff.mp hx).1 hx he hk
end
end V5
namespace Nt
open PySem L2
end Nt
namespace Nt
open PySem L2
structure PerF (n : Net) (e : End) (k : Nat) : Prop where
 pos : 0 < k
 back : it (step n) k e = e
 first : ∀ i, 0 < i → i < k → it (step n) i e ≠ e
theorem PerF.unique {n : Net} {e : End} {k l : Nat} (a : PerF n e k) (b : PerF n e l) : k = l := by
 rcases Nat.lt_trichotomy k l with h | h | h
 ·exact absurd a.back (b.first k a.pos h)
 ·exact h
 ·exact absurd b.back (a.first l b.pos h)
noncomputable def perF (n : Net) (e : End) : Nat := by classical exact if h : ∃ k, PerF n e k then h.choose else 0
theorem perF_eq {n : Net} {e : End} {k : Nat} (h : PerF n e k) : perF n e = k := by
 have hx : ∃ k, PerF n e k := ⟨k, h⟩
 unfold perF
 rw [dif_pos hx]
 exact hx.choose_spec.unique h
theorem perF_some {n : Net} (T : j1g n) {e : End} (h : e ∈ ends n) : ∃ k, PerF n e k ∧ k ≤ (ends n).length := by
 obtain ⟨k, k0, k1, k2⟩ := comes_back (f := step n) (S := ends n) (fun a ha => step_end T ha) (fun a ha b hb => step_inj T ha hb) h
 have aux : ∀ m, ∀ k, k ≤ m → 0 < k → it (step n) k e = e → ∃ j, j ≤ k ∧ PerF n e j := by
  intro m
  induction m with
  | zero => intro k h1 h2; omega
  | succ m ih =>
   intro k h1 h2 h3
   by_cases c : ∃ i, 0 < i ∧ i < k ∧ it (step n) i e = e
   ·obtain ⟨i, i1, i2, i3⟩ := c
    obtain ⟨j, j1, j2⟩ := ih i (by omega) i1 i3
    exact ⟨j, by omega, j2⟩
   ·exact ⟨k, Nat.le_refl _, h2, h3, fun i i1 i2 i3 => c ⟨i, i1, i2, i3⟩⟩
 obtain ⟨j, j1, j2⟩ := aux k k (Nat.le_refl _) k0 k2
 exact ⟨j, j2, by omega⟩
noncomputable def fl (n : Net) (e : End) (k : Nat) : List End := (List.range k).map fun i => it (step n) i e
theorem fl_succ (n : Net) (e : End) (k : Nat) : fl n e (k + 1) = fl n e k ++ [it (step n) k e] := by
 unfold fl
 rw [List.range_succ, List.map_append]
 rfl
theorem fl_len (n : Net) (e : End) (k : Nat) : (fl n e k).length = k := by unfold fl; simp
theorem fl_at (n : Net) (e : End) {k i : Nat} (h : i < k) : (fl n e k)[i]? = some (it (step n) i e) := by
 unfold fl
 rw [List.getElem?_map, List.getElem?_range h]
 rfl
noncomputable def face (n : Net) (e : End) : List End := fl n e (perF n e)
theorem perF_face {n : Net} {e : End} {k : Nat} (p : PerF n e k) (hk : k ≤ (ends n).length) : IsFace n e (fl n e k) :=
 ⟨by rw [fl_len]; exact p.pos, by rw [fl_len]; exact hk, fun i hi => fl_at n e (by rw [fl_len] at hi; exact hi), by rw [fl_len]; exact p.back, by rw [fl_len]; exact p.first⟩
theorem face_ok {n : Net} (T : j1g n) {e : End} (h : e ∈ ends n) : IsFace n e (face n e) := by
 obtain ⟨k, p, hk⟩ := perF_some T h
 unfold face
 rw [perF_eq p]
 exact perF_face p hk
theorem IsFace.eq {n : Net} {e : End} {fs : List End} (f : IsFace n e fs) : fs = face n e := by
 have p : PerF n e fs.length := ⟨f.pos, f.back, f.first⟩
 unfold face
 rw [perF_eq p]
 apply List.ext_getElem?
 intro i
 by_cases h : i < fs.length
 ·rw [f.at' i h, fl_at n e h]
 ·rw [List.getElem?_eq_none (by omega), List.getElem?_eq_none (by rw [fl_len]; omega)]
theorem face_ends {n : Net} (T : j1g n) {e : End} (h : e ∈ ends n) : ∀ c ∈ face n e, c ∈ ends n := (face_ok T h).ends T h
noncomputable def fcs (n : Net) : List End → List End → List (List End)
 | [], _ => []
 | e :: r, told => if e ∈ told then fcs n r told else face n e :: fcs n r (told ++ face n e)
noncomputable def fac (n : Net) : List (List End) := if ends n = [] then [[]] else fcs n (ends n) []
end Nt
namespace Sort3
open PySem PySem.W PyProof.Rows
section
variable {lt : Nat → Nat → Bool} {cmp : Nat → Nat → (Bool → Shared → Prop) → Shared → Prop} {J : Shared → Prop} {n : Nat}
structure Asks (lt : Nat → Nat → Bool) (cmp : Nat → Nat → (Bool → Shared → Prop) → Shared → Prop) (J : Shared → Prop) (n : Nat) : Prop where
 ask : ∀ (i j : Nat) (C : Bool → Shared → Prop) (s : Shared), i < n → j < n → i ≠ j → J s → (∀ s', J s' → C (lt i j) s') → cmp i j C s
 tot : ∀ i j, i < n → j < n → i ≠ j → lt i j = true ∨ lt j i = true
 asy : ∀ i j, lt i j = true → lt j i = false
 tra : ∀ i j k, lt i j = true → lt j k = true → lt i k = true
noncomputable def g (p : Array Nat) (i : Nat) : Nat := p.getD i 0
structure Pm (p : Array Nat) (n : Nat) : Prop where
 size : p.size = n
 lt : ∀ i, i < n → g p i < n
 inj : ∀ i j, i < n → j < n → g p i = g p j → i = j
theorem g_eq {p : Array Nat} {i : Nat} {v : Nat} (h : p[i]? = some v) : g p i = v := by
 unfold g
 rw [Array.getD_eq_getD_getElem?, h]
 rfl
theorem g_of {p q : Array Nat} {i j : Nat} (h : p[i]? = q[j]?) : g p i = g q j := by
 unfold g
 rw [Array.getD_eq_getD_getElem?, Array.getD_eq_getD_getElem?, h]
theorem pm_range (n : Nat) : Pm (List.toArray (List.range n)) n := by
 have e : ∀ i, i < n → g (List.toArray (List.range n)) i = i := fun i hi => g_eq (by simp [hi])
 exact ⟨by simp, fun i hi => by rw [e i hi]; exact hi, fun i j hi hj h => by rw [e i hi, e j hj] at h; exact h⟩
noncomputable def Up (lt : Nat → Nat → Bool) (p : Array Nat) (m : Nat) : Prop := ∀ i j, i < j → j < m → lt (g p i) (g p j) = true
noncomputable def Dn (lt : Nat → Nat → Bool) (p : Array Nat) (m : Nat) : Prop := ∀ i j, i < j → j < m → lt (g p j) (g p i) = true
theorem up_one (p : Array Nat) : Up lt p 1 := fun i j h1 h2 => by omega
theorem up_succ (A : Asks lt cmp J n) {p : Array Nat} {m : Nat} (h1 : 1 ≤ m) (h : Up lt p m) (hm : lt (g p (m - 1)) (g p m) = true) : Up lt p (m + 1) := fun i j hi hj => by
 by_cases c : j < m
 ·exact h i j hi c
 ·have : j = m := by omega
  subst this
  by_cases d : i = j - 1
  ·rw [d]
   exact hm
  ·exact A.tra _ _ _ (h i (j - 1) (by omega) (by omega)) hm
theorem dn_succ (A : Asks lt cmp J n) {p : Array Nat} {m : Nat} (h1 : 1 ≤ m) (h : Dn lt p m) (hm : lt (g p m) (g p (m - 1)) = true) : Dn lt p (m + 1) := fun i j hi hj => by
 by_cases c : j < m
 ·exact h i j hi c
 ·have : j = m := by omega
  subst this
  by_cases d : i = j - 1
  ·rw [d]
   exact hm
  ·exact A.tra _ _ _ hm (h i (j - 1) (by omega) (by omega))
theorem other_way (A : Asks lt cmp J n) {i j : Nat} (hi : i < n) (hj : j < n) (hne : i ≠ j) (h : lt i j = false) : lt j i = true := by
 rcases A.tot i j hi hj hne with q | q
 ·rw [h] at q
  cases q
 ·exact q
theorem asc_ok (A : Asks lt cmp J n) {p : Array Nat} (P : Pm p n) : ∀ (f m : Nat) (Q : Nat → Shared → Prop) (s : Shared), 1 ≤ m → m + f ≤ n → Up lt p m → J s →
  (∀ k s', J s' → m ≤ k → k ≤ m + f → Up lt p k → (k < m + f → lt (g p k) (g p (k - 1)) = true) → Q k s') → (kas_asc p f m).kasWp cmp Q s
 | 0, m, Q, s, h1, h2, hu, hJ, k => k m s hJ (Nat.le_refl _) (Nat.le_refl _) hu fun h => by omega
 | f + 1, m, Q, s, h1, h2, hu, hJ, k => by
  have hne : g p m ≠ g p (m - 1) := fun h => by have := P.inj m (m - 1) (by omega) (by omega) h; omega
  refine A.ask _ _ _ _ (P.lt m (by omega)) (P.lt (m - 1) (by omega)) hne hJ fun s' hJ' => ?_
  cases e : lt (p.getD m 0) (p.getD (m - 1) 0) with
  | true => exact k m s' hJ' (Nat.le_refl _) (by omega) hu fun _ => e
  | false =>
   have hup : Up lt p (m + 1) := up_succ A h1 hu (other_way A (P.lt m (by omega)) (P.lt (m - 1) (by omega)) hne e)
   exact asc_ok A P f (m + 1) Q s' (by omega) (by omega) hup hJ' fun k' s2 j2 a b c d => k k' s2 j2 (by omega) (by omega) c fun h => d (by omega)
theorem desc_ok (A : Asks lt cmp J n) {p : Array Nat} (P : Pm p n) : ∀ (f m : Nat) (Q : Array Nat × Nat × Nat → Shared → Prop) (s : Shared), 1 ≤ m → m + f ≤ n → Dn lt p m → J s →
  (∀ k s', J s' → m ≤ k → k ≤ m + f → Dn lt p k → Q (p, k, 0) s') → (kas_desc f p m 0).kasWp cmp Q s
 | 0, m, Q, s, h1, h2, hd, hJ, k => k m s hJ (Nat.le_refl _) (Nat.le_refl _) hd
 | f + 1, m, Q, s, h1, h2, hd, hJ, k => by
  have hne : g p m ≠ g p (m - 1) := fun h => by have := P.inj m (m - 1) (by omega) (by omega) h; omega
  refine A.ask _ _ _ _ (P.lt m (by omega)) (P.lt (m - 1) (by omega)) hne hJ fun s' hJ' => ?_
  cases e : lt (p.getD m 0) (p.getD (m - 1) 0) with
  | true =>
   show (if true = true then (if 0 > 0 then _ else kas_desc f p (m + 1) 0) else _ : KasT _).kasWp cmp Q s'
   rw [if_pos rfl, if_neg (by omega)]
   exact desc_ok A P f (m + 1) Q s' (by omega) (by omega) (dn_succ A h1 hd e) hJ' fun k' s2 j2 a b c => k k' s2 j2 (by omega) (by omega) c
  | false =>
   refine A.ask _ _ _ _ (P.lt (m - 1) (by omega)) (P.lt m (by omega)) (Ne.symm hne) hJ' fun s2 hJ2 => ?_
   have e2 : lt (p.getD (m - 1) 0) (p.getD m 0) = true := other_way A (P.lt m (by omega)) (P.lt (m - 1) (by omega)) hne e
   rw [e2]
   exact k m s2 hJ2 (Nat.le_refl _) (by omega) hd
theorem rev_at {p : Array Nat} {m k : Nat} (h : m ≤ p.size) : g (kas_rev p 0 m) k = if k < m then g p (m - 1 - k) else g p k := by
 have e := getElem?_mirror_all (xs := p) (i := 0) (j := m) h k
 by_cases c : k < m
 ·rw [if_pos c]
  rw [if_pos ⟨Nat.zero_le _, c⟩] at e
  refine g_of (e.trans ?_)
  congr 1
  omega
 ·rw [if_neg c]
  rw [if_neg (fun q => c q.2)] at e
  exact g_of e
theorem rev_pm {p : Array Nat} {m : Nat} (P : Pm p n) (h : m ≤ n) : Pm (kas_rev p 0 m) n := by
 have hs : m ≤ p.size := by rw [P.size]; exact h
 refine ⟨by rw [kas_rev_size]; exact P.size, fun i hi => ?_, fun i j hi hj q => ?_⟩
 ·rw [rev_at hs]
  split
  ·exact P.lt _ (by omega)
  ·exact P.lt _ hi
 ·rw [rev_at hs, rev_at hs] at q
  by_cases c : i < m <;> by_cases d : j < m
  ·rw [if_pos c, if_pos d] at q
   have := P.inj _ _ (by omega) (by omega) q
   omega
  ·rw [if_pos c, if_neg d] at q
   have := P.inj _ _ (by omega) hj q
   omega
  ·rw [if_neg c, if_pos d] at q
   have := P.inj _ _ hi (by omega) q
   omega
  ·rw [if_neg c, if_neg d] at q
   exact P.inj _ _ hi hj q
theorem rev_up {p : Array Nat} {m : Nat} (P : Pm p n) (h : m ≤ n) (hd : Dn lt p m) : Up lt (kas_rev p 0 m) m := fun i j hi hj => by
 have hs : m ≤ p.size := by rw [P.size]; exact h
 rw [rev_at hs, rev_at hs, if_pos (by omega), if_pos hj]
 exact hd (m - 1 - j) (m - 1 - i) (by omega) (by omega)
theorem tail3_ok (A : Asks lt cmp J n) {p : Array Nat} (P : Pm p n) {m : Nat} {Q : Nat × Array Nat → Shared → Prop} {s : Shared} (h1 : 1 ≤ m) (h2 : m ≤ n) (hd : Dn lt p m) (hJ : J s)
  (k : ∀ r q s', J s' → 1 ≤ r → r ≤ n → Pm q n → Up lt q r → Q (r, q) s') : (kas_tail3 m n p).kasWp cmp Q s := by
 unfold kas_tail3
 rw [KasT.kasWp_bind]
 exact asc_ok A (rev_pm P h2) (n - m) m _ s h1 (by omega) (rev_up P h2 hd) hJ fun r s' j a b c _ => k r _ s' j (by omega) (by omega) (rev_pm P h2) c
theorem count_ok (A : Asks lt cmp J n) {p : Array Nat} (P : Pm p n) {Q : Nat × Array Nat → Shared → Prop} {s : Shared} (h2 : 2 ≤ n) (hJ : J s)
  (k : ∀ r q s', J s' → 1 ≤ r → r ≤ n → Pm q n → Up lt q r → Q (r, q) s') : (kas_count n p).kasWp cmp Q s := by
 unfold kas_count
 rw [KasT.kasWp_bind]
 refine asc_ok A P (n - 1) 1 _ s (Nat.le_refl _) (by omega) (up_one p) hJ fun m s' hJ' m1 m2 hu hlast => ?_
 by_cases c : m = n
 ·subst c
  rw [if_pos (by simp)]
  exact k m p s' hJ' m1 (Nat.le_refl _) P hu
 ·rw [if_neg (by simpa using c)]
  by_cases d : m > 1
  ·rw [if_pos d]
   have hne : g p 0 ≠ g p (m - 1) := fun h => by have := P.inj 0 (m - 1) (by omega) (by omega) h; omega
   refine A.ask _ _ _ _ (P.lt 0 (by omega)) (P.lt (m - 1) (by omega)) hne hJ' fun s2 hJ2 => ?_
   have e : lt (p.getD 0 0) (p.getD (m - 1) 0) = true := hu 0 (m - 1) (by omega) (by omega)
   rw [e]
   exact k m p s2 hJ2 m1 (by omega) P hu
  ·rw [if_neg d]
   have em : m = 1 := by omega
   subst em
   unfold kas_descPart
   rw [KasT.kasWp_bind]
   have hl := hlast (by omega)
   have hd2 : Dn lt p 2 := fun i j hi hj => by
    have : i = 0 ∧ j = 1 := by omega
    rw [this.1, this.2]
    exact hl
   refine desc_ok A P (n - (1 + 1)) (1 + 1) _ s' (by omega) (by omega) hd2 hJ' fun r s2 hJ2 r1 r2 hd => ?_
   show (if (0 : Nat) > 0 then _ else kas_tail3 r n p : KasT _).kasWp cmp Q s2
   rw [if_neg (by omega)]
   exact tail3_ok A P (by omega) (by omega) hd hJ2 k
theorem place_ok (A : Asks lt cmp J n) {p : Array Nat} (P : Pm p n) {k : Nat} (hk : k < n) (hu : Up lt p k) : ∀ (f l r : Nat) (Q : Nat → Shared → Prop) (s : Shared), r ≤ k → l ≤ r → r - l ≤ f → J s → (∀ i, i < l → lt (g p i) (g p k) = true) → (∀ i, r ≤ i → i < k → lt (g p k) (g p i) = true) →
  (∀ m s', J s' → m ≤ k → (∀ i, i < m → lt (g p i) (g p k) = true) → (∀ i, m ≤ i → i < k → lt (g p k) (g p i) = true) → Q m s') → (kas_place p k f l r).kasWp cmp Q s
 | 0, l, r, Q, s, h1, h2, h3, hJ, ha, hb, q => q l s hJ (by omega) ha fun i hi => hb i (by omega)
 | f + 1, l, r, Q, s, h1, h2, h3, hJ, ha, hb, q => by
  unfold kas_place
  by_cases c : l ≥ r
  ·rw [if_pos c]
   exact q l s hJ (by omega) ha fun i hi => hb i (by omega)
  ·rw [if_neg c]
   have hmk : (l + r) / 2 < k := by omega
   have hne : g p k ≠ g p ((l + r) / 2) := fun h => by have := P.inj k _ hk (by omega) h; omega
   refine A.ask _ _ _ _ (P.lt k hk) (P.lt _ (by omega)) hne hJ fun s' hJ' => ?_
   cases e : lt (p.getD k 0) (p.getD ((l + r) / 2) 0) with
   | true =>
    show (kas_place p k f l ((l + r) / 2)).kasWp cmp Q s'
    refine place_ok A P hk hu f l ((l + r) / 2) Q s' (by omega) (by omega) (by omega) hJ' ha (fun i hi hik => ?_) q
    by_cases d : i = (l + r) / 2
    ·rw [d]
     exact e
    ·exact A.tra _ _ _ e (hu _ _ (by omega) hik)
   | false =>
    show (kas_place p k f ((l + r) / 2 + 1) r).kasWp cmp Q s'
    have e2 := other_way A (P.lt k hk) (P.lt _ (by omega)) hne e
    refine place_ok A P hk hu f ((l + r) / 2 + 1) r Q s' h1 (by omega) (by omega) hJ' (fun i hi => ?_) hb q
    by_cases d : i = (l + r) / 2
    ·rw [d]
     exact e2
    ·exact A.tra _ _ _ (hu _ _ (by omega) hmk) e2
theorem bub_at {p : Array Nat} {k m i : Nat} (hk : k < p.size) (hm : m ≤ k) : g (bubble p k (k - m)) i = if i = m then g p k else if m < i ∧ i ≤ k then g p (i - 1) else g p i := by
 have e := getElem?_bubble (xs := p) hk (k - m) (by omega) i
 rw [show k - (k - m) = m by omega] at e
 by_cases c : i = m
 ·rw [if_pos c]
  rw [if_pos c] at e
  exact g_of e
 ·rw [if_neg c]
  rw [if_neg c] at e
  by_cases d : m < i ∧ i ≤ k
  ·rw [if_pos d]
   rw [if_pos d] at e
   exact g_of e
  ·rw [if_neg d]
   rw [if_neg d] at e
   exact g_of e
theorem bub_pm {p : Array Nat} {k m : Nat} (P : Pm p n) (hk : k < n) (hm : m ≤ k) : Pm (bubble p k (k - m)) n := by
 have hs : k < p.size := by rw [P.size]; exact hk
 refine ⟨by rw [bubble_size]; exact P.size, fun i hi => ?_, fun i j hi hj q => ?_⟩
 ·rw [bub_at hs hm]
  split
  ·exact P.lt k hk
  ·split
   ·exact P.lt _ (by omega)
   ·exact P.lt _ hi
 ·rw [bub_at hs hm, bub_at hs hm] at q
  have src : ∀ a, a < n → ∃ b, b < n ∧ (if a = m then g p k else if m < a ∧ a ≤ k then g p (a - 1) else g p a) = g p b ∧ ((a = m ∧ b = k) ∨ (a ≠ m ∧ (m < a ∧ a ≤ k) ∧ b = a - 1) ∨ (a ≠ m ∧ ¬ (m < a ∧ a ≤ k) ∧ b = a)) := fun a ha => by
   by_cases c : a = m
   ·exact ⟨k, hk, by rw [if_pos c], .inl ⟨c, rfl⟩⟩
   ·by_cases d : m < a ∧ a ≤ k
    ·exact ⟨a - 1, by omega, by rw [if_neg c, if_pos d], .inr (.inl ⟨c, d, rfl⟩)⟩
    ·exact ⟨a, ha, by rw [if_neg c, if_neg d], .inr (.inr ⟨c, d, rfl⟩)⟩
  obtain ⟨x, x1, x2, x3⟩ := src i hi
  obtain ⟨y, y1, y2, y3⟩ := src j hj
  rw [x2, y2] at q
  have e := P.inj x y x1 y1 q
  subst e
  rcases x3 with ⟨a1, a2⟩ | ⟨a1, a2, a3⟩ | ⟨a1, a2, a3⟩
  ·rcases y3 with ⟨b1, b2⟩ | ⟨b1, b2, b3⟩ | ⟨b1, b2, b3⟩
   ·exact a1.trans b1.symm
   ·exact absurd (a2.symm.trans b3) (Nat.ne_of_gt (Nat.lt_of_lt_of_le (Nat.sub_lt (Nat.zero_lt_of_lt b2.1) Nat.one_pos) b2.2))
   ·exact absurd ⟨Nat.lt_of_le_of_ne (by rw [← b3, a2]; exact hm) (Ne.symm b1), by rw [← b3, a2]; exact Nat.le_refl _⟩ b2
  ·rcases y3 with ⟨b1, b2⟩ | ⟨b1, b2, b3⟩ | ⟨b1, b2, b3⟩
   ·exact absurd (b2.symm.trans a3) (Nat.ne_of_gt (Nat.lt_of_lt_of_le (Nat.sub_lt (Nat.zero_lt_of_lt a2.1) Nat.one_pos) a2.2))
   ·exact Nat.sub_one_cancel (Nat.zero_lt_of_lt a2.1) (Nat.zero_lt_of_lt b2.1) (a3.symm.trans b3)
   ·exact absurd ⟨Nat.lt_of_le_of_ne (by rw [← b3, a3]; exact Nat.le_sub_one_of_lt a2.1) (Ne.symm b1), by rw [← b3, a3]; exact Nat.le_trans (Nat.sub_le _ _) a2.2⟩ b2
  ·rcases y3 with ⟨b1, b2⟩ | ⟨b1, b2, b3⟩ | ⟨b1, b2, b3⟩
   ·exact absurd ⟨Nat.lt_of_le_of_ne (by rw [← a3, b2]; exact hm) (Ne.symm a1), by rw [← a3, b2]; exact Nat.le_refl _⟩ a2
   ·exact absurd ⟨Nat.lt_of_le_of_ne (by rw [← a3, b3]; exact Nat.le_sub_one_of_lt b2.1) (Ne.symm a1), by rw [← a3, b3]; exact Nat.le_trans (Nat.sub_le _ _) b2.2⟩ a2
   ·exact a3.symm.trans b3
theorem bub_up {p : Array Nat} {k m : Nat} (P : Pm p n) (hk : k < n) (hm : m ≤ k) (hu : Up lt p k) (ha : ∀ i, i < m → lt (g p i) (g p k) = true) (hb : ∀ i, m ≤ i → i < k → lt (g p k) (g p i) = true) : Up lt (bubble p k (k - m)) (k + 1) := fun i j hi hj => by
 have hs : k < p.size := by rw [P.size]; exact hk
 rw [bub_at hs hm, bub_at hs hm]
 by_cases c : i = m
 ·rw [if_pos c, if_neg (by omega), if_pos (by omega)]
  exact hb _ (by omega) (by omega)
 ·rw [if_neg c]
  by_cases d : j = m
  ·rw [if_pos d, if_neg (by omega)]
   exact ha i (by omega)
  ·rw [if_neg d]
   by_cases e : m < i ∧ i ≤ k
   ·rw [if_pos e, if_pos (by omega)]
    exact hu _ _ (by omega) (by omega)
   ·rw [if_neg e]
    by_cases f : m < j ∧ j ≤ k
    ·rw [if_pos f]
     exact hu _ _ (by omega) (by omega)
    ·rw [if_neg f]
     exact hu _ _ hi (by omega)
theorem bin_ok (A : Asks lt cmp J n) : ∀ (f : Nat) (p : Array Nat) (k : Nat) (Q : Array Nat → Shared → Prop) (s : Shared), Pm p n → 1 ≤ k → k + f = n → Up lt p k → J s → (∀ q s', J s' → Pm q n → Up lt q n → Q q s') → (kas_bin f p k).kasWp cmp Q s
 | 0, p, k, Q, s, P, h1, h2, hu, hJ, q => by
  have : k = n := by omega
  subst this
  exact q p s hJ P hu
 | f + 1, p, k, Q, s, P, h1, h2, hu, hJ, q => by
  unfold kas_bin
  rw [KasT.kasWp_bind]
  refine place_ok A P (by omega) hu k 0 k _ s (Nat.le_refl _) (Nat.zero_le _) (by omega) hJ (fun i hi => by omega) (fun i hi hik => by omega) fun m s' hJ' hm ha hb => ?_
  exact bin_ok A f _ (k + 1) Q s' (bub_pm P (by omega) hm) (by omega) (by omega) (bub_up P (by omega) hm hu ha hb) hJ' q
theorem sort_ok (A : Asks lt cmp J n) {Q : Array Nat → Shared → Prop} {s : Shared} (h2 : 2 ≤ n) (hJ : J s) (q : ∀ p s', J s' → Pm p n → Up lt p n → Q p s') : (kas_sort n).kasWp cmp Q s := by
 unfold kas_sort
 rw [KasT.kasWp_bind]
 refine count_ok A (pm_range n) h2 hJ fun r p s' hJ' r1 r2 P hu => ?_
 show (if r < n then kas_bin (n - max r 1) p (max r 1) else .ret p : KasT _).kasWp cmp Q s'
 have em : max r 1 = r := by omega
 rw [em]
 by_cases c : r < n
 ·rw [if_pos c]
  exact bin_ok A (n - r) p r Q s' P r1 (by omega) hu hJ' q
 ·rw [if_neg c]
  have : r = n := by omega
  subst this
  exact q p s' hJ' P hu
end
end Sort3
namespace Sort3
open PySem PySem.W PyProof.Rows
theorem pm_nodup {p : Array Nat} {n : Nat} (P : Pm p n) : p.toList.Nodup := by
 rw [List.nodup_iff_pairwise_ne, List.pairwise_iff_getElem]
 intro i j hi hj hij e
 have hi' : i < n := by rw [Array.length_toList, P.size] at hi; exact hi
 have hj' : j < n := by rw [Array.length_toList, P.size] at hj; exact hj
 have e1 : g p i = p.toList[i] := g_eq (by rw [← Array.getElem?_toList]; exact List.getElem?_eq_getElem hi)
 have e2 : g p j = p.toList[j] := g_eq (by rw [← Array.getElem?_toList]; exact List.getElem?_eq_getElem hj)
 have := P.inj i j hi' hj' (by rw [e1, e2, e])
 omega
theorem pm_mem {p : Array Nat} {n v : Nat} (P : Pm p n) (h : v ∈ p.toList) : v < n := by
 obtain ⟨i, hi⟩ := List.getElem?_of_mem h
 have hl : i < n := by have := (List.getElem?_eq_some_iff.mp hi).1; rw [Array.length_toList, P.size] at this; exact this
 have e1 : g p i = v := g_eq (by rw [← Array.getElem?_toList]; exact hi)
 rw [← e1]
 exact P.lt i hl
theorem pm_perm {p : Array Nat} {n : Nat} (P : Pm p n) : p.toList.Perm (List.range n) := by
 rw [List.perm_ext_iff_of_nodup (pm_nodup P) List.nodup_range]
 intro v
 rw [List.mem_range]
 refine ⟨fun h => pm_mem P h, fun h => Classical.byContradiction fun hn => ?_⟩
 have l1 : p.toList.length ≤ ((List.range n).erase v).length := Nt.nodup_le (pm_nodup P) fun z hz => by
  have hne : z ≠ v := fun e => hn (e ▸ hz)
  exact (List.mem_erase_of_ne hne).mpr (List.mem_range.mpr (pm_mem P hz))
 rw [List.length_erase_of_mem (List.mem_range.mpr h), Array.length_toList, P.size, List.length_range] at l1
 omega
noncomputable def Hd (h : Heap) (v : Value) (z : Str) : Prop := ∃ a o xs n t, v = .ref a ∧ h.get? a = some o ∧ o.cls = .type "tuple" ∧ o.data = .seq xs n ∧ xs[0]? = some (.str z t)
theorem Hd.keep {h h' : Heap} {v : Value} {z : Str} (x : Hd h v z) (k : ∀ a o, v = .ref a → h.get? a = some o → h'.get? a = some o) : Hd h' v z := by
 obtain ⟨a, o, xs, n, t, e, h1, h2⟩ := x
 exact ⟨a, o, xs, n, t, e, k a o e h1, h2⟩
noncomputable def Hds (h : Heap) (vs : List Value) (zs : List Str) : Prop := vs.length = zs.length ∧ ∀ (i : Nat) v z, vs[i]? = some v → zs[i]? = some z → Hd h v z
noncomputable def ltZ (zs : List Str) (i j : Nat) : Bool := decide ((zs.getD i ⟨#[]⟩).cps.toList < (zs.getD j ⟨#[]⟩).cps.toList)
section
variable {prog : Program} {w : World} {A : Around} {E : Value → Shared → Prop} {s : Shared}
theorem hds_firsts : ∀ {h : Heap} {vs : List Value} {zs : List Str}, Hds h vs zs → ∃ fs, KatTups h vs fs ∧ fs.length = vs.length ∧ ∀ f ∈ fs, ∃ z t, f = Value.str z t
 | h, [], _, _ => ⟨[], KatTups.nil, rfl, fun f hf => by cases hf⟩
 | h, v :: vs, [], hh => by have := hh.1; simp at this
 | h, v :: vs, z :: zs, hh => by
  obtain ⟨fs, k1, k2, k3⟩ := hds_firsts (h := h) (vs := vs) (zs := zs) ⟨by have := hh.1; simpa using this, fun i a b h1 h2 => hh.2 (i + 1) a b (by simpa using h1) (by simpa using h2)⟩
  obtain ⟨a, o, xs, n, t, rfl, h1, h2, h3, h4⟩ := hh.2 0 v z rfl rfl
  refine ⟨.str z t :: fs, KatTups.cons h1 h2 h3 h4 k1, by rw [List.length_cons, List.length_cons, k2], fun f hf => ?_⟩
  rcases List.mem_cons.mp hf with rfl | hf
  ·exact ⟨z, t, rfl⟩
  ·exact k3 f hf
theorem lt_tup {x y : Value} {z u : Str} {Q : Bool → Shared → Prop} (hx : Hd s.heap x z) (hy : Hd s.heap y u) (hne : z ≠ u) (h : Q (decide (z.cps.toList < u.cps.toList)) s) : wpAny (model prog w) A (keyLt' (tuples' true) x y) Q E s := by
 obtain ⟨a, o, xs, n, t, rfl, h1, h2, h3, h4⟩ := hx
 obtain ⟨b, o', ys, n', t', rfl, g1, g2, g3, g4⟩ := hy
 refine kat_lt h1 h3 g1 g3 ?_
 have ex : ∃ r, xs.toList = .str z t :: r := by
  have : xs.toList[0]? = some (.str z t) := by rw [Array.getElem?_toList]; exact h4
  cases e : xs.toList with
  | nil => rw [e] at this; cases this
  | cons c r => rw [e] at this; cases this; exact ⟨r, rfl⟩
 have ey : ∃ r, ys.toList = .str u t' :: r := by
  have : ys.toList[0]? = some (.str u t') := by rw [Array.getElem?_toList]; exact g4
  cases e : ys.toList with
  | nil => rw [e] at this; cases this
  | cons c r => rw [e] at this; cases this; exact ⟨r, rfl⟩
 obtain ⟨rx, ex⟩ := ex
 obtain ⟨ry, ey⟩ := ey
 rw [ex, ey]
 show KatLex prog w A true _ Q ((.str z t, .str u t') :: rx.zip ry) 0 s
 refine kat_cons (eqBool_str ?_)
 have : (z == u) = false := beq_eq_false_iff_ne.mpr hne
 rw [this]
 exact kat_no (oneLt_str h)
theorem cps_inj {a b : Str} (h : a.cps.toList = b.cps.toList) : a = b := by
 apply Str.ext'
 exact Array.toList_inj.mp h
theorem asks_tup {vs : List Value} {zs : List Str} (hh : Hds s.heap vs zs) (hn : zs.Nodup) : Asks (ltZ zs) (kas_ask prog w A (tuples' true) vs) (fun s' => s' = s) vs.length := by
 have hl := hh.1
 have gz : ∀ i, (hi : i < zs.length) → zs.getD i ⟨#[]⟩ = zs[i] := fun i hi => by simp [hi]
 have gv : ∀ i, (hi : i < vs.length) → vs.getD i Value.none = vs[i] := fun i hi => by simp [hi]
 have ne : ∀ i j, (hi : i < zs.length) → (hj : j < zs.length) → i ≠ j → zs[i] ≠ zs[j] := fun i j hi hj hij e => by
  rcases Nat.lt_or_gt_of_ne hij with c | c
  ·exact List.pairwise_iff_getElem.mp (List.nodup_iff_pairwise_ne.mp hn) i j hi hj c e
  ·exact List.pairwise_iff_getElem.mp (List.nodup_iff_pairwise_ne.mp hn) j i hj hi c e.symm
 refine ⟨fun i j C s' hi hj hij hs hC => ?_, fun i j hi hj hij => ?_, fun i j h => ?_, fun i j k h1 h2 => ?_⟩
 ·subst hs
  unfold kas_ask
  rw [gv i hi, gv j hj]
  have e : ltZ zs i j = decide (zs[i].cps.toList < zs[j].cps.toList) := by unfold ltZ; rw [gz i (by omega), gz j (by omega)]
  refine lt_tup (hh.2 i _ zs[i] (List.getElem?_eq_getElem hi) (List.getElem?_eq_getElem (by omega))) (hh.2 j _ zs[j] (List.getElem?_eq_getElem hj) (List.getElem?_eq_getElem (by omega))) (ne i j (by omega) (by omega) hij) ?_
  rw [← e]
  exact hC s' rfl
 ·unfold ltZ
  rw [gz i (by omega), gz j (by omega), decide_eq_true_iff, decide_eq_true_iff]
  by_cases c : zs[i].cps.toList < zs[j].cps.toList
  ·exact .inl c
  ·by_cases d : zs[j].cps.toList < zs[i].cps.toList
   ·exact .inr d
   ·have : zs[i].cps.toList = zs[j].cps.toList := List.le_antisymm (List.not_lt.mp d) (List.not_lt.mp c)
    exact absurd (cps_inj this) (ne i j (by omega) (by omega) hij)
 ·unfold ltZ at h ⊢
  have := of_decide_eq_true h
  exact decide_eq_false fun q => List.lt_irrefl _ (List.lt_trans this q)
 ·unfold ltZ at h1 h2 ⊢
  exact decide_eq_true (List.lt_trans (of_decide_eq_true h1) (of_decide_eq_true h2))
theorem map_range (vs : List Value) : (List.range vs.length).map (fun i => vs.getD i Value.none) = vs := by
 apply List.ext_getElem
 ·simp
 ·intro i h1 h2
  simp [h2]
theorem wp_sortT {a : Addr} {vs : List Value} {zs : List Str} {n : Nat} {P : Fin → Shared → Prop} (ho : s.heap.get? a = some (seqObj "list" vs.toArray n)) (hal : ∀ v ∈ vs, v ≠ .ref a) (hh : Hds s.heap vs zs) (hn : zs.Nodup) (h64 : vs.length < 64)
  (h : ∀ p : Array Nat, Pm p vs.length → Up (ltZ zs) p vs.length → P (.done (.ret .none)) { s with heap := sortedHeap s.heap a vs (List.toArray (p.toList.map fun i => vs.getD i Value.none)) }) :
  wpAny (model prog w) A (Builtin.«list.sort» ⟨[.ref a], []⟩) P E s := by
 rw [list_sort_plain]
 have ha : a < s.heap.objs.size := Heap.lt_size ho
 have hsl : vs.length ≤ sizeLine := by rw [sizeLine_eq]; omega
 refine wpAny_bind (listItems_at ho rfl ?_)
 refine wpAny_bind (listUpdate_at ho rfl ?_)
 obtain ⟨e1, ho1⟩ : ∃ e1, (s.heap.update a (Obj.mapSeq fun _ => #[])).get? a = some (seqObj "list" #[] e1) := ⟨_, get?_update_seq ho (fun _ => #[])⟩
 refine wpAny_bind (seqEpoch_at ho1 rfl ?_)
 refine wpAny_bind (wpAny_newTuple ?_)
 refine wpAny_bind (wpAny_newList ?_)
 refine wpAny_holding ?_
 have ho6 : (((s.heap.update a (Obj.mapSeq fun _ => #[])).push (seqObj "tuple" vs.toArray 0)).push (seqObj "list" #[] 0)).get? a = some (seqObj "list" #[] e1) := Heap.get?_push_of_some _ (Heap.get?_push_of_some _ ho1)
 show wpAny (model prog w) A _ P E { s with heap := ((s.heap.update a (Obj.mapSeq fun _ => #[])).push (seqObj "tuple" vs.toArray 0)).push (seqObj "list" #[] 0) }
 have hh6 : Hds (((s.heap.update a (Obj.mapSeq fun _ => #[])).push (seqObj "tuple" vs.toArray 0)).push (seqObj "list" #[] 0)) vs zs := ⟨hh.1, fun i v z h1 h2 => (hh.2 i v z h1 h2).keep fun b o e q => by
  have hb : a ≠ b := fun e2 => hal v (List.mem_of_getElem? h1) (by rw [e, e2])
  exact Heap.get?_push_of_some _ (Heap.get?_push_of_some _ ((Heap.get?_update_other _ _ hb).trans q))⟩
 dsimp only
 have hsz : vs.toArray.size = vs.length := by simp
 by_cases h2 : vs.toArray.size < 2
 ·rw [if_pos h2, if_pos h2]
  refine wpAny_bind (wpAny_pure ?_)
  rw [StateT.run_pure]
  refine wpAny_bind (wpAny_pure ?_)
  dsimp only
  have e5 : (arrOf (SortSt.mk' general' (vs.toArray.zip vs.toArray) #[] 7 none)).map (·.2) = vs.toArray := by
   show (vs.toArray.zip vs.toArray).map (·.2) = _
   apply Array.toList_inj.mp
   simp [List.map_snd_zip]
  refine wpAny_bind (seqEpoch_at ho6 rfl ?_)
  refine wpAny_bind (listUpdate_at ho6 rfl ?_ (hsz2 := by rw [e5, hsz]; omega))
  simp only [bne_self_eq_false, Bool.false_eq_true, if_false]
  refine wpAny_pure ?_
  rw [e5]
  have fin := h (List.toArray (List.range vs.length)) (pm_range _) fun i j hi hj => by rw [hsz] at h2; omega
  have e6 : (List.toArray (List.range vs.length)).toList.map (fun i => vs.getD i Value.none) = vs := map_range vs
  rw [e6] at fin
  exact fin
 ·rw [if_neg h2, if_neg h2]
  obtain ⟨fs, k1, k2, k3⟩ := hds_firsts hh6
  rw [hsz] at h2
  refine wpAny_bind (kat_kind (T := .type "str") k1 (by omega) (fun f hf => ?_) (by decide) ?_)
  ·obtain ⟨z, t, rfl⟩ := k3 f hf
   exact Looks.of_pure rfl
  refine wpAny_bind (wpAny_mono (kat_run (prog := prog) (w := w) (A := A) (E := E) (κ := tuples' true) (ks := vs) (vs := vs) (Q := fun st' s' => s' = { s with heap := ((s.heap.update a (Obj.mapSeq fun _ => #[])).push (seqObj "tuple" vs.toArray 0)).push (seqObj "list" #[] 0) } ∧ ∃ p : Array Nat, Pm p vs.length ∧ Up (ltZ zs) p vs.length ∧ arrOf st' = p.map (kas_item (vs.toArray.zip vs.toArray)) ∧ failedOf st' = none)
   (G := fun p s' => s' = { s with heap := ((s.heap.update a (Obj.mapSeq fun _ => #[])).push (seqObj "tuple" vs.toArray 0)).push (seqObj "list" #[] 0) } ∧ Pm p vs.length ∧ Up (ltZ zs) p vs.length) rfl (by omega) h64 (fun p st' s' _ a2 a3 a4 => ⟨a4.1, p, a4.2.1, a4.2.2, a2, a3⟩)
   (sort_ok (asks_tup (s := { s with heap := ((s.heap.update a (Obj.mapSeq fun _ => #[])).push (seqObj "tuple" vs.toArray 0)).push (seqObj "list" #[] 0) }) hh6 hn) (by omega) rfl fun p s' e P U => ⟨e, P, U⟩)) ?_ fun _ _ e => e)
  rintro ⟨⟨⟩, st'⟩ s' ⟨rfl, p, P, U, har, hf⟩
  dsimp only
  have e3 := kat_snds (ks := vs) (vs := vs) rfl har
  refine wpAny_bind (seqEpoch_at ho6 rfl ?_)
  refine wpAny_bind (listUpdate_at ho6 rfl ?_ (hsz2 := by rw [e3, List.size_toArray, List.length_map, Array.length_toList, P.size]; omega))
  rw [hf]
  simp only [bne_self_eq_false, Bool.false_eq_true, if_false]
  refine wpAny_pure ?_
  rw [e3]
  exact h p P U
theorem sortedT {l : Addr} {vs : List Value} {zs : List Str} {Q : Value → Shared → Prop} (hl : s.heap.IsList l vs.toArray) (hh : Hds s.heap vs zs) (hn : zs.Nodup) (h64 : vs.length < 64)
  (h : ∀ (h' : Heap) (e : Nat) (p : Array Nat), Pm p vs.length → Up (ltZ zs) p vs.length → (∀ b u, s.heap.get? b = some u → h'.get? b = some u) → h'.get? (s.heap.objs.size + 1) = some (seqObj "list" (List.toArray (p.toList.map fun i => vs.getD i Value.none)) e) → Q (.ref (s.heap.objs.size + 1)) { s with heap := h' }) :
  wpAny (model prog w) A (call (.builtin "sorted") [.ref l]) Q E s := by
 have hsl : vs.length ≤ sizeLine := by rw [sizeLine_eq]; omega
 refine Calls.call_function_entry kind_sorted plain_sorted entry_sorted (args_sorted1 _) ?_
 unfold Builtin.«sorted»
 refine wpAny_bind (m := checkCount "sorted" 1 1 _) (wpAny_pure ?_)
 refine wpAny_bind (collect_list (vs := vs) hl ?_)
 refine wpAny_bind (wpAny_newList ?_)
 have hsz : ((s.heap.push (seqObj "list" #[] 0)).update s.heap.objs.size (Obj.mapSeq (· ++ vs.toArray))).objs.size = s.heap.objs.size + 1 := by
  rw [Heap.size_update, size_push']
 have hoL : (((s.heap.push (seqObj "list" #[] 0)).update s.heap.objs.size (Obj.mapSeq (· ++ vs.toArray))).push (seqObj "list" vs.toArray 0)).get? (s.heap.objs.size + 1) = some (seqObj "list" vs.toArray 0) := by
  rw [← hsz]; exact Heap.get?_push_size _ rfl
 have hhL : Hds (((s.heap.push (seqObj "list" #[] 0)).update s.heap.objs.size (Obj.mapSeq (· ++ vs.toArray))).push (seqObj "list" vs.toArray 0)) vs zs := ⟨hh.1, fun i v z h1 h2 => (hh.2 i v z h1 h2).keep fun b o e q =>
  Heap.get?_push_of_some _ ((Heap.get?_update_other _ _ (Nat.ne_of_gt (Heap.lt_size q))).trans (Heap.get?_push_of_some _ q))⟩
 have hne : ∀ v ∈ vs, v ≠ .ref (s.heap.objs.size + 1) := fun v hv e => by
  obtain ⟨i, hi⟩ := List.getElem?_of_mem hv
  have hl := hh.1
  have hiz : i < zs.length := by have := (List.getElem?_eq_some_iff.mp hi).1; omega
  obtain ⟨b, o, xs, n, t, e2, h1, _⟩ := hh.2 i v zs[i] hi (List.getElem?_eq_getElem hiz)
  rw [e2] at e
  cases e
  exact absurd (Nat.lt_of_succ_lt (Heap.lt_size h1)) (Nat.lt_irrefl _)
 show wpAny _ _ _ _ _ { s with heap := ((s.heap.push (seqObj "list" #[] 0)).update s.heap.objs.size (Obj.mapSeq (· ++ vs.toArray))).push (seqObj "list" vs.toArray 0) }
 rw [hsz]
 refine wpAny_bind (wpAny_holding (wpAny_call_entry slot_list_sort ⟨_, hoL, rfl⟩ entry_list_sort (wp_sortT hoL hne hhL hn h64 fun p P U => ⟨_, rfl, ?_⟩) (args_list_sort _)))
 obtain ⟨e, he⟩ := sortedAll_at s.heap vs (List.toArray (p.toList.map fun i => vs.getD i Value.none))
 exact wpAny_pure ⟨_, rfl, h _ e p P U (fun b u hb => sortedAll_old hb) he⟩
end
end Sort3
namespace L2
open PySem PySem.Spec PyProof.Rows Sort3
theorem vals_refs : ∀ {ts : List Addr} {its : List Value}, Vals (ts.map V.ref) its → its = ts.map Value.ref
 | [], its, r => r.zero
 | t :: ts, its, r => by
  cases r with
  | cons h1 h2 =>
   rw [vals_refs h2]
   have : _ = Value.ref t := h1
   rw [this]
   rfl
theorem refs_vals : ∀ (ts : List Addr), Vals (ts.map V.ref) (ts.map Value.ref)
 | [] => .nil
 | t :: ts => .cons rfl (refs_vals ts)
theorem zip_range {α β : Type} (xs : List α) (ys : List β) (h : xs.length = ys.length) (a : α) (b : β) : (List.range xs.length).map (fun i => (xs.getD i a, ys.getD i b)) = xs.zip ys := by
 apply List.ext_getElem
 ·simp [h]
 ·intro i h1 h2
  have hx : i < xs.length := by simp at h1; exact h1
  have hy : i < ys.length := by omega
  simp [hx, hy]
section
variable {X : Cx} {σ : St} {H : Hp}
theorem call_sortedT : j2k X (.builtin "sorted") (fun xs H Q => ∃ (l : Addr) (ts : List Addr) (zs : List Str), xs = [.ref l] ∧ SqL X.K H l (ts.map V.ref) ∧ ts.length = zs.length ∧ zs.Nodup ∧ ts.length < 64 ∧ (∀ (i : Nat) t z, ts[i]? = some t → zs[i]? = some z → ∃ r, H t = some (.tup (.str z :: r))) ∧
  ∀ (r : Addr) (ps : List (Addr × Str)), H r = none → ps.Perm (ts.zip zs) → ps.Pairwise (fun a b => a.2.cps.toList < b.2.cps.toList) → Q (.ref r) (upd H r (.lst (ps.map fun p => .ref p.1)))) := by
 intro pins s σ H xs us Q I r h
 obtain ⟨l, ts, zs, rfl, hl, hlen, hn, h64, hd, q⟩ := h
 obtain ⟨u, rfl, ru⟩ := vals1 r
 cases (show u = Value.ref l from ru)
 obtain ⟨its, rv, pl, _⟩ := I.list hl
 have ei := vals_refs rv
 subst ei
 have hh : Hds s.heap (ts.map Value.ref) zs := by
  refine ⟨by rw [List.length_map]; exact hlen, fun i v z h1 h2 => ?_⟩
  rw [List.getElem?_map, Option.map_eq_some_iff] at h1
  obtain ⟨t, ht, rfl⟩ := h1
  obtain ⟨rr, hr⟩ := hd i t z ht h2
  obtain ⟨its, r3, tp, _⟩ := I.tuple (SqT.of hr)
  cases r3 with
  | cons a1 a2 =>
   obtain ⟨tk, rfl⟩ := a1
   obtain ⟨o, ho, hc, n, hd2⟩ := tp
   exact ⟨t, o, _, n, tk, rfl, ho, hc, hd2, rfl⟩
 refine sortedT pl.isList hh hn (by rw [List.length_map]; exact h64) fun h' e p P U kp he => ?_
 rw [List.length_map] at P U
 have gp : ∀ i, i < ts.length → g p i < ts.length := P.lt
 have pl2 : p.toList.length = ts.length := by rw [Array.length_toList]; exact P.size
 have e1 : (p.toList.map fun i => (ts.map Value.ref).getD i Value.none) = ((p.toList.map fun i => (ts.getD i 0, zs.getD i ⟨#[]⟩)).map fun x => x.1).map Value.ref := by
  rw [List.map_map, List.map_map]
  refine List.map_congr_left fun i hi => ?_
  have hlt := pm_mem P hi
  show (ts.map Value.ref).getD i Value.none = Value.ref (ts.getD i 0)
  simp [hlt]
 refine ⟨.ref _, _, I.laid' (s' := { s with heap := h' }) kp rfl rfl (Nat.le_succ _) (show ObjOk X.prog X.w _ h' _ (.lst ((p.toList.map fun i => (ts.getD i 0, zs.getD i ⟨#[]⟩)).map fun x => V.ref x.1)) from ?_), rfl, q _ (p.toList.map fun i => (ts.getD i 0, zs.getD i ⟨#[]⟩)) (I.hok.fresh (Nat.le_succ _)) ?_ ?_⟩
 ·refine ⟨by rw [List.length_map, List.length_map, pl2, sizeLine_eq]; omega, _, e, ?_, he⟩
  rw [e1]
  have := refs_vals ((p.toList.map fun i => (ts.getD i 0, zs.getD i (⟨#[]⟩ : Str))).map fun x => x.1)
  rw [List.map_map] at this
  exact this
 ·rw [← zip_range ts zs hlen 0 ⟨#[]⟩]
  exact (pm_perm P).map _
 ·rw [List.pairwise_iff_getElem]
  intro i j hi hj hij
  rw [List.length_map] at hi hj
  have := U i j hij (by omega)
  have q1 : g p i = p.toList[i] := g_eq (by rw [← Array.getElem?_toList]; exact List.getElem?_eq_getElem hi)
  have q2 : g p j = p.toList[j] := g_eq (by rw [← Array.getElem?_toList]; exact List.getElem?_eq_getElem hj)
  rw [q1, q2] at this
  rw [List.getElem_map, List.getElem_map]
  exact of_decide_eq_true this
theorem eg_triple {e1 e2 e3 : Expr} {k : Nat} {pos : Pos} {t : Addr} {x y z : V} {R : St → Hp → Prop} (hc : X.calm = true) (ht : SqT X.K H t [x, y, z]) (h : Eg X e1 x σ H fun σ1 H1 => Eg X e2 y σ1 H1 fun σ2 H2 => Eg X e3 z σ2 H2 R)
  (hn : (assignEach [e1, e2, e3] X.env).length = 3 := by rfl) (hst : (assignEach [e1, e2, e3] X.env).findIdx? (·.1) = none := by rfl)
  (hs1 : (assignEach [e1, e2, e3] X.env).map (·.2) = assign e1 X.env :: (assignEach [e2, e3] X.env).map (·.2) := by rfl) (hs2 : (assignEach [e2, e3] X.env).map (·.2) = assign e2 X.env :: (assignEach [e3] X.env).map (·.2) := by rfl) (hs3 : (assignEach [e3] X.env).map (·.2) = assign e3 X.env :: (assignEach [] X.env).map (·.2) := by rfl) :
  Eg X (.Tuple [e1, e2, e3] k pos) (.ref t) σ H R :=
 eg_of (pg_tup (t := gCons (fun v σ H Q => Eg X e1 v σ H Q) (gCons (fun v σ H Q => Eg X e2 v σ H Q) (gCons (fun v σ H Q => Eg X e3 v σ H Q) gNil))) hc (pgs_cons pg_eg (pgs_cons pg_eg (pgs_cons pg_eg pgs_nil hs3) hs2) hs1) hn hst)
  ⟨t, _, rfl, ht, rfl, _, _, rfl, h.mono fun σ1 H1 h1 => ⟨_, _, rfl, h1.mono fun σ2 H2 h2 => ⟨_, _, rfl, h2.mono fun σ3 H3 q => ⟨rfl, q⟩⟩⟩⟩
end
end L2
namespace L2
open PySem PySem.Spec PyProof.Rows
section
variable {X : Cx} {σ : St} {H : Hp} {Q : VK}
theorem ev_dict1 {k v : Expr} {pos : Pos} (hu : X.A.units + 1 < cLine) (h : ∀ d, H d = none → Ev X k σ (upd H d (.dK [])) fun y H1 => Ev X v σ H1 fun x H2 => ∃ H3, DPut H2 d y x H3 ∧ Q (.ref d) H3) : Ev X (.Dict [some k] [v] pos) σ H Q := by
 refine ⟨fun pins s I => wpAny_Dict_any rfl rfl (by simp) (by show 1 ≤ 15; decide) ?_⟩
 have I0 : Inv X pins σ (upd H s.heap.objs.size (.dK [])) { s with heap := s.heap.push { cls := .type "dict", data := .dict #[] } } := I.laid (a := s.heap.objs.size) (o := .dK []) (t' := s.toks) (fun _ _ q => Heap.get?_push_of_some _ q) (Nat.le_refl _) (dk_empty s.heap I.big)
 show wpAny _ _ (evalPairs [(eval k X.env, do let x ← eval v X.env; standAt pos; pure x)]) _ _ _
 unfold evalPairs
 refine wpAny_bind (thn ((h _ I.fresh).run pins _ I0) fun kv s1 ⟨y, H1, I1, r1, h1⟩ => ?_)
 refine wpAny_bind (wpAny_holding (wpAny_bind (thn (h1.run pins s1 I1) fun vv s2 ⟨x, H2, I2, r2, H3, dp, q⟩ => ?_)))
 refine wpAny_bind (wpAny_standAt (wpAny_pure ?_))
 unfold evalPairs
 refine wpAny_bind (wpAny_holding (wpAny_pure (wpAny_pure ?_)))
 unfold storeAll
 rw [List.forIn_cons]
 refine wpAny_bind (wpAny_bind (d_dictSet hu I2 dp r1 r2 fun s' I' => wpAny_pure ?_))
 exact wpAny_pure ⟨.ref _, H3, I', rfl, q⟩
end
end L2
namespace L2
open PySem PySem.Spec PyProof.Rows SetT
section
variable {prog : Program} {w : World} {A : Around} {E : Value → Shared → Prop} {s : Shared} {T : String} {r d : Addr} {n : Nat} {P : Nat → Value → Prop} {OK : Heap → Prop}
end
section
variable {X : Cx}
end
end L2
namespace L2
open PySem PySem.Spec PyProof.Rows
section
end
section
variable {X : Cx}
end
end L2
namespace L2
open PySem PySem.Spec PyProof.Rows
section
variable {X : Cx}
theorem count_in (z : Str) : ∀ zs : List Str, countIn (.str z) (zs.map PyData.str) = (zs.count z : Int)
 | [] => rfl
 | y :: r => by
  rw [List.map_cons, countIn, count_in z r, List.count_cons]
  simp only [same]
  rcases Bool.eq_false_or_eq_true (y == z) with hb | hb <;> simp only [hb, Bool.false_eq_true, if_true, if_false] <;> push_cast <;> omega
noncomputable def rCount (K : PySem.W.Frag) : V → List V → Hp → VK → Prop := fun x vs H Q => ∃ (l : Addr) (zs : List Str) (z : Str), x = .ref l ∧ vs = [.str z] ∧ SqL K H l (zs.map V.str) ∧ Q (.int (zs.count z : Int)) H
theorem mt_count : MtM X "list.count" (rCount X.K) := by
 intro pins s σ H x vs v us Q I rx rv h
 obtain ⟨l, zs, z, rfl, rfl, hH, q⟩ := h
 cases rx
 obtain ⟨u, rfl, ru⟩ := rv.one
 obtain ⟨tk, rfl⟩ := ru
 obtain ⟨its, r, pl, hz⟩ := I.list hH
 refine count_list_strs pl.isList (strs_of_vals r) ?_
 rw [count_in]
 exact ⟨.int (zs.count z : Int), H, I.tok _, ⟨_, rfl⟩, q⟩
end
end L2
namespace L2
open PySem PySem.Spec PyProof.Rows
section
variable {X : Cx} {σ : St} {H : Hp} {D : Ends} {body : List Stmt}
end
end L2
namespace L2
open PySem PySem.Spec PyProof.Rows
section
variable {M : Model} {A : Around} {E : Value → Shared → Prop} {s : Shared}
end
section
variable {X : Cx} {pins : List (Addr × Obj)} {σ : St} {H : Hp} {s : Shared}
end
section
variable {X : Cx} {elt tg iter : Expr} {ifs : List Expr} {scope : Scope} {pos : Pos} {N' : List Str} {n : Nat} {wi : TI} {g : TG} {tc : TT} {te : TE}
end
section
variable {X : Cx} {elt tg iter c : Expr} {ifs : List Expr} {scope : Scope} {pos p : Pos} {wi : TI} {σ : St} {H : Hp} {Q : VK} {T : Bool → Hp → Prop} {rest : List Stmt} {D : Ends}
end
section
variable {X : Cx} {elt tg : Expr} {ifs : List Expr} {scope : Scope} {σ : St} {H : Hp} {N' : List Str} {A a d : Addr} {xs : List V} {kvs : List (Key × V)} {after : Hp → Prop}
end
end L2
namespace L2
open PySem PySem.Spec PyProof.Rows
section
variable {X : Cx} {σ : St} {H : Hp} {D : Ends} {body rest : List Stmt} {a b : Expr}
end
end L2
namespace SetT
open PySem SetTable
noncomputable def adv (mask : Nat) (p : Probe) : Probe := if p.more > 0 then { p with j := p.j + 1, more := p.more - 1 } else
 { p with j := (leap mask p.i p.perturb).1, more := runEnd mask (leap mask p.i p.perturb).1 - (leap mask p.i p.perturb).1, i := (leap mask p.i p.perturb).1, perturb := (leap mask p.i p.perturb).2 }
noncomputable def P0 (mask i q : Nat) : Probe := { j := i, more := runEnd mask i - i, i := i, perturb := q, dummy := none }
noncomputable def itn (mask : Nat) (p : Probe) : Nat → Probe
 | 0 => p
 | n + 1 => adv mask (itn mask p n)
noncomputable def pr (mask : Nat) (h : Int) (n : Nat) : Probe := itn mask (P0 mask (bits h % (mask + 1)) (bits h)) n
theorem start_eq (t : SetTable) (h : Int) : t.probeStart h = pr t.mask h 0 := rfl
theorem itn_add (mask : Nat) (p : Probe) (a : Nat) : ∀ b, itn mask p (a + b) = itn mask (itn mask p a) b
 | 0 => rfl
 | b + 1 => by
  show adv mask (itn mask p (a + b)) = adv mask (itn mask (itn mask p a) b)
  rw [itn_add mask p a b]
theorem itn_run (mask i q : Nat) : ∀ k, k ≤ runEnd mask i - i → itn mask (P0 mask i q) k = { j := i + k, more := runEnd mask i - i - k, i := i, perturb := q, dummy := none }
 | 0, _ => rfl
 | k + 1, h => by
  show adv mask (itn mask (P0 mask i q) k) = _
  rw [itn_run mask i q k (by omega)]
  unfold adv
  rw [if_pos (by show runEnd mask i - i - k > 0; omega)]
  show (⟨i + k + 1, runEnd mask i - i - k - 1, i, q, none⟩ : Probe) = _
  congr 1
theorem itn_next (mask i q : Nat) : itn mask (P0 mask i q) (runEnd mask i - i + 1) = P0 mask (leap mask i q).1 (leap mask i q).2 := by
 show adv mask (itn mask (P0 mask i q) (runEnd mask i - i)) = _
 rw [itn_run mask i q _ (Nat.le_refl _)]
 unfold adv
 rw [if_neg (by show ¬ runEnd mask i - i - (runEnd mask i - i) > 0; omega)]
 rfl
theorem run_le (mask i : Nat) : runEnd mask i - i ≤ 9 := by unfold runEnd; split <;> omega
theorem run_top {mask i : Nat} (h : i ≤ mask) : runEnd mask i ≤ mask := by unfold runEnd; split <;> omega
theorem itn_cover {mask j : Nat} : ∀ (fuel i q : Nat), j ∈ spots mask fuel i q → ∃ n, n < 10 * fuel ∧ (itn mask (P0 mask i q) n).j = j
 | 0, _, _, h => by cases h
 | fuel + 1, i, q, h => by
  rcases List.mem_cons.mp h with e | h
  ·exact ⟨0, by omega, e.symm⟩
  ·obtain ⟨n, hn, e⟩ := itn_cover fuel _ _ h
   refine ⟨runEnd mask i - i + 1 + n, by have := run_le mask i; omega, ?_⟩
   rw [itn_add, itn_next]
   exact e
theorem pr_cover {mask : Nat} (hm : Pow (mask + 1)) (h : Int) {j : Nat} (hj : j < mask + 1) : ∃ n, n < 10 * turns mask ∧ (pr mask h n).j = j :=
 itn_cover _ _ _ (spots_all hm (Nat.mod_lt _ (Nat.succ_pos _)) (bits_lt h) hj)
theorem itn_le {mask : Nat} : ∀ (n i q : Nat), i ≤ mask → (itn mask (P0 mask i q) n).j ≤ mask := by
 intro n
 induction n using Nat.strongRecOn with
 | _ n ih =>
  intro i q hi
  by_cases c : n ≤ runEnd mask i - i
  ·rw [itn_run mask i q n c]
   have := run_top hi
   show i + n ≤ mask
   omega
  ·have e : n = runEnd mask i - i + 1 + (n - (runEnd mask i - i + 1)) := by omega
   rw [e, itn_add, itn_next]
   exact ih _ (by omega) _ _ (Nat.le_of_lt_succ leap_lt)
theorem pr_le (mask : Nat) (h : Int) (n : Nat) : (pr mask h n).j ≤ mask := itn_le n _ _ (Nat.le_of_lt_succ (Nat.mod_lt _ (Nat.succ_pos _)))
noncomputable def Reach (mask : Nat) (occ : Nat → Prop) (h : Int) (j : Nat) : Prop := ∃ n, (pr mask h n).j = j ∧ ∀ m, m < n → occ (pr mask h m).j
theorem Reach.mono {mask : Nat} {occ occ' : Nat → Prop} {h : Int} {j : Nat} (r : Reach mask occ h j) (k : ∀ i, i ≤ mask → occ i → occ' i) : Reach mask occ' h j :=
 let ⟨n, e, f⟩ := r; ⟨n, e, fun m hm => k _ (pr_le _ _ _) (f m hm)⟩
theorem free_reach {mask : Nat} {owner : Own} : ∀ {fuel i q j : Nat}, layClean.free mask owner fuel i q = some j → ∃ n, (itn mask (P0 mask i q) n).j = j ∧ ∀ m, m < n → nil? owner (itn mask (P0 mask i q) m).j = false
 | 0, _, _, _, h => by cases h
 | fuel + 1, i, q, j, h => by
  unfold layClean.free at h
  split at h
  ·rename_i k hf
   cases h
   rw [List.find?_range_eq_some] at hf
   have hk : k ≤ runEnd mask i - i := by have := List.mem_range.mp hf.2.1; have := run_self mask i; omega
   refine ⟨k, by rw [itn_run mask i q k hk], fun m hm => ?_⟩
   rw [itn_run mask i q m (by omega)]
   have := hf.2.2 m hm
   simpa [nil?] using this
  ·rename_i hf
   obtain ⟨n, e, g⟩ := free_reach (fuel := fuel) h
   refine ⟨runEnd mask i - i + 1 + n, by rw [itn_add, itn_next]; exact e, fun m hm => ?_⟩
   by_cases c : m ≤ runEnd mask i - i
   ·rw [itn_run mask i q m c]
    have := List.find?_eq_none.mp hf m (List.mem_range.mpr (by have := run_self mask i; omega))
    exact Bool.eq_false_iff.mpr this
   ·have e2 : m = runEnd mask i - i + 1 + (m - (runEnd mask i - i + 1)) := by omega
    rw [e2, itn_add, itn_next]
    exact g _ (by omega)
theorem nil_set {owner : Own} {j k i : Nat} (h : nil? owner i = false) : nil? (owner.setIfInBounds j (some k)) i = false := by
 unfold nil? at h ⊢
 rw [Array.getD_eq_getD_getElem?] at h ⊢
 rw [Array.getElem?_setIfInBounds]
 split
 ·split <;> rfl
 ·exact h
noncomputable def LayR (mask : Nat) (hs : List Int) (owner : Own) : Prop := ∀ v j x, owner[j]? = some (some v) → hs[v]? = some x → Reach mask (fun i => nil? owner i = false) x j
theorem layR_list {mask : Nat} (hm : Pow (mask + 1)) (all : List Int) : ∀ (hs done : List Int) (owner : Own), all = done ++ hs → Lies (mask + 1) owner done.length → LayR mask all owner → all.length < mask + 1 + 1 →
  ∃ owner', hs.foldl (layStep mask) (some (owner, done.length)) = some (owner', all.length) ∧ Lies (mask + 1) owner' all.length ∧ LayR mask all owner'
 | [], done, owner, e, L, R, _ => by
  rw [List.append_nil] at e
  subst e
  exact ⟨owner, rfl, L, R⟩
 | h :: r, done, owner, e, L, R, hk => by
  have el : all.length = done.length + (r.length + 1) := by rw [e, List.length_append, List.length_cons]
  obtain ⟨j, ej, hj⟩ := L.free hm (by omega) h
  have Lp := L.put hj
  have Rp : LayR mask all (owner.setIfInBounds j (some done.length)) := by
   intro v i x hv hx
   rw [Array.getElem?_setIfInBounds] at hv
   by_cases c : j = i
   ·subst c
    rw [if_pos rfl] at hv
    split at hv
    ·cases hv
     rw [e, List.getElem?_append_right (Nat.le_refl _), Nat.sub_self] at hx
     cases hx
     obtain ⟨n, e1, e2⟩ := free_reach ej
     exact ⟨n, e1, fun m hm' => nil_set (e2 m hm')⟩
    ·cases hv
   ·rw [if_neg c] at hv
    exact (R v i x hv hx).mono fun _ _ => nil_set
  obtain ⟨o', e', L', R'⟩ := layR_list hm all r (done ++ [h]) (owner.setIfInBounds j (some done.length)) (by rw [e, List.append_assoc]; rfl) (by rw [List.length_append]; exact Lp) Rp hk
  refine ⟨o', ?_, L', R'⟩
  rw [List.foldl_cons, show layStep mask (some (owner, done.length)) h = some (owner.setIfInBounds j (some done.length), done.length + 1) by unfold layStep; simp [ej]]
  rw [List.length_append] at e'
  exact e'
theorem layR_ok {mask : Nat} (hm : Pow (mask + 1)) (hs : Array Int) (hl : hs.size < mask + 1 + 1) : ∃ owner, layClean mask hs = some owner ∧ Lies (mask + 1) owner hs.size ∧ LayR mask hs.toList owner := by
 obtain ⟨o', e, L, R⟩ := layR_list hm hs.toList hs.toList [] (Array.replicate (mask + 1) none) rfl (Lies.start (mask + 1)) (fun v j x hv => by
  rw [Array.getElem?_replicate] at hv
  split at hv <;> cases hv) (by simpa using hl)
 refine ⟨o', ?_, by simpa using L, R⟩
 have e2 : layClean mask hs = (hs.foldl (layStep mask) (some (Array.replicate (mask + 1) none, 0))).map (·.1) := rfl
 rw [e2, ← Array.foldl_toList]
 have e3 : ([] : List Int).length = 0 := rfl
 rw [e3] at e
 rw [e]
 rfl
theorem below_go {xs : Array Nat} {j : Nat} (hs : xs.toList.Pairwise (· < ·)) : ∀ (fuel lo hi : Nat), hi ≤ xs.size → lo ≤ hi → hi - lo ≤ fuel → (∀ i v, i < lo → xs[i]? = some v → v < j) → (∀ i v, hi ≤ i → xs[i]? = some v → j ≤ v) →
  (below.go xs j fuel lo hi) ≤ xs.size ∧ (∀ i v, i < below.go xs j fuel lo hi → xs[i]? = some v → v < j) ∧ (∀ i v, below.go xs j fuel lo hi ≤ i → xs[i]? = some v → j ≤ v) := by
 have mono : ∀ {i k : Nat} {u v : Nat}, i < k → xs[i]? = some u → xs[k]? = some v → u < v := fun {i k u v} hik hi hk => by
  rw [← Array.getElem?_toList] at hi hk
  obtain ⟨h1, e1⟩ := List.getElem?_eq_some_iff.mp hi
  obtain ⟨h2, e2⟩ := List.getElem?_eq_some_iff.mp hk
  rw [← e1, ← e2]
  exact List.pairwise_iff_getElem.mp hs i k h1 h2 hik
 intro fuel
 induction fuel with
 | zero =>
  intro lo hi h1 h2 h3 h4 h5
  have e : lo = hi := by omega
  subst e
  exact ⟨h1, h4, h5⟩
 | succ fuel ih =>
  intro lo hi h1 h2 h3 h4 h5
  unfold below.go
  by_cases c : lo < hi
  ·rw [if_pos c]
   have hmid : (lo + hi) / 2 < xs.size := by omega
   have hm : xs[(lo + hi) / 2]? = some xs[(lo + hi) / 2] := Array.getElem?_eq_getElem hmid
   have hgd : xs.getD ((lo + hi) / 2) j = xs[(lo + hi) / 2] := by rw [Array.getD_eq_getD_getElem?, hm]; rfl
   simp only
   rw [hgd]
   by_cases d : xs[(lo + hi) / 2] < j
   ·rw [if_pos d]
    refine ih _ _ h1 (by omega) (by omega) (fun i v hi' hv => ?_) h5
    by_cases k : i = (lo + hi) / 2
    ·subst k
     rw [hm] at hv
     cases hv
     exact d
    ·exact Nat.lt_trans (mono (by omega) hv hm) d
   ·rw [if_neg d]
    refine ih _ _ (by omega) (by omega) (by omega) h4 (fun i v hi' hv => ?_)
    by_cases k : i = (lo + hi) / 2
    ·subst k
     rw [hm] at hv
     cases hv
     omega
    ·have := mono (show (lo + hi) / 2 < i by omega) hm hv
     omega
  ·rw [if_neg c]
   have e : lo = hi := by omega
   subst e
   exact ⟨h1, h4, h5⟩
theorem below_ok {xs : Array Nat} (hs : xs.toList.Pairwise (· < ·)) (j : Nat) : below xs j ≤ xs.size ∧ (∀ i v, i < below xs j → xs[i]? = some v → v < j) ∧ (∀ i v, below xs j ≤ i → xs[i]? = some v → j ≤ v) :=
 below_go hs xs.size 0 xs.size (Nat.le_refl _) (Nat.zero_le _) (by omega) (fun i v h => absurd h (Nat.not_lt_zero _)) fun i v h hv => by
  rw [Array.getElem?_eq_none h] at hv
  cases hv
end SetT
namespace SetT
open PySem SetTable
theorem leastOf {p : Nat → Prop} : ∀ n, p n → ∃ m, m ≤ n ∧ p m ∧ ∀ k, k < m → ¬ p k := by
 intro n
 induction n using Nat.strongRecOn with
 | _ n ih =>
  intro h
  by_cases c : ∃ k, k < n ∧ p k
  ·obtain ⟨k, hk, pk⟩ := c
   obtain ⟨m, h1, h2⟩ := ih k hk pk
   exact ⟨m, by omega, h2⟩
  ·exact ⟨n, Nat.le_refl _, h, fun k hk pk => c ⟨k, hk, pk⟩⟩
noncomputable abbrev Ze := Nat × (Int × Value)
structure Wf (t : SetTable) (es : Array (Int × Value)) (Z : List Ze) : Prop where
 place : t.place.toList = Z.map (·.1)
 ents : es.toList = Z.map (·.2)
 srt : Z.Pairwise (fun a b => a.1 < b.1)
 le : ∀ z ∈ Z, z.1 ≤ t.mask
 few : Z.length ≤ t.mask
 dum : t.dummies = #[]
 pow : Pow (t.mask + 1)
 rch : ∀ z ∈ Z, Reach t.mask (fun j => j ∈ Z.map (·.1)) z.2.1 z.1
section
variable {t : SetTable} {es : Array (Int × Value)} {Z : List Ze}
theorem Wf.sorted (W : Wf t es Z) : t.place.toList.Pairwise (· < ·) := by
 rw [W.place, List.pairwise_map]
 exact W.srt
theorem Wf.len (W : Wf t es Z) : es.size = Z.length := by rw [← Array.length_toList, W.ents, List.length_map]
theorem Wf.plen (W : Wf t es Z) : t.place.size = Z.length := by rw [← Array.length_toList, W.place, List.length_map]
theorem Wf.at (W : Wf t es Z) {i : Nat} {z : Ze} (h : Z[i]? = some z) : t.place[i]? = some z.1 ∧ es[i]? = some z.2 := by
 rw [← Array.getElem?_toList, ← Array.getElem?_toList, W.place, W.ents, List.getElem?_map, List.getElem?_map, h]
 exact ⟨rfl, rfl⟩
theorem Wf.of (W : Wf t es Z) {i v : Nat} (h : t.place[i]? = some v) : ∃ z, Z[i]? = some z ∧ z.1 = v := by
 rw [← Array.getElem?_toList, W.place, List.getElem?_map, Option.map_eq_some_iff] at h
 exact h
theorem Wf.inj (W : Wf t es Z) {i k : Nat} {y z : Ze} (hi : Z[i]? = some y) (hk : Z[k]? = some z) (e : y.1 = z.1) : i = k := by
 obtain ⟨h1, e1⟩ := List.getElem?_eq_some_iff.mp hi
 obtain ⟨h2, e2⟩ := List.getElem?_eq_some_iff.mp hk
 rcases Nat.lt_trichotomy i k with c | c | c
 ·have := List.pairwise_iff_getElem.mp W.srt i k h1 h2 c
  rw [e1, e2] at this
  omega
 ·exact c
 ·have := List.pairwise_iff_getElem.mp W.srt k i h2 h1 c
  rw [e1, e2] at this
  omega
theorem Wf.below_live (W : Wf t es Z) {i : Nat} {z : Ze} (h : Z[i]? = some z) : below t.place z.1 = i := by
 obtain ⟨b1, b2, b3⟩ := below_ok W.sorted z.1
 have hp := (W.at h).1
 have c1 : ¬ i < below t.place z.1 := fun c => Nat.lt_irrefl _ (b2 i _ c hp)
 rcases Nat.lt_or_ge (below t.place z.1) i with c | c
 ·have hi : i < Z.length := (List.getElem?_eq_some_iff.mp h).1
  have hb : below t.place z.1 < Z.length := by omega
  have h2 : Z[below t.place z.1]? = some Z[below t.place z.1] := List.getElem?_eq_getElem hb
  have h3 := b3 _ _ (Nat.le_refl _) (W.at h2).1
  have h4 := List.pairwise_iff_getElem.mp W.srt _ i hb hi c
  rw [(List.getElem?_eq_some_iff.mp h).2] at h4
  omega
 ·omega
theorem Wf.slot_live (W : Wf t es Z) {i : Nat} {z : Ze} (h : Z[i]? = some z) : t.slot z.1 = .live i := by
 unfold slot
 simp only
 rw [W.below_live h, (W.at h).1, if_pos (beq_self_eq_true _)]
theorem Wf.slot_empty (W : Wf t es Z) {j : Nat} (h : j ∉ Z.map (·.1)) : t.slot j = .empty := by
 unfold slot
 simp only
 have h1 : (t.place[below t.place j]? == some j) = false := by
  rw [beq_eq_false_iff_ne]
  intro e
  obtain ⟨z, hz, ez⟩ := W.of e
  exact h (List.mem_map.mpr ⟨z, List.mem_of_getElem? hz, ez⟩)
 rw [if_neg (by rw [h1]; exact Bool.false_ne_true), W.dum]
 rfl
theorem Wf.fits (W : Wf t es Z) : t.fits es.size = true := by
 unfold SetTable.fits fill
 have := W.few
 rw [W.len, W.plen, W.dum]
 simp only [beq_self_eq_true, Bool.true_and, decide_eq_true_eq]
 show Z.length + 0 ≤ t.mask
 omega
structure Stop (mask : Nat) (Z : List Ze) (h : Int) (N : Nat) : Prop where
 out : (pr mask h N).j ∉ Z.map (·.1)
 inn : ∀ m, m < N → (pr mask h m).j ∈ Z.map (·.1)
 lt : N < 10 * turns mask
theorem Wf.stop (W : Wf t es Z) (h : Int) : ∃ N, Stop t.mask Z h N := by
 have : ∃ j, j < t.mask + 1 ∧ j ∉ Z.map (·.1) := by
  refine Classical.byContradiction fun hn => ?_
  have all : ∀ j ∈ List.range (t.mask + 1), j ∈ Z.map (·.1) := fun j hj => Classical.byContradiction fun k => hn ⟨j, List.mem_range.mp hj, k⟩
  have := (List.nodup_range (n := t.mask + 1)).length_le_of_subset all
  rw [List.length_range, List.length_map] at this
  have := W.few
  omega
 obtain ⟨j, hj, hz⟩ := this
 obtain ⟨n, hn, e⟩ := pr_cover W.pow h hj
 obtain ⟨N, h1, h2, h3⟩ := leastOf (p := fun n => (pr t.mask h n).j ∉ Z.map (·.1)) n (by rw [e]; exact hz)
 exact ⟨N, h2, fun m hm => Classical.byContradiction fun k => h3 m hm k, by omega⟩
theorem itn_dummy {mask : Nat} {p : Probe} (h : p.dummy = none) : ∀ n, (itn mask p n).dummy = none
 | 0 => h
 | n + 1 => by
  show (adv mask (itn mask p n)).dummy = none
  unfold adv
  split
  ·exact itn_dummy h n
  ·exact itn_dummy h n
theorem pr_dummy (mask : Nat) (h : Int) (n : Nat) : (pr mask h n).dummy = none := itn_dummy rfl n
theorem Wf.go (W : Wf t es Z) {hashAt : Nat → Int} (hh : ∀ i e, es[i]? = some e → hashAt i = e.1) {h : Int} {N : Nat} (S : Stop t.mask Z h N) : ∀ fuel m, m ≤ N → N - m < fuel →
  (∃ m' i z, m ≤ m' ∧ m' < N ∧ Z[i]? = some z ∧ z.1 = (pr t.mask h m').j ∧ z.2.1 = h ∧ (∀ k, m ≤ k → k < m' → ∀ z ∈ Z, z.1 = (pr t.mask h k).j → z.2.1 ≠ h) ∧ probe.go t hashAt h fuel (pr t.mask h m) = some (.candidate (pr t.mask h m').j i (pr t.mask h (m' + 1)))) ∨
  ((∀ k, m ≤ k → k < N → ∀ z ∈ Z, z.1 = (pr t.mask h k).j → z.2.1 ≠ h) ∧ probe.go t hashAt h fuel (pr t.mask h m) = some (.empty (pr t.mask h N).j none))
 | 0, m, _, hf => absurd hf (Nat.not_lt_zero _)
 | fuel + 1, m, hm, hf => by
  unfold probe.go
  by_cases c : m = N
  ·subst c
   refine .inr ⟨fun k h1 h2 => by omega, ?_⟩
   rw [W.slot_empty S.out]
   simp only
   rw [pr_dummy]
  ·obtain ⟨z, hz, ez⟩ := List.mem_map.mp (S.inn m (by omega))
   obtain ⟨i, hi⟩ := List.getElem?_of_mem hz
   have uniq : ∀ y ∈ Z, y.1 = (pr t.mask h m).j → y = z := fun y hy e => by
    obtain ⟨k, hk⟩ := List.getElem?_of_mem hy
    have := W.inj hk hi (by rw [e, ez])
    subst this
    rw [hk] at hi
    exact Option.some.inj hi
   rw [← ez, W.slot_live hi]
   simp only
   rw [hh i _ (W.at hi).2]
   by_cases d : z.2.1 = h
   ·rw [if_pos (by rw [d]; exact beq_self_eq_true _)]
    exact .inl ⟨m, i, z, Nat.le_refl _, by omega, hi, ez, d, fun k h1 h2 => by omega, by rw [ez]; rfl⟩
   ·rw [if_neg (by rw [beq_iff_eq]; exact d)]
    rcases W.go hh S fuel (m + 1) (by omega) (by omega) with ⟨m', k, y, a1, a2, a3, a4, a5, a6, a7⟩ | ⟨a1, a2⟩
    ·refine .inl ⟨m', k, y, by omega, a2, a3, a4, a5, fun l h1 h2 x hx ex => ?_, a7⟩
     by_cases e : l = m
     ·subst e
      rw [uniq x hx ex]
      exact d
     ·exact a6 l (by omega) h2 x hx ex
    ·refine .inr ⟨fun l h1 h2 x hx ex => ?_, a2⟩
     by_cases e : l = m
     ·subst e
      rw [uniq x hx ex]
      exact d
     ·exact a1 l (by omega) h2 x hx ex
theorem Wf.put (W : Wf t es Z) {h : Int} {x : Value} {N : Nat} (S : Stop t.mask Z h N) {t' : SetTable} (e1 : t'.mask = t.mask) (e2 : t'.place = (t.put (pr t.mask h N).j).1.place) (e3 : t'.dummies = #[]) (hf : Z.length + 1 ≤ t.mask) :
  ∃ Z', Wf t' (insertAt es (t.put (pr t.mask h N).j).2 (h, x)) Z' ∧ Z'.Perm (((pr t.mask h N).j, (h, x)) :: Z) := by
 obtain ⟨b1, b2, b3⟩ := below_ok W.sorted (pr t.mask h N).j
 have ep : (t.put (pr t.mask h N).j).2 = below t.place (pr t.mask h N).j := rfl
 have eP : (t.put (pr t.mask h N).j).1.place = insertAt t.place (below t.place (pr t.mask h N).j) (pr t.mask h N).j := rfl
 rw [eP] at e2
 rw [ep]
 generalize hb : below t.place (pr t.mask h N).j = p at b1 b2 b3 e2
 have hj := pr_le t.mask h N
 have sN := S.out
 have sI := S.inn
 have rN : Reach t.mask (fun j => j ∈ Z.map (·.1)) h (pr t.mask h N).j := ⟨N, rfl, sI⟩
 clear hb eP ep
 generalize (pr t.mask h N).j = j at b2 b3 e2 hj sN rN ⊢
 have pm : (Z.take p ++ (j, (h, x)) :: Z.drop p).Perm ((j, (h, x)) :: Z) := by
  refine List.perm_middle.trans ?_
  rw [List.take_append_drop]
 refine ⟨Z.take p ++ (j, (h, x)) :: Z.drop p, ⟨?_, ?_, ?_, fun z hz => ?_, ?_, e3, by rw [e1]; exact W.pow, fun z hz => ?_⟩, pm⟩
 ·rw [e2, toList_insertAt, W.place, List.map_append, List.map_cons, List.map_take, List.map_drop]
 ·rw [toList_insertAt, W.ents, List.map_append, List.map_cons, List.map_take, List.map_drop]
 ·rw [List.pairwise_append]
  have tk : ∀ a ∈ Z.take p, a.1 < j := fun a ha => by
   obtain ⟨i, hi⟩ := List.getElem?_of_mem ha
   rw [List.getElem?_take] at hi
   split at hi
   ·exact b2 i _ (by assumption) (W.at hi).1
   ·cases hi
  have dr : ∀ a ∈ Z.drop p, j < a.1 := fun a ha => by
   obtain ⟨i, hi⟩ := List.getElem?_of_mem ha
   rw [List.getElem?_drop] at hi
   have := b3 (p + i) _ (by omega) (W.at hi).1
   have ne : a.1 ≠ j := fun e => sN (by rw [← e]; exact List.mem_map.mpr ⟨a, List.mem_of_getElem? hi, rfl⟩)
   omega
  refine ⟨W.srt.sublist (List.take_sublist _ _), List.pairwise_cons.mpr ⟨dr, W.srt.sublist (List.drop_sublist _ _)⟩, fun a ha b hb => ?_⟩
  rcases List.mem_cons.mp hb with e | hb
  ·rw [e]
   exact tk a ha
  ·exact Nat.lt_trans (tk a ha) (dr b hb)
 ·rw [e1]
  rcases List.mem_cons.mp (pm.mem_iff.mp hz) with e | hz
  ·rw [e]
   exact hj
  ·exact W.le z hz
 ·rw [pm.length_eq, e1]
  exact hf
 ·have up : ∀ {h' : Int} {k : Nat}, Reach t.mask (fun j => j ∈ Z.map (·.1)) h' k → Reach t'.mask (fun i => i ∈ (Z.take p ++ (j, (h, x)) :: Z.drop p).map (·.1)) h' k := fun r => by
   rw [e1]
   refine r.mono fun i _ hi => ?_
   rw [(pm.map (·.1)).mem_iff]
   exact List.mem_cons_of_mem _ hi
  rcases List.mem_cons.mp (pm.mem_iff.mp hz) with e | hz
  ·rw [e]
   exact up rN
  ·exact up (W.rch z hz)
theorem live_pw (m : Nat) (owner : Own) : (live m owner).Pairwise (fun a b => a.1 < b.1) := by
 unfold live
 rw [List.pairwise_filterMap]
 refine List.Pairwise.imp (fun {a b} hab x hx y hy => ?_) List.pairwise_lt_range
 rw [Option.map_eq_some_iff] at hx hy
 obtain ⟨u, _, rfl⟩ := hx
 obtain ⟨v, _, rfl⟩ := hy
 exact hab
theorem relay_ok {t : SetTable} {es : Array (Int × Value)} {wanted : Nat} (hm : Pow (sizeAbove wanted)) (hl : es.size ≤ sizeAbove wanted - 1) :
  ∃ t2 order Z, t.relaid (es.map (·.1)) wanted = some (t2, order) ∧ (order.filterMap (es[·]?)).size = es.size ∧ Wf t2 (order.filterMap (es[·]?)) Z ∧ (Z.map (·.2)).Perm es.toList ∧ t2.mask = sizeAbove wanted - 1 := by
 have hp : 8 ≤ sizeAbove wanted := by rcases hm with h | h | h | h | h | h <;> omega
 have em : sizeAbove wanted - 1 + 1 = sizeAbove wanted := by omega
 obtain ⟨o, e, L, R⟩ := layR_ok (mask := sizeAbove wanted - 1) (by rw [em]; exact hm) (es.map (·.1)) (by rw [Array.size_map]; omega)
 rw [Array.size_map] at L
 rw [show t.relaid (es.map (·.1)) wanted = laid (sizeAbove wanted - 1) t.finger (t.movedTo (sizeAbove wanted - 1)) t.led t.plain (es.map (·.1)) from rfl]
 generalize sizeAbove wanted - 1 = mask at e L R em hl ⊢
 have he : ∀ p ∈ live (mask + 1) o, p.2 < es.size ∧ p.1 < mask + 1 ∧ o[p.1]? = some (some p.2) := fun p hp => by
  have := mem_live.mp hp
  exact ⟨L.lt _ _ this.2, this.1, this.2⟩
 have ef : ∀ l : List (Nat × Nat), (∀ p ∈ l, p.2 < es.size) → (l.map (·.2)).filterMap (es[·]?) = l.map fun p => (es[p.2]?).getD (0, .none) := fun l => by
  induction l with
  | nil => intro _; rfl
  | cons p r ih =>
   intro hl
   rw [List.map_cons, List.map_cons, List.filterMap_cons, Array.getElem?_eq_getElem (hl p List.mem_cons_self), ih fun q hq => hl q (List.mem_cons_of_mem _ hq)]
   rfl
 have ee : (((live (mask + 1) o).map (·.2)).toArray.filterMap (es[·]?)).toList = (live (mask + 1) o).map fun p => (es[p.2]?).getD (0, .none) := by
  rw [Array.toList_filterMap]
  exact ef _ fun p hp => (he p hp).1
 have es2 : (((live (mask + 1) o).map (·.2)).toArray.filterMap (es[·]?)).size = es.size := by
  rw [← Array.length_toList, ee, List.length_map, L.length]
 refine ⟨_, _, (live (mask + 1) o).map fun p => (p.1, (es[p.2]?).getD (0, .none)), by unfold laid; rw [e]; rfl, es2, ⟨?_, ?_, ?_, fun z hz => ?_, ?_, rfl, by show Pow (mask + 1); rw [em]; exact hm, fun z hz => ?_⟩, ?_, rfl⟩
 ·show (live (mask + 1) o).map (·.1) = _
  rw [List.map_map]
  rfl
 ·rw [ee, List.map_map]
  rfl
 ·rw [List.pairwise_map]
  exact live_pw _ _
 ·obtain ⟨p, hp, rfl⟩ := List.mem_map.mp hz
  show p.1 ≤ mask
  have := (he p hp).2.1
  omega
 ·rw [List.length_map, L.length]
  exact hl
 ·obtain ⟨p, hp, rfl⟩ := List.mem_map.mp hz
  obtain ⟨h1, h2, h3⟩ := he p hp
  have hx : (es.map (·.1)).toList[p.2]? = some (es[p.2]).1 := by rw [Array.getElem?_toList, Array.getElem?_map, Array.getElem?_eq_getElem h1]; rfl
  have eg : (es[p.2]?).getD (0, .none) = es[p.2] := by rw [Array.getElem?_eq_getElem h1]; rfl
  show Reach mask _ ((es[p.2]?).getD (0, .none)).1 p.1
  rw [eg]
  refine (R p.2 p.1 _ h3 hx).mono fun i hi hn => ?_
  rw [List.map_map]
  have his : i < o.size := by rw [L.size]; omega
  have h4 : o[i]? = some o[i] := Array.getElem?_eq_getElem his
  cases h5 : o[i] with
  | none =>
   rw [h5] at h4
   have := nil?_iff.mpr h4
   rw [hn] at this
   cases this
  | some v =>
   rw [h5] at h4
   exact List.mem_map.mpr ⟨(i, v), mem_live.mpr ⟨by omega, h4⟩, rfl⟩
 ·rw [List.map_map]
  have p1 : ((live (mask + 1) o).map fun p => (es[p.2]?).getD (0, .none)) = ((live (mask + 1) o).map (·.2)).map fun v => (es[v]?).getD (0, .none) := by rw [List.map_map]; rfl
  show ((live (mask + 1) o).map fun p => (es[p.2]?).getD (0, .none)).Perm _
  rw [p1]
  refine (L.perm.map _).trans (List.Perm.of_eq ?_)
  apply List.ext_getElem?
  intro i
  rw [List.getElem?_map]
  by_cases c : i < es.size
  ·rw [List.getElem?_range c]
   show some ((es[i]?).getD (0, .none)) = es.toList[i]?
   rw [Array.getElem?_toList, Array.getElem?_eq_getElem c]
   rfl
  ·rw [List.getElem?_eq_none (by rw [List.length_range]; omega), Array.getElem?_toList, Array.getElem?_eq_none (by omega)]
   rfl
end
end SetT
namespace SetT
open PySem SetTable
section
variable {prog : Program} {w : World} {K : Type} [DecidableEq K]
noncomputable def ent (knd : HeapKind prog w K) (y : Nat × K × Addr) : Ze := (y.1, (knd.hash y.2.1, Value.ref y.2.2))
noncomputable def Unseen (knd : HeapKind prog w K) : Prop := ∀ {A : Around} {E : Value → Shared → Prop} {s : Shared} {k : K} {a : Addr} {Q : Bool → Shared → Prop}, knd.is s.heap k a → Q false s → wpAny (model prog w) A (ofAClassStatement 8 (.ref a)) Q E s
variable {A : Around} {E : Value → Shared → Prop} {s : Shared} {a b : Addr} {knd : HeapKind prog w K} {k : K} {Y : List (Nat × K × Addr)}
theorem wp_seen {Q : Bool → Shared → Prop} (U : Unseen knd) (hb : knd.is s.heap k b) (l : List Value) (hl : ∀ v ∈ l, ∃ k' c, v = Value.ref c ∧ knd.is s.heap k' c) (q : Q false s) : wpAny (model prog w) A (searchCouldBeSeen (.ref b) l) Q E s := by
 unfold searchCouldBeSeen
 refine wpAny_bind (wpAny_forIn_list _ (fun rest r s' => r.1 = none ∧ s' = s ∧ ∀ v ∈ rest, ∃ k' c, v = Value.ref c ∧ knd.is s.heap k' c) _ ?_ ?_ l _ ⟨rfl, rfl, hl⟩)
 ·rintro v rest r s' ⟨hr, rfl, hv⟩
  obtain ⟨k', c, rfl, hc⟩ := hv v List.mem_cons_self
  have hrest : ∀ v ∈ rest, ∃ k' c, v = Value.ref c ∧ knd.is s'.heap k' c := fun v h => hv v (List.mem_cons_of_mem _ h)
  dsimp only
  split
  ·exact wpAny_pure ⟨rfl, rfl, hrest⟩
  ·refine wpAny_bind (knd.quiet hb ?_)
   simp only [Bool.not_true, Bool.false_eq_true, if_false]
   refine wpAny_bind (knd.quiet hc ?_)
   simp only [Bool.not_true, Bool.false_eq_true, if_false]
   refine wpAny_bind (U hb ?_)
   simp only [Bool.false_eq_true, if_false]
   refine wpAny_bind (U hc ?_)
   simp only [Bool.false_eq_true, if_false]
   exact wpAny_pure ⟨rfl, rfl, hrest⟩
 ·rintro ⟨_, _⟩ s' ⟨rfl, rfl, _⟩
  exact wpAny_pure q
theorem odd_mask {m : Nat} (h : Pow (m + 1)) : (m % 2 == 0) = false := by
 rw [beq_eq_false_iff_ne]
 rcases h with h | h | h | h | h | h <;> omega
theorem wp_search {adding : Bool} {o : Obj} {es : Array (Int × Value)} {ep : Nat} {t : SetTable} {N : Nat} {Q : SetFound → Shared → Prop} (U : Unseen knd) (hA : knd.room A) (ho : s.heap.get? a = some o) (hd : o.data = .set es ep t) (W : Wf t es (Y.map (ent knd)))
  (hY : ∀ y ∈ Y, knd.is s.heap y.2.1 y.2.2) (hb : knd.is s.heap k b) (S : Stop t.mask (Y.map (ent knd)) (knd.hash k) N)
  (k0 : k ∉ Y.map (·.2.1) → Q (.free (pr t.mask (knd.hash k) N).j false) s) (k1 : ∀ oi, k ∈ Y.map (·.2.1) → (adding = false → oi.isSome = true) → Q (.there oi) s) :
  ∀ (fuel m : Nat) (stand : Option Probe), stand.getD (t.probeStart (knd.hash k)) = pr t.mask (knd.hash k) m → m ≤ N → N - m < fuel → (∀ l, l < m → ∀ y ∈ Y, y.1 = (pr t.mask (knd.hash k) l).j → y.2.1 ≠ k) →
   wpAny (model prog w) A (setSearchFrom a (.ref b) (knd.hash k) adding fuel stand) Q E s
 | 0, m, stand, _, _, hf, _ => absurd hf (Nat.not_lt_zero _)
 | fuel + 1, m, stand, hs, hm, hf, hn => by
  unfold setSearchFrom
  refine wpAny_bind (wpAny_setState_of ho hd W.fits ?_)
  dsimp only
  rw [hs]
  have gw : t.gaveWay = false := odd_mask W.pow
  rw [gw]
  simp only [Bool.false_eq_true, if_false]
  have hl := S.lt
  have G := W.go (hashAt := fun i => (es[i]?.map (·.1)).getD 0) (fun i e he => by show (es[i]?.map (·.1)).getD 0 = e.1; rw [he]; rfl) S (10 * turns t.mask) m hm (by omega)
  split
  ·rename_i met hmet
   rcases G with ⟨m', i, z, a1, a2, a3, a4, a5, a6, a7⟩ | ⟨a1, a2⟩
   ·have e2 := Option.some.inj (hmet.symm.trans a7)
    subst e2
    rw [List.getElem?_map, Option.map_eq_some_iff] at a3
    obtain ⟨y, hy, rfl⟩ := a3
    have hyY : y ∈ Y := List.mem_of_getElem? hy
    have hZ : (Y.map (ent knd))[i]? = some (ent knd y) := by rw [List.getElem?_map, hy]; rfl
    have hsl : t.slot (pr t.mask (knd.hash k) m').j = .live i := by rw [← a4]; exact W.slot_live hZ
    have hei : es[i]? = some (knd.hash y.2.1, Value.ref y.2.2) := (W.at hZ).2
    have hsm : t.sameMemory t.moves t.mask = some true := by unfold sameMemory; rw [if_pos (beq_self_eq_true _)]
    have hsame : ∀ (Q' : Bool → Shared → Prop), Q' true s → wpAny (model prog w) A (isSame (.ref y.2.2) (.ref y.2.2)) Q' E s := fun Q' q => by
     unfold isSame
     simp only
     rw [if_pos (beq_self_eq_true _)]
     exact wpAny_pure q
    have again : y.2.1 ≠ k → wpAny (model prog w) A (setSearchFrom a (.ref b) (knd.hash k) adding fuel (some (pr t.mask (knd.hash k) (m' + 1)))) Q E s := fun ne =>
     wp_search U hA ho hd W hY hb S k0 k1 fuel (m' + 1) (some (pr t.mask (knd.hash k) (m' + 1))) rfl (by omega) (by omega) fun l hl' y' hy' ey' => by
      by_cases c : l < m
      ·exact hn l c y' hy' ey'
      ·by_cases d : l = m'
       ·subst d
        have : (ent knd y') = ent knd y := by
         obtain ⟨i', hi'⟩ := List.getElem?_of_mem hy'
         have hZ' : (Y.map (ent knd))[i']? = some (ent knd y') := by rw [List.getElem?_map, hi']; rfl
         have := W.inj hZ' hZ (by show y'.1 = (ent knd y).1; rw [a4]; exact ey')
         subst this
         rw [hZ] at hZ'
         exact (Option.some.inj hZ').symm
        have e3 : y'.2.2 = y.2.2 := by
         have := congrArg (fun z : Ze => z.2.2) this
         exact Value.ref.inj this
        have h1 := hY y' hy'
        rw [e3] at h1
        rw [knd.inj h1 (hY y hyY)]
        exact ne
       ·intro ek
        refine a6 l (by omega) (by omega) (ent knd y') (List.mem_map.mpr ⟨y', hy', rfl⟩) ey' ?_
        show knd.hash y'.2.1 = knd.hash k
        rw [ek]
    dsimp only
    split
    all_goals
     try
      refine wpAny_bind (wp_seen U hb _ ?hm ?_)
      case hm =>
       intro v hv
       obtain ⟨e, he, rfl⟩ := List.mem_map.mp hv
       rw [Array.toList_filter, List.mem_filter, W.ents] at he
       obtain ⟨z, hz, rfl⟩ := List.mem_map.mp he.1
       obtain ⟨y', hy', rfl⟩ := List.mem_map.mp hz
       exact ⟨y'.2.1, y'.2.2, rfl, hY y' hy'⟩
      simp only [Bool.false_eq_true, if_false]
     rw [hei]
     dsimp only
     refine wpAny_bind (wpAny_holding (knd.eqBool hA (hY y hyY) hb ?_))
     refine wpAny_bind (wpAny_setState_of ho hd W.fits ?_)
     dsimp only
     rw [hsm, hsl]
     dsimp only
     rw [if_pos (rfl : true = true)]
     dsimp only
     rw [hei]
     dsimp only
     by_cases ek : y.2.1 = k
     ·have hin : k ∈ Y.map (·.2.1) := List.mem_map.mpr ⟨y, hyY, ek⟩
      rw [decide_eq_true ek]
      cases adding with
      | true =>
       simp only [Bool.and_self, if_true]
       exact wpAny_pure (k1 none hin fun z => nomatch z)
      | false =>
       simp only [Bool.false_and, Bool.false_eq_true, if_false, if_true]
       refine wpAny_bind (hsame _ ?_)
       refine wpAny_bind (wpAny_pure ?_)
       simp only [if_true]
       exact wpAny_pure (k1 (some i) hin fun _ => rfl)
     ·rw [decide_eq_false ek]
      simp only [Bool.and_false, Bool.false_eq_true, if_false, if_true]
      refine wpAny_bind (hsame _ ?_)
      refine wpAny_bind (wpAny_pure ?_)
      simp only [if_true]
      exact again ek
   ·have e2 := Option.some.inj (hmet.symm.trans a2)
    subst e2
    dsimp only
    refine wpAny_pure (k0 fun hk => ?_)
    obtain ⟨y, hy, ey⟩ := List.mem_map.mp hk
    have hz : ent knd y ∈ Y.map (ent knd) := List.mem_map.mpr ⟨y, hy, rfl⟩
    obtain ⟨n, e1, e2⟩ := W.rch _ hz
    have eh : (ent knd y).2.1 = knd.hash k := by show knd.hash y.2.1 = _; rw [ey]
    rw [eh] at e1 e2
    have hnN : n < N := by
     refine Classical.byContradiction fun c => ?_
     rcases Nat.lt_or_ge N n with d | d
     ·exact S.out (e2 N d)
     ·have : n = N := by omega
      subst this
      exact S.out (by rw [e1]; exact List.mem_map.mpr ⟨_, hz, rfl⟩)
    by_cases c : n < m
    ·exact hn n c y hy e1.symm ey
    ·exact a1 n (by omega) hnN _ hz e1.symm eh
  ·rename_i hno
   rcases G with ⟨m', i, z, a1, a2, a3, a4, a5, a6, a7⟩ | ⟨a1, a2⟩
   ·exact absurd a7 (hno _)
   ·exact absurd a2 (hno _)
end
end SetT
namespace SetT
open PySem SetTable
section
variable {prog : Program} {w : World} {K : Type} [DecidableEq K]
noncomputable def Way3 (m : Nat) : Prop := m = 7 ∨ m = 31 ∨ m = 127 ∨ m = 511
noncomputable def SetGo (knd : HeapKind prog w K) (h : Heap) (a : Addr) (Y : List (Nat × K × Addr)) : Prop :=
 ∃ o es ep t, h.get? a = some o ∧ o.ExactSet ∧ o.data = .set es ep t ∧ Wf t es (Y.map (ent knd)) ∧ Y.length * 5 < t.mask * 3 ∧ Way3 t.mask
noncomputable def Hashes (knd : HeapKind prog w K) : Prop := ∀ {A : Around} {E : Value → Shared → Prop} {s : Shared} {k : K} {a : Addr} {Q : Bool → Shared → Prop}, knd.is s.heap k a → (∀ b, Q b s) → wpAny (model prog w) A (hashByValue 8 (.ref a)) Q E s
variable {A : Around} {E : Value → Shared → Prop} {s : Shared} {a b : Addr} {knd : HeapKind prog w K} {k : K} {Y : List (Nat × K × Addr)}
theorem not_scan {es : Array (Int × Value)} : byScan (.ref b) es = false := by
 unfold byScan
 rfl
theorem wp_findT {Q : Option Nat → Shared → Prop} (U : Unseen knd) (hA : knd.room A) (S : SetGo knd s.heap a Y) (hY : ∀ y ∈ Y, knd.is s.heap y.2.1 y.2.2) (hb : knd.is s.heap k b)
  (k0 : k ∉ Y.map (·.2.1) → Q none s) (k1 : ∀ i, k ∈ Y.map (·.2.1) → Q (some i) s) : wpAny (model prog w) A (setFind a (.ref b) (knd.hash k)) Q E s := by
 obtain ⟨o, es, ep, t, ho, hx, hd, W, _⟩ := S
 obtain ⟨N, SN⟩ := W.stop (knd.hash k)
 have hl := SN.lt
 have hm := W.pow.pos.2
 unfold setFind setFindIn
 refine wpAny_bind (wpAny_setState_of ho hd W.fits ?_)
 dsimp only
 rw [not_scan]
 simp only [Bool.false_eq_true, if_false]
 refine wpAny_bind ?_
 refine wp_search (adding := false) U hA ho hd W hY hb SN (fun hk => ?_) (fun oi hk hs => ?_) 100000 0 none (start_eq t _) (Nat.zero_le _) (by unfold turns at hl; omega) (fun l hl' => absurd hl' (Nat.not_lt_zero _))
 ·exact wpAny_pure (k0 hk)
 ·cases oi with
  | none => exact absurd (hs rfl) Bool.false_ne_true
  | some i => exact wpAny_pure (k1 i hk)
theorem way_pow {m : Nat} (h : Way3 m) : Pow (m + 1) := by
 unfold Way3 at h
 unfold Pow
 rcases h with rfl | rfl | rfl | rfl <;> decide
theorem grow_ok {m n : Nat} (hw : Way3 m) (h1 : (n - 1) * 5 < m * 3) (h2 : n * 5 ≥ m * 3) (h0 : 1 ≤ n) (h3 : n ≤ 300) : Way3 (sizeAbove (grown n) - 1) ∧ n ≤ sizeAbove (grown n) - 1 ∧ n * 5 < (sizeAbove (grown n) - 1) * 3 := by
 rcases hw with h | h | h | h
 ·have : n = 5 := by omega
  subst this
  unfold Way3
  decide +kernel
 ·have : n = 19 := by omega
  subst this
  unfold Way3
  decide +kernel
 ·have : n = 77 := by omega
  subst this
  unfold Way3
  decide +kernel
 ·omega
theorem raw_put {o : Obj} {ep : Nat} {es es' : Array (Int × Value)} {t t' : SetTable} {h : Heap} {Y' : List (Nat × K × Addr)} (ho : h.get? a = some o) (hx : o.ExactSet) (hd : o.data = .set es ep t) (W' : Wf t' es' (Y'.map (ent knd))) :
  (h.update a (Obj.putSet es' t')).get? a = some { o with data := .set es' (ep + 1) t' } := by
 have q := Heap.get?_update_self (Obj.putSet es' t') ho (by rw [putSet_of es' t' hd]; rfl)
 rw [putSet_of es' t' hd] at q
 exact q
theorem lift_perm {α β : Type} {f : α → β} {L M : List β} (h : L.Perm M) : ∀ {Y' : List α}, Y'.map f = M → ∃ Y2 : List α, L = Y2.map f ∧ Y2.Perm Y' := by
 induction h with
 | nil =>
  intro Y' hM
  have : Y' = [] := by simpa using hM
  subst this
  exact ⟨[], rfl, .refl _⟩
 | cons x p ih =>
  intro Y' hM
  cases Y' with
  | nil => cases hM
  | cons y r =>
   rw [List.map_cons] at hM
   injection hM with e1 e2
   subst e1
   obtain ⟨Y2, e3, p2⟩ := ih e2
   exact ⟨y :: Y2, by rw [e3]; rfl, p2.cons y⟩
 | swap x y l =>
  intro Y' hM
  cases Y' with
  | nil => cases hM
  | cons u r =>
   cases r with
   | nil => cases hM
   | cons v r =>
    rw [List.map_cons, List.map_cons] at hM
    injection hM with e1 e2
    injection e2 with e2 e3
    subst e1 e2 e3
    exact ⟨v :: u :: r, rfl, .swap _ _ _⟩
 | trans p1 p2 ih1 ih2 =>
  intro Y' hM
  obtain ⟨Y2, e2, q2⟩ := ih2 hM
  obtain ⟨Y3, e3, q3⟩ := ih1 e2.symm
  exact ⟨Y3, e3, q3.trans q2⟩
theorem glue : ∀ {Z : List Ze} {Y : List (Nat × K × Addr)}, Z.map (·.2) = Y.map (fun y => (ent knd y).2) → ∃ Y2 : List (Nat × K × Addr), Z = Y2.map (ent knd) ∧ Y2.map (·.2) = Y.map (·.2)
 | [], [], _ => ⟨[], rfl, rfl⟩
 | [], _ :: _, h => by cases h
 | _ :: _, [], h => by cases h
 | z :: Z, y :: Y, h => by
  rw [List.map_cons, List.map_cons] at h
  injection h with h1 h2
  obtain ⟨Y2, e1, e2⟩ := glue h2
  refine ⟨(z.1, y.2) :: Y2, ?_, by rw [List.map_cons, List.map_cons, e2]⟩
  rw [List.map_cons, ← e1]
  congr 1
  show z = (z.1, (ent knd y).2)
  rw [← h1]
theorem wp_addT {Q : Bool → Shared → Prop} (U : Unseen knd) (HB : Hashes knd) (hA : knd.room A) (S : SetGo knd s.heap a Y) (hY : ∀ y ∈ Y, knd.is s.heap y.2.1 y.2.2) (hb : knd.is s.heap k b) (hl : Y.length + 1 ≤ 300)
    (q0 : k ∈ Y.map (·.2.1) → Q false s) (q1 : ∀ h' Y', k ∉ Y.map (·.2.1) → Heap.SameBut a s.heap h' → SetGo knd h' a Y' → (Y'.map (·.2)).Perm ((k, b) :: Y.map (·.2)) → Q true { s with heap := h' }) :
    wpAny (model prog w) A (setAddHashed a (.ref b) (knd.hash k)) Q E s := by
  obtain ⟨o, es, ep, t, ho, hx, hd, W, slack, hw⟩ := S
  obtain ⟨N, SN⟩ := W.stop (knd.hash k)
  have hlt := SN.lt
  have hm := W.pow.pos
  have eZ : (Y.map (ent knd)).length = Y.length := List.length_map ..
  unfold setAddHashed setAddHashedIn
  refine wpAny_holding (wpAny_bind (wpAny_setState_of ho hd W.fits ?_))
  dsimp only
  rw [not_scan]
  simp only [Bool.false_eq_true, if_false]
  refine wpAny_bind ?_
  refine wp_search (adding := true) U hA ho hd W hY hb SN (fun hk => ?_) (fun oi hk hs => ?_) 100000 0 none (start_eq t _) (Nat.zero_le _) (by unfold turns at hlt; omega) (fun l hl' => absurd hl' (Nat.not_lt_zero _))
  · dsimp only
    refine wpAny_bind (wpAny_setState_of ho hd W.fits ?_)
    dsimp only
    have put := fun (t' : SetTable) e1 e2 e3 => W.put (x := .ref b) SN (t' := t') e1 e2 e3 (by rw [eZ]; omega)
    have fin : ∀ t' : SetTable, t'.mask = t.mask → t'.place = (t.put (pr t.mask (knd.hash k) N).j).1.place → t'.dummies = #[] → wpAny (model prog w) A (do
        storeSet a (insertAt es (t.put (pr t.mask (knd.hash k) N).j).2 (knd.hash k, .ref b)) t'
        if (!false && t'.tooFull) = true then do
            setRelay a (grown (es.size + 1))
            pure true
          else pure true) Q E s := fun t' e1 e2 e3 => by
      obtain ⟨Z', W', pZ⟩ := put t' e1 e2 e3
      obtain ⟨Y2, eY2, pY2⟩ := lift_perm pZ (f := ent knd) (Y' := ((pr t.mask (knd.hash k) N).j, k, b) :: Y) rfl
      subst eY2
      have lY2 : Y2.length = Y.length + 1 := pY2.length_eq
      have lE := W'.len
      rw [List.length_map] at lE
      have pk : (Y2.map (·.2)).Perm ((k, b) :: Y.map (·.2)) := pY2.map (·.2)
      generalize insertAt es (t.put (pr t.mask (knd.hash k) N).j).2 (knd.hash k, .ref b) = es1 at W' lE ⊢
      refine wpAny_bind (wpAny_storeSet_of ho hd ?_ (sz_ok (by omega)))
      have g1 := raw_put (knd := knd) (Y' := Y2) ho hx hd W'
      have sb := Heap.SameBut.update s.heap a (Obj.putSet es1 t')
      have hfill : t'.fill = Y2.length := by
        unfold fill
        rw [W'.plen, e3, List.length_map]
        rfl
      by_cases full : t'.tooFull = true
      · rw [full]
        simp only [Bool.not_false, Bool.and_self, if_true]
        unfold tooFull at full
        rw [decide_eq_true_eq, hfill, e1] at full
        obtain ⟨w1, w2, w3⟩ := grow_ok (n := es.size + 1) hw (by rw [W.len, eZ]; omega) (by rw [W.len, eZ]; omega) (by omega) (by rw [W.len, eZ]; omega)
        have en : es.size + 1 = es1.size := by rw [lE, lY2, W.len, eZ]
        rw [en] at w1 w2 w3 ⊢
        have hp8 : sizeAbove (grown es1.size) - 1 + 1 = sizeAbove (grown es1.size) := by unfold Way3 at w1; omega
        have pw := way_pow w1
        rw [hp8] at pw
        obtain ⟨t2, order, Z3, r1, r2, r3, r4, r5⟩ := relay_ok (t := t') (es := es1) pw w2
        refine wpAny_bind ?_
        unfold setRelay
        refine wpAny_bind (wpAny_setState_of g1 rfl W'.fits ?_)
        dsimp only
        have hbig : ¬ (sizeAbove (grown es1.size) > sizeLine) := by
          have := pw.pos.2
          rw [sizeLine_eq]
          omega
        rw [if_neg hbig, r1]
        refine wpAny_bind ?_
        show wpAny _ _ (if ((order.filterMap (es1[·]?)).size != es1.size) = true then _ else _) _ _ _
        rw [if_neg (by rw [r2]; simp)]
        refine wpAny_pure ?_
        refine wpAny_storeSet_of g1 rfl ?_ (by rw [r2]; exact sz_ok (by omega))
        refine wpAny_pure ?_
        rw [W'.ents, List.map_map] at r4
        obtain ⟨Y4, eY4, pY4⟩ := lift_perm r4 (f := fun y => (ent knd y).2) (Y' := Y2) rfl
        obtain ⟨Y5, eY5, pY5⟩ := glue eY4
        subst eY5
        have hx2 : ({ o with data := .set es1 (ep + 1) t' } : Obj).ExactSet := hx
        have g2 := raw_put (knd := knd) (Y' := Y5) g1 hx2 rfl r3
        have lY5 : Y5.length = Y2.length := by
          have := congrArg List.length pY5
          rw [List.length_map, List.length_map, pY4.length_eq] at this
          exact this
        refine q1 _ Y5 hk (sb.trans (Heap.SameBut.update _ a _)) ⟨_, _, _, t2, g2, hx2, rfl, r3, by rw [r5, lY5, ← lE]; exact w3, by rw [r5]; exact w1⟩ ?_
        rw [pY5]
        exact (pY4.map (·.2)).trans pk
      · rw [Bool.not_eq_true] at full
        rw [full]
        simp only [Bool.and_false, Bool.false_eq_true, if_false]
        refine wpAny_pure (q1 _ Y2 hk sb ⟨_, es1, ep + 1, t', g1, hx, rfl, W', ?_, by rw [e1]; exact hw⟩ pk)
        unfold tooFull at full
        rw [decide_eq_false_iff_not, hfill] at full
        omega
    have dm : (t.put (pr t.mask (knd.hash k) N).j).1.dummies = #[] := by
      show (if has t.dummies _ = true then _ else t.dummies) = #[]
      rw [W.dum]
      rfl
    split
    · refine wpAny_bind (HB hb fun bv => ?_)
      cases bv with
      | true => exact fin (t.put (pr t.mask (knd.hash k) N).j).1 rfl rfl dm
      | false => exact fin { (t.put (pr t.mask (knd.hash k) N).j).1 with plain := false } rfl rfl dm
    · exact wpAny_bind (wpAny_pure (fin (t.put (pr t.mask (knd.hash k) N).j).1 rfl rfl dm))
  · dsimp only
    exact wpAny_pure (q0 hk)
end
section
variable {prog : Program} {w : World} {K : Type} [DecidableEq K] {knd : KeyKind prog w K}
theorem no_class {v : Value} (h : carriedByValue v = true) : ofAClassStatement 7 v = pure false := by
 cases v <;> first | rfl | exact absurd h (by decide) | (unfold carriedByValue at h; cases h)
theorem by_value {v : Value} (h : carriedByValue v = true) : ∃ b, hashByValue 7 v = pure b := by
 cases v <;> first | exact ⟨_, rfl⟩ | exact absurd h (by decide) | (unfold carriedByValue at h; cases h)
theorem unseen_tuple : Unseen (tupleKind knd) := by
 intro A E s k a Q hk q
 have hT := IsTupleKey.typeIs hk
 obtain ⟨o, items, n, ho, hc, hd, hi⟩ := hk
 unfold ofAClassStatement
 refine wpAny_bind (wpAny_typeOf hT ?_)
 dsimp only
 refine wpAny_bind (wpAny_pure ?_)
 simp only [Bool.not_true, Bool.false_eq_true, if_false]
 refine wpAny_bind (wpAny_seqItems ho hd ?_)
 dsimp only
 refine wpAny_bind ?_
 rw [← Array.forIn_toList]
 refine wpAny_forIn_list _ (fun rest r s' => r.1 = none ∧ s' = s ∧ ∀ v ∈ rest, carriedByValue v = true) _ ?_ ?_ _ _ ⟨rfl, rfl, hi.byValue⟩
 ·rintro v rest r s' ⟨hr, rfl, hall⟩
  rw [no_class (hall v List.mem_cons_self)]
  refine wpAny_bind (wpAny_pure ?_)
  simp only [Bool.false_eq_true, if_false]
  exact wpAny_pure ⟨rfl, rfl, fun u hu => hall u (List.mem_cons_of_mem _ hu)⟩
 ·rintro ⟨r1, r2⟩ s' ⟨hr, rfl, _⟩
  simp only at hr
  subst hr
  exact wpAny_pure q
theorem hashes_tuple : Hashes (tupleKind knd) := by
 intro A E s k a Q hk q
 have hT := IsTupleKey.typeIs hk
 obtain ⟨o, items, n, ho, hc, hd, hi⟩ := hk
 unfold hashByValue
 refine wpAny_bind (wpAny_specialOf hT F.slot_tuple_hash.lookup ?_)
 dsimp only
 refine wpAny_bind (wpAny_seqItems ho hd ?_)
 refine wpAny_bind ?_
 show wpAny _ _ (forIn items _ _) _ _ s
 rw [← Array.forIn_toList]
 refine wpAny_forIn_list _ (fun rest r s' => s' = s ∧ ∀ v ∈ rest, carriedByValue v = true) _ ?_ ?_ _ _ ⟨rfl, hi.byValue⟩
 ·rintro v rest r s' ⟨rfl, hall⟩
  obtain ⟨b, eb⟩ := by_value (hall v List.mem_cons_self)
  rw [eb]
  refine wpAny_bind (wpAny_pure ?_)
  cases b with
  | true =>
   simp only [Bool.not_true, Bool.false_eq_true, if_false]
   exact wpAny_pure ⟨rfl, fun u hu => hall u (List.mem_cons_of_mem _ hu)⟩
  | false =>
   simp only [Bool.not_false, if_true]
   exact wpAny_pure (by first | exact wpAny_pure (q _) | trace_state)
 ·rintro ⟨r1, r2⟩ s' ⟨rfl, _⟩
  cases r1 with
  | none => exact wpAny_pure (q _)
  | some r => exact wpAny_pure (q _)
end
end SetT
namespace L2
open PySem PySem.Spec PyProof.Rows SetT
open Classical
noncomputable abbrev Yt := Nat × List Key × Addr
noncomputable def SetTO (prog : Program) (w : World) (a : Addr) (Y : List Yt) : HO := .ext fun h => SetGo (tupleKind (j0o prog w)) h a Y
section
variable {prog : Program} {w : World} {A : Around} {E : Value → Shared → Prop} {s : Shared} {a b : Addr} {Y : List Yt} {k : List Key}
theorem go_keep {h h' : Heap} (S : SetGo (tupleKind (j0o prog w)) h a Y) (q : ∀ o, h.get? a = some o → h'.get? a = some o) : SetGo (tupleKind (j0o prog w)) h' a Y := let ⟨o, es, ep, t, h1, h2⟩ := S; ⟨o, es, ep, t, q o h1, h2⟩
theorem go_type (S : SetGo (tupleKind (j0o prog w)) s.heap a Y) : s.TypeIs (.ref a) "set" := let ⟨o, _, _, _, h1, h2, _⟩ := S; ⟨o, h1, h2.1⟩
theorem go_new {h : Heap} (e : h.get? a = some (j1s w)) : SetGo (tupleKind (j0o prog w)) h a [] :=
 ⟨_, #[], 0, _, e, ⟨rfl, rfl, rfl⟩, rfl, ⟨rfl, rfl, List.Pairwise.nil, fun z hz => (by cases hz), by show 0 ≤ 7; decide, rfl, .inl rfl, fun z hz => (by cases hz)⟩, by show 0 * 5 < 7 * 3; decide, .inl rfl⟩
theorem notin_setT {Q : Value → Shared → Prop} (hu : A.units + 1 < cLine) (S : SetGo (tupleKind (j0o prog w)) s.heap a Y) (hY : ∀ y ∈ Y, (tupleKind (j0o prog w)).is s.heap y.2.1 y.2.2) (hb : (tupleKind (j0o prog w)).is s.heap k b)
  (h : ∀ tk, Q (.bool (decide (k ∉ Y.map (·.2.1)))) { s with toks := tk }) : wpAny (model prog w) A (compareOp .NotIn (.ref b) (.ref a)) Q E s := by
 have hT := go_type S
 show wpAny _ _ (do return .bool (!(← contains (.ref a) (.ref b)))) Q E s
 refine wpAny_bind ?_
 unfold contains
 try with_reducible refine wpAny_holding ?_
 refine wpAny_bind (wpAny_specialOf hT PySem.F.slot_set_contains.lookup ?_)
 show wpAny _ _ (if (some (Value.builtin "set.__contains__") == some Value.none) = true then _ else _) _ E s
 rw [if_neg (by rw [beq_builtin_none]; exact Bool.false_ne_true)]
 refine wpAny_bind (wpAny_callSpecialUnlessNone?_slot (name := Str.ofString "__contains__") hT PySem.F.slot_set_contains (wpAny_call_entry PySem.F.slot_set_contains hT entry_set_contains ?_ (PySem.F.args_set_contains_2 _ _)))
 unfold Builtin.«frozenset.__contains__» Builtin.Frozenset.oneOther
 simp only [List.isEmpty_nil, bind_assoc]
 unfold Builtin.Frozenset.addrOf Builtin.Frozenset.withSetAsKey setContains
 refine wpAny_bind (wpAny_pure ?_)
 try dsimp only
 refine wpAny_bind (wpAny_pure ?_)
 try dsimp only
 refine wpAny_bind (wpAny_tryCatch (wpAny_holding ?_))
 refine wpAny_bind ((tupleKind (j0o prog w)).pyHash (k := k) (tupleKind_room_in1 hu) hb ?_)
 refine wpAny_bind (wp_findT (s := { s with toks := s.toks + (tupleKind (j0o prog w)).draws k }) unseen_tuple (tupleKind_room_in1 hu) S hY hb (fun hz => ?_) (fun j hz => ?_))
 ·refine wpAny_pure ?_
  show wpAny _ _ (ret (Value.bool false)) _ _ _
  have h := h (s.toks + (tupleKind (j0o prog w)).draws k)
  rw [decide_eq_true hz] at h
  exact wpAny_pure ⟨_, rfl, wpAny_truthy_bool (wpAny_pure h)⟩
 ·refine wpAny_pure ?_
  show wpAny _ _ (ret (Value.bool true)) _ _ _
  have h := h (s.toks + (tupleKind (j0o prog w)).draws k)
  rw [decide_eq_false (not_not_intro hz)] at h
  exact wpAny_pure ⟨_, rfl, wpAny_truthy_bool (wpAny_pure h)⟩
theorem call_addT {Q : Value → Shared → Prop} (hu : A.units + 1 < cLine) (S : SetGo (tupleKind (j0o prog w)) s.heap a Y) (hY : ∀ y ∈ Y, (tupleKind (j0o prog w)).is s.heap y.2.1 y.2.2) (hb : (tupleKind (j0o prog w)).is s.heap k b) (hl : Y.length + 1 ≤ 300)
  (h : ∀ h' tk Y', Heap.SameBut a s.heap h' → SetGo (tupleKind (j0o prog w)) h' a Y' → (Y'.map (·.2)).Perm (if k ∈ Y.map (·.2.1) then Y.map (·.2) else (k, b) :: Y.map (·.2)) → Q .none { s with heap := h', toks := tk }) :
  wpAny (model prog w) A (call (.builtin "set.add") [.ref a, .ref b]) Q E s := by
 have hT := go_type S
 refine wpAny_call_entry F.slot_set_add hT F.entry_set_add ?_ (F.args_set_add_2 _ _)
 unfold Builtin.«set.add» Builtin.Frozenset.oneOther
 simp only [List.isEmpty_nil, bind_assoc]
 unfold Builtin.Frozenset.addrOf setAdd
 refine wpAny_bind (wpAny_pure ?_)
 try dsimp only
 refine wpAny_bind (wpAny_pure ?_)
 try dsimp only
 refine wpAny_bind ?_
 refine wpAny_holding ?_
 refine wpAny_bind ((tupleKind (j0o prog w)).pyHash (k := k) (tupleKind_room_in1 hu) hb ?_)
 refine wp_addT (s := { s with toks := s.toks + (tupleKind (j0o prog w)).draws k }) unseen_tuple hashes_tuple (tupleKind_room_in1 hu) S hY hb hl (fun hk => ?_) (fun h' Y' hk sb S' p => ?_)
 ·show wpAny _ _ (ret Value.none) _ _ _
  exact wpAny_pure ⟨_, rfl, h s.heap _ Y (Heap.SameBut.refl a s.heap) S (by rw [if_pos hk])⟩
 ·show wpAny _ _ (ret Value.none) _ _ _
  exact wpAny_pure ⟨_, rfl, h h' _ Y' sb S' (by rw [if_neg hk]; exact p)⟩
end
section
variable {X : Cx} {σ : St} {H : Hp} {Q : VK} {pins : List (Addr × Obj)} {s : Shared} {a b : Addr} {Y : List Yt}
theorem setT_obj {h : Heap} (S : SetGo (tupleKind (j0o X.prog X.w)) h a Y) : ObjOk X.prog X.w H h a (SetTO X.prog X.w a Y) := by
 refine ⟨S, ?_, fun h1 h2 q k => go_keep q k⟩
 obtain ⟨o, _, _, _, ho, _⟩ := S
 exact ⟨o, ho⟩
theorem Inv.setT (I : Inv X pins σ H s) (h : H a = some (SetTO X.prog X.w a Y)) : SetGo (tupleKind (j0o X.prog X.w)) s.heap a Y := (I.hok a _ h).1
structure TsAt (prog : Program) (w : World) (H : Hp) (a : Addr) (ks : List (List Key)) : Prop where
 ex : ∃ Y, H a = some (SetTO prog w a Y) ∧ (∀ y ∈ Y, H y.2.2 = some (.tup (y.2.1.map kV))) ∧ (Y.map (·.2.1)).Perm ks
theorem TsAt.same {prog : Program} {w : World} {H H' : Hp} {ks : List (List Key)} (h : TsAt prog w H a ks) (s : Same H H') : TsAt prog w H' a ks := let ⟨Y, h1, h2, h3⟩ := h.ex; ⟨Y, s _ _ h1, fun y hy => s _ _ (h2 y hy), h3⟩
theorem TsAt.keep {prog : Program} {w : World} {H H' : Hp} {ks : List (List Key)} (h : TsAt prog w H a ks) (k1 : H' a = H a) (k2 : ∀ b xs, H b = some (.tup xs) → H' b = some (.tup xs)) : TsAt prog w H' a ks := let ⟨Y, h1, h2, h3⟩ := h.ex; ⟨Y, by rw [k1]; exact h1, fun y hy => k2 _ _ (h2 y hy), h3⟩
theorem TsAt.ne {prog : Program} {w : World} {H : Hp} {ks : List (List Key)} {o : HO} (h : TsAt prog w H a ks) (e : H b = some o) (ho : ∀ φ, o ≠ .ext φ) : b ≠ a := fun q => by
 obtain ⟨Y, h1, _⟩ := h.ex
 rw [q, h1] at e
 exact ho _ (Option.some.inj e).symm
theorem TsAt.some {prog : Program} {w : World} {H : Hp} {ks : List (List Key)} (h : TsAt prog w H a ks) : H a ≠ none := fun q => by
 obtain ⟨Y, h1, _⟩ := h.ex
 rw [q] at h1
 cases h1
theorem ev_set0T {p pos : Pos} (hm : X.mg "set" = none) (h : ∀ D, H D = none → Q (.ref D) (upd H D (SetTO X.prog X.w D []))) (hg : Gl X "set" := by rfl) : Ev X (.Call (.Name "set" p) [] [] pos) σ H Q := by
 refine ⟨fun pins s I => Call_ (ld_blt I hg hm PyProof.Rows.boot_set (PyProof.Rows.callWith_type0 (call_set0 ?_)))⟩
 exact ⟨.ref s.heap.objs.size, _, I.laid (t' := s.toks) (fun b o e => Heap.get?_push_of_some _ e) (Nat.le_refl _) (setT_obj (go_new (Heap.get?_push_size _ rfl))), rfl, h _ I.fresh⟩
theorem ts_new {prog : Program} {w : World} {D : Addr} : TsAt prog w (upd H D (SetTO prog w D [])) D [] := ⟨[], j0b, fun y hy => (by cases hy), .refl _⟩
theorem op_notin_setT (hu : X.A.units + 1 < cLine) : OpR X (compareOp .NotIn) (fun x y H Q => ∃ k b a ks, x = .ref b ∧ y = .ref a ∧ H b = some (.tup (k.map kV)) ∧ TsAt X.prog X.w H a ks ∧ Q (.bl (decide (k ∉ ks))) H) := by
 intro pins s σ H x y v u Q I rx ry h
 obtain ⟨k, b, a, ks, rfl, rfl, hb, T, q⟩ := h
 obtain ⟨Y, h1, h2, h3⟩ := T.ex
 cases (show v = Value.ref b from rx)
 cases (show u = Value.ref a from ry)
 refine notin_setT hu (Inv.setT I h1) (fun y hy => j3d I.hok (h2 y hy)) (j3d I.hok hb) fun tk => ⟨.bl (decide (k ∉ ks)), H, I.tok _, ?_, q⟩
 show Value.bool _ = Value.bool _
 congr 1
 exact decide_eq_decide.mpr (not_congr h3.mem_iff)
theorem ev_addT {o e : Expr} {ap cp : Pos} (hu : X.A.units + 1 < cLine) (h : Ev X o σ H fun x H1 => ∃ a, x = .ref a ∧ (∃ ks, TsAt X.prog X.w H1 a ks) ∧ Ev X e σ H1 fun y H2 => ∃ k b ks, y = .ref b ∧ H2 b = some (.tup (k.map kV)) ∧ TsAt X.prog X.w H2 a ks ∧ ks.length + 1 ≤ 300 ∧
   ∀ oo, TsAt X.prog X.w (upd H2 a oo) a (if k ∈ ks then ks else k :: ks) → Q .non (upd H2 a oo))
  (hbase : attributeBase o "add" X.env (eval o X.env) = eval o X.env := by rfl)
  (hfew : ((backTo cp (starEach [e] X.env)).all (fun x => !x.1) && (backToKw cp (keywordEach [] X.env)).all (fun x => x.1.isSome) && decide ([e].length + ([] : List Keyword).length + (if ([] : List Keyword).isEmpty then 0 else 1) < 30)) = true := by rfl)
  (hline : (ap.endLine == cp.line) = true := by rfl) (hs : starEach [e] X.env = (false, eval e X.env) :: starEach [] X.env := by rfl) (hst : isStar e = false := by rfl) : Ev X (.Call (.Attribute o "add" ap) [e] [] cp) σ H Q := by
 refine ⟨fun pins s I => wpAny_Call_method_late hbase hfew hline rfl (thn (h.run pins s I) fun v s1 ⟨x, H1, I1, r1, a, ex, ⟨ks, hA⟩, h2⟩ => ?_)⟩
 subst ex
 cases (show v = Value.ref a from r1)
 obtain ⟨Y0, g1, _⟩ := hA.ex
 have S := Inv.setT I1 g1
 refine ⟨"set", "set.add", PySem.F.plainAttrs_set, PySem.F.slot_set_add, PySem.F.type_set_add, go_type S, fun b eb => ?_, ?_⟩
 ·cases eb
  obtain ⟨o, _, _, _, ho, hx, _⟩ := S
  exact ⟨o, ho, hx.2.1⟩
 have hE : Ea X [e] σ H1 (fun ys H2 => ∃ k b ks, ys = [.ref b] ∧ H2 b = some (.tup (k.map kV)) ∧ TsAt X.prog X.w H2 a ks ∧ ks.length + 1 ≤ 300 ∧ ∀ oo, TsAt X.prog X.w (upd H2 a oo) a (if k ∈ ks then ks else k :: ks) → Q .non (upd H2 a oo)) :=
  j0a (h2.mono fun y H2 ⟨k, b, ks, ey, q⟩ => j0e ⟨k, b, ks, by rw [ey], q⟩) hst
 have hA2 := hE.run cp pins s1 I1
 rw [hs] at hA2 ⊢
 refine Calls.callWith_builtin rfl (Calls.evalArgs_plain ?_)
 refine thn hA2 fun us s2 ⟨vs, H2, I2, r2, k, b, ks, ev, hb, T, hl, q⟩ => ?_
 subst ev
 obtain ⟨u, rfl, ru⟩ := vals1 r2
 cases (show u = Value.ref b from ru)
 obtain ⟨Y, g1, g2, g3⟩ := T.ex
 have hlY : Y.length = ks.length := by
  have := g3.length_eq
  rw [List.length_map] at this
  exact this
 refine call_addT hu (Inv.setT I2 g1) (fun y hy => j3d I2.hok (g2 y hy)) (j3d I2.hok hb) (by omega) fun h' tk Y' sb S' p => ?_
 refine ⟨.non, _, j2w (t' := tk) I2 (by rw [g1]; exact True.intro) sb ?_ (setT_obj S'), rfl, q _ ?_⟩
 ·obtain ⟨o, _, _, _, ho, _⟩ := S'
  exact ⟨o, ho⟩
 ·have nt : ∀ {c : Addr} {xs : List V}, H2 c = some (.tup xs) → c ≠ a := fun e z => by
   rw [z, g1] at e
   cases e
  refine ⟨Y', j0b, fun y hy => ?_, ?_⟩
  ·have hm : y.2 ∈ (if k ∈ Y.map (·.2.1) then Y.map (·.2) else (k, b) :: Y.map (·.2)) := p.mem_iff.mp (List.mem_map.mpr ⟨y, hy, rfl⟩)
   have old : y.2 ∈ Y.map (·.2) → (upd H2 a (SetTO X.prog X.w a Y')) y.2.2 = some (.tup (y.2.1.map kV)) := fun hm => by
    obtain ⟨z, hz, ez⟩ := List.mem_map.mp hm
    rw [← ez, j0d (nt (g2 z hz))]
    exact g2 z hz
   split at hm
   ·exact old hm
   ·rcases List.mem_cons.mp hm with e | hm
    ·rw [e, j0d (nt hb)]
     exact hb
    ·exact old hm
  ·have p2 := p.map (·.1)
   rw [List.map_map] at p2
   refine p2.trans ?_
   by_cases c : k ∈ Y.map (·.2.1)
   ·rw [if_pos c, if_pos (g3.mem_iff.mp c), List.map_map]
    exact g3
   ·rw [if_neg c, if_neg (fun z => c (g3.mem_iff.mpr z)), List.map_cons, List.map_map]
    exact g3.cons k
end
end L2
namespace V5
open PySem L2 Nt Sort2 SetT
noncomputable def AtE (n : Net) (H : Hp) (ts : List Addr) (es : List Nt.End) : Prop := ts.length = es.length ∧ ∀ (j : Nat) t e, ts[j]? = some t → es[j]? = some e → H t = some (TN n e)
theorem AtE.keep {n : Net} {H H' : Hp} {ts : List Addr} {es : List Nt.End} (h : AtE n H ts es) (k : ∀ t p j, H t = some (Tn p j) → H' t = some (Tn p j)) : AtE n H' ts es := ⟨h.1, fun j t e h1 h2 => k _ _ _ (h.2 j t e h1 h2)⟩
theorem AtE.same {n : Net} {H H' : Hp} {ts : List Addr} {es : List Nt.End} (h : AtE n H ts es) (s : Same H H') : AtE n H' ts es := h.keep fun _ _ _ q => s _ _ q
theorem AtE.append {n : Net} {H : Hp} {ts us : List Addr} {es fs : List Nt.End} (h : AtE n H ts es) (g : AtE n H us fs) : AtE n H (ts ++ us) (es ++ fs) := by
 refine ⟨by rw [List.length_append, List.length_append, h.1, g.1], fun j t e h1 h2 => ?_⟩
 have hl := h.1
 by_cases hj : j < ts.length
 ·rw [List.getElem?_append_left hj] at h1
  rw [List.getElem?_append_left (by omega)] at h2
  exact h.2 j t e h1 h2
 ·rw [List.getElem?_append_right (by omega)] at h1 h2
  rw [← hl] at h2
  exact g.2 _ t e h1 h2
theorem tn_eq {n : Net} (hN : (n.map (·.1)).Nodup) {a b : Nt.End} (ha : a ∈ ends n) (hb : b ∈ ends n) : decide (nameAt n a.1 = nameAt n b.1 ∧ (a.2 : Int) = (b.2 : Int)) = decide (a = b) := by
 obtain ⟨z1, h1⟩ := mem_ends.mp ha
 obtain ⟨z2, h2⟩ := mem_ends.mp hb
 refine decide_eq_decide.mpr ⟨fun ⟨p, q⟩ => key_inj hN (j1r h1) (j1r h2) (by unfold key; rw [p, q]), fun e => by rw [e]; exact ⟨rfl, rfl⟩⟩
noncomputable def StepAt (n : Net) (H : Hp) (d : Addr) (c : Int) : Prop := ∃ kvs, H d = some (.dT kvs) ∧ ∀ e ∈ ends n, ∃ u, valV kvs (key n e) = some (.ref u) ∧ H u = some (TN n (go c n e))
theorem StepAt.same {n : Net} {H H' : Hp} {d : Addr} {c : Int} (h : StepAt n H d c) (s : Same H H') : StepAt n H' d c := let ⟨kvs, h1, h2⟩ := h; ⟨kvs, s _ _ h1, fun e he => let ⟨u, a, b⟩ := h2 e he; ⟨u, a, s _ _ b⟩⟩
theorem StepAt.get {n : Net} {H : Hp} {d t : Addr} {c : Int} {e : Nt.End} (h : StepAt n H d c) (he : e ∈ ends n) (ht : H t = some (TN n e)) : ∃ u, DGet H d (.ref t) (some (.ref u)) ∧ H u = some (TN n (go c n e)) := by
 obtain ⟨kvs, h1, h2⟩ := h
 obtain ⟨u, a, b⟩ := h2 e he
 exact ⟨u, by rw [← a]; exact DGet.t (k := key n e) h1 ht, b⟩
structure WAt (n : Net) (H : Hp) (L : Addr) (ls : List Addr) (ws : List (List Nt.End)) : Prop where
 lst : H L = some (.lst (ls.map V.ref))
 len : ls.length = ws.length
 nod : ls.Nodup
 out : L ∉ ls
 at' : ∀ (j : Nat) l w, ls[j]? = some l → ws[j]? = some w → ∃ ts, H l = some (.lst (ts.map V.ref)) ∧ AtE n H ts w
theorem WAt.same {n : Net} {H H' : Hp} {L : Addr} {ls : List Addr} {ws : List (List Nt.End)} (h : WAt n H L ls ws) (s : Same H H') : WAt n H' L ls ws :=
 ⟨s _ _ h.lst, h.len, h.nod, h.out, fun j l w h1 h2 => let ⟨ts, a, b⟩ := h.at' j l w h1 h2; ⟨ts, s _ _ a, b.same s⟩⟩
theorem WAt.keep {n : Net} {H H' : Hp} {L : Addr} {ls : List Addr} {ws : List (List Nt.End)} (h : WAt n H L ls ws) (hL : H' L = H L) (kl : ∀ l ∈ ls, ∀ o, H l = some o → H' l = some o) (kt : ∀ t p j, H t = some (Tn p j) → H' t = some (Tn p j)) : WAt n H' L ls ws :=
 ⟨by rw [hL]; exact h.lst, h.len, h.nod, h.out, fun j l w h1 h2 => let ⟨ts, a, b⟩ := h.at' j l w h1 h2; ⟨ts, kl l (List.mem_of_getElem? h1) _ a, b.keep kt⟩⟩
theorem WAt.snoc {n : Net} {H H' : Hp} {L l : Addr} {ls ts : List Addr} {ws : List (List Nt.End)} {v : List Nt.End} (h : WAt n H L ls ws) (hL : H' L = some (.lst (ls.map V.ref ++ [.ref l]))) (kl : ∀ l ∈ ls, ∀ o, H l = some o → H' l = some o) (kt : ∀ t p j, H t = some (Tn p j) → H' t = some (Tn p j))
  (hl : H' l = some (.lst (ts.map V.ref))) (hv : AtE n H' ts v) (hn : l ∉ ls) (hLl : L ≠ l) : WAt n H' L (ls ++ [l]) (ws ++ [v]) := by
 refine ⟨by rw [hL, List.map_append]; rfl, by rw [List.length_append, List.length_append, h.len]; rfl, j2q h.nod hn, fun hm => ?_, fun j a x h1 h2 => ?_⟩
 ·rcases List.mem_append.mp hm with hm | hm
  ·exact h.out hm
  ·exact hLl (List.mem_singleton.mp hm)
 ·have hlen := h.len
  by_cases hj : j < ls.length
  ·rw [List.getElem?_append_left hj] at h1
   rw [List.getElem?_append_left (by omega)] at h2
   obtain ⟨us, q1, q2⟩ := h.at' j a x h1 h2
   exact ⟨us, kl a (List.mem_of_getElem? h1) _ q1, q2.keep kt⟩
  ·rw [List.getElem?_append_right (by omega)] at h1 h2
   have hj2 : j - ls.length = 0 := by
    have := (List.getElem?_eq_some_iff.mp h1).1
    simp at this
    omega
   rw [hj2] at h1
   rw [← hlen, hj2] at h2
   cases h1
   cases h2
   exact ⟨ts, hl, hv⟩
theorem ends_at {n : Net} {i : Nat} {p : Str × Nt.End} (h : (j0s n)[i]? = some p) : (ends n)[i]? = some p.2 := by unfold ends; rw [List.getElem?_map, h]; rfl
noncomputable def spFF : Sp := fun vs H Q _ => ∃ (dl t : Addr) (n : Net) (e : Nt.End), vs = [.ref dl, .ref t] ∧ StepAt n H dl 1 ∧ (n.map (·.1)).Nodup ∧ j1g n ∧ (ties n).length ≤ 1000 ∧ e ∈ ends n ∧ H t = some (TN n e) ∧
 ∀ (l : Addr) (ts : List Addr) (H' : Hp), Same H H' → H l = none → H' l = some (.lst (ts.map V.ref)) → AtE n H' ts (face n e) → Q (.ref l) H'
noncomputable def spFaces : Sp := fun vs H Q _ => ∃ (R : Addr) (as : List (Addr × Addr)) (n : Net), vs = [.ref R] ∧ RowsAt H R as n ∧ (n.map (·.1)).Nodup ∧ j1g n ∧ n.length ≤ 1000 ∧ (ties n).length ≤ 200 ∧
 ∀ (L : Addr) (ls : List Addr) (H' : Hp), Same H H' → H L = none → WAt n H' L ls (fac n) → (∀ l ∈ ls, H l = none) → Q (.ref L) H'
section
variable {P : Program} {w : World} {K : PySem.W.Frag} {mg : Str → Option Value} {base : Heap}
noncomputable abbrev NFf : List Str := ["steps", "first", "face", "end"]
theorem scFF : FnScope NFf ["steps", "first"] (j0c sFaceF) := ⟨rfl, rfl, rfl, by decide +kernel, rfl, by decide +kernel, by decide +kernel⟩
theorem ok_FF {f : Addr} {fd : FuncData} (F : Fun K "face_from" "face_from" sFaceF f fd) (T : Txt mg) : FnOk P w K mg base CX0 1 f fd ["steps", "first"] spFF := by
 refine F.gb scFF (fun vs H Q E h => ?_) (fun b0 H vs Q E hr h => ?_)
 ·obtain ⟨dl, t, n, e, rfl, _⟩ := h
  rfl
 obtain ⟨dl, t, n, e, rfl, hL, hN, hT, hti, he, ht, q⟩ := h
 have nd := scFF.nd
 have hel := ends_len n
 have hu := hr.u1
 have un := hr.u100
 obtain ⟨k, pk, hk⟩ := perF_some hT he
 have k0 := pk.pos
 have stp : ∀ {H' : Hp} {c : Nt.End} {u : Addr}, Same H H' → c ∈ ends n → H' u = some (TN n c) → ∃ v, DGet H' dl (.ref u) (some (.ref v)) ∧ H' v = some (TN n (step n c)) := fun {H' c u} sm hc hu' => by
  obtain ⟨v, g, e⟩ := (hL.same sm).get hc hu'
  rw [← step_go hT hc] at e
  exact ⟨v, g, e⟩
 let X : Cx := cxB NFf "face_from" (j0c sFaceF) P w K mg base b0
 show Run X _ _ [some (.ref dl), some (.ref t), none, none] H
 refine j0k 2 nd (j2p (j0a (ev_v 1 (j0e ⟨(by show 1 ≤ sizeLine; decide), fun l hl => ?_⟩))))
 have s1 := j0g hl (.lst [.ref t])
 have el : (upd H l (.lst [.ref t])) l = some (.lst ([t].map V.ref)) := j0b
 generalize upd H l (.lst [.ref t]) = H1 at s1 el
 obtain ⟨u1, g1, e1⟩ := stp s1 he (s1 _ _ ht)
 refine j0k 3 nd (j21 hu (ev_v 0 (ev_v 1 ⟨dl, .ref u1, rfl, g1, ?_⟩)))
 show Run _ _ _ [some (.ref dl), some (.ref t), some (.ref l), some (.ref u1)] H1
 refine run_while (fun m σ H2 => ∃ (j : Nat) (ts : List Addr) (u : Addr), m = k - j ∧ 0 < j ∧ j ≤ k ∧ Same H H2 ∧ H2 l = some (.lst (ts.map V.ref)) ∧ AtE n H2 ts (fl n e j) ∧ H2 u = some (TN n (it (step n) j e)) ∧ σ = [some (.ref dl), some (.ref t), some (.ref l), some (.ref u)])
  (m0 := k - 1) ⟨1, [t], u1, rfl, Nat.one_pos, k0, s1, el, ⟨rfl, fun j x c h1 h2 => ?_⟩, e1, rfl⟩ ?_
 ·match j with
  | 0 => cases h1; cases h2; exact s1 _ _ ht
  | j + 1 => simp at h1
 rintro m σ H2 ⟨j, ts, u, rfl, j0, j1, sH, el2, at2, eu, rfl⟩
 have hje : it (step n) j e ∈ ends n := it_mem (fun a ha => step_end hT ha) he j
 refine j14 (op_neD un) (ev_v 3 (ev_v 1 ⟨1, _, by decide, rnD_tn eu (sH _ _ ht), _, rfl, ?_⟩))
 rw [tn_eq hN hje he]
 have tl := at2.1
 rw [fl_len] at tl
 by_cases c : it (step n) j e = e
 ·rw [decide_eq_true c]
  have jk : j = k := by
   rcases Nat.lt_or_ge j k with h | h
   ·exact absurd c (pk.first j j0 h)
   ·omega
  subst jk
  refine iteF (j0p (ev_v 2 (q l ts H2 sH hl el2 ?_)))
  unfold face
  rw [perF_eq pk]
  exact at2
 ·rw [decide_eq_false c]
  have jk : j < k := by
   rcases Nat.lt_or_ge j k with h | h
   ·exact h
   ·have : j = k := by omega
    subst this
    exact absurd pk.back c
  refine iteT (j1w (j1y (ev_v 2 ⟨l, rfl, ⟨_, el2⟩, ev_v 3 ⟨_, el2, by rw [List.length_map]; exact j00 (by omega), ?_⟩⟩)))
  have sH3 : Same H (upd H2 l (.lst (ts.map V.ref ++ [.ref u]))) := j02 sH hl
  have el3 : (upd H2 l (.lst (ts.map V.ref ++ [.ref u]))) l = some (.lst ((ts ++ [u]).map V.ref)) := by rw [j0b, List.map_append]; rfl
  have kt : ∀ b p' j', H2 b = some (Tn p' j') → (upd H2 l (.lst (ts.map V.ref ++ [.ref u]))) b = some (Tn p' j') := fun b p' j' h => by
   rw [j0d (j1q h el2 fun z => nomatch z)]
   exact h
  generalize upd H2 l (.lst (ts.map V.ref ++ [.ref u])) = H3 at sH3 el3 kt
  obtain ⟨v2, g4, e4⟩ := stp sH3 hje (kt _ _ _ eu)
  refine j0k 3 nd (j21 hu (ev_v 0 (ev_v 3 ⟨dl, .ref v2, rfl, g4, ?_⟩)))
  refine j0i ⟨k - (j + 1), by omega, j + 1, ts ++ [u], v2, rfl, Nat.succ_pos _, jk, sH3, el3, ?_, e4, rfl⟩
  rw [fl_succ]
  refine (at2.keep kt).append ⟨rfl, fun j x c h1 h2 => ?_⟩
  match j with
  | 0 => cases h1; cases h2; exact kt _ _ _ eu
  | j + 1 => simp at h1
noncomputable abbrev NFs : List Str := ["rows", "ends", "steps", "told", "faces", "first", "face", "end"]
theorem scFs : FnScope NFs ["rows"] (j0c sFaces) := ⟨rfl, rfl, rfl, by decide +kernel, rfl, by decide +kernel, by decide +kernel⟩
structure Told (n : Net) (ks : List (List Key)) (tl : List Nt.End) : Prop where
 nod : ks.Nodup
 mem : ∀ e ∈ ends n, key n e ∈ ks ↔ e ∈ tl
 of : ∀ k ∈ ks, ∃ e ∈ ends n, k = key n e
theorem Told.len {n : Net} {ks : List (List Key)} {tl : List Nt.End} (h : Told n ks tl) : ks.length ≤ (ends n).length := by
 have := h.nod.length_le_of_subset (l₂ := (ends n).map (key n)) fun k hk => by
  obtain ⟨e, he, rfl⟩ := h.of k hk
  exact List.mem_map.mpr ⟨e, he, rfl⟩
 rw [List.length_map] at this
 exact this
open Classical in
theorem Told.add {n : Net} (hN : (n.map (·.1)).Nodup) {ks : List (List Key)} {tl : List Nt.End} (h : Told n ks tl) {e : Nt.End} (he : e ∈ ends n) : Told n (if key n e ∈ ks then ks else key n e :: ks) (tl ++ [e]) := by
 have inj : ∀ {a b : Nt.End}, a ∈ ends n → b ∈ ends n → key n a = key n b → a = b := fun {a b} ha hb k => by
  obtain ⟨z1, h1⟩ := mem_ends.mp ha
  obtain ⟨z2, h2⟩ := mem_ends.mp hb
  exact key_inj hN (j1r h1) (j1r h2) k
 by_cases c : key n e ∈ ks
 ·rw [if_pos c]
  refine ⟨h.nod, fun a ha => ?_, h.of⟩
  rw [h.mem a ha, List.mem_append, List.mem_singleton]
  exact ⟨fun k => .inl k, fun k => by
   rcases k with k | k
   ·exact k
   ·rw [k]
    exact (h.mem e he).mp c⟩
 ·rw [if_neg c]
  refine ⟨List.nodup_cons.mpr ⟨c, h.nod⟩, fun a ha => ?_, fun k hk => ?_⟩
  ·rw [List.mem_cons, h.mem a ha, List.mem_append, List.mem_singleton]
   constructor
   ·rintro (k | k)
    ·exact .inr (inj ha he k)
    ·exact .inl k
   ·rintro (k | k)
    ·exact .inr k
    ·exact .inl (by rw [k])
  ·rcases List.mem_cons.mp hk with k1 | k1
   ·exact ⟨e, he, k1⟩
   ·exact h.of k k1
open Classical in
theorem ok_faces {f : Addr} {fd : FuncData} (F : Fun K "faces_of" "faces_of" sFaces f fd) (T : Txt mg)
  (GO : Has P w K mg base 3 "ends_in_order" ["rows"] spOrd)
  (GL : Has P w K mg base 3 "left_steps" ["rows"] (spLS 1))
  (GF : Has P w K mg base 3 "face_from" ["steps", "first"] spFF) :
  FnOk P w K mg base CX0 4 f fd ["rows"] spFaces := by
 refine F.gb scFs (fun vs H Q E h => ?_) (fun b0 H vs Q E hr h => ?_)
 ·obtain ⟨R, as, n, rfl, _⟩ := h
  rfl
 obtain ⟨R, as, n, rfl, hR, hN, hT, hn, hti, q⟩ := h
 have nd := scFs.nd
 have hel := ends_len n
 have hu := hr.u1
 let X : Cx := cxB NFs "faces_of" (j0c sFaces) P w K mg base b0
 show Run X _ _ [some (.ref R), none, none, none, none, none, none, none] H
 refine j0k 1 nd (j0v GO hr (j0a (ev_v 0 (j0e ⟨R, as, n, rfl, hR, hn, by omega, fun U us H1 s1 n1 e1 at1 => ?_⟩))))
 have lus : us.length = (ends n).length := by rw [at1.1]; unfold ends; rw [List.length_map]
 refine j1n (et_not (et_truth (ev_v 1 (v := .ref U) ⟨!(us.map V.ref).isEmpty, Or.inl ⟨_, SqL.of e1, rfl⟩, ?_⟩)))
 rw [Bool.not_not]
 by_cases hb : ends n = []
 ·have hus : us = [] := List.length_eq_zero_iff.mp (by rw [lus, hb]; rfl)
  subst hus
  refine iteT (j0p (j2p (j0a (j2p (j0e ⟨(by show 0 ≤ sizeLine; decide), fun l hl => j0e ⟨(by show 1 ≤ sizeLine; decide), fun L hL => ?_⟩⟩)))))
  have s2 := j0g hl (.lst [])
  have s3 := j0g hL (.lst [.ref l])
  refine q L [l] _ ((s1.trans s2).trans s3) ((s1.trans s2).free hL) ?_ fun l' hl' => by rw [List.mem_singleton.mp hl']; exact s1.free hl
  unfold fac
  rw [if_pos hb]
  refine ⟨j0b, rfl, by simp, fun hm => ?_, fun j l' w h1 h2 => ?_⟩
  ·rw [List.mem_singleton.mp hm, j0b] at hL
   cases hL
  ·match j with
   | 0 => cases h1; cases h2; exact ⟨[], s3 _ _ j0b, rfl, fun j t e h => by simp at h⟩
   | j + 1 => simp at h1
 have hne : us.map V.ref ≠ [] := fun h => hb (List.length_eq_zero_iff.mp (by have := congrArg List.length h; rw [List.length_map, lus] at this; exact this))
 have hem : (us.map V.ref).isEmpty = false := by
  cases h : us.map V.ref with
  | nil => exact absurd h hne
  | cons a r => rfl
 rw [hem]
 refine iteF (j0i ?_)
 refine j0k 2 nd (j0v GL hr (j0a (ev_v 0 (j0e ⟨R, as, n, rfl, hR.same s1, hN, hT, hn, by omega, fun dl kl H2 s2 n2 e2 v2 => ?_⟩))))
 refine j0k 3 nd (ev_set0T T.tset fun D hD => ?_)
 refine j0k 4 nd (j2p (j0e ⟨(by show 0 ≤ sizeLine; decide), fun L hL => ?_⟩))
 have hSL : StepAt n H2 dl 1 := ⟨kl, e2, v2⟩
 have s12 := s1.trans s2
 have hLD : L ≠ D := fun e => by rw [e, j0b] at hL; cases hL
 have hL2 : H2 L = none := by rw [j0d hLD] at hL; exact hL
 have hD0 := j06 s12 hD
 have hL0 := j06 s12 hL2
 have sB : Same H2 (upd (upd H2 D (SetTO P w D [])) L (.lst [])) := (j0g hD _).trans (j0g hL _)
 have tD0 : TsAt P w (upd (upd H2 D (SetTO P w D [])) L (.lst [])) D [] := ts_new.same (j0g hL _)
 have eL0 : (upd (upd H2 D (SetTO P w D [])) L (.lst [])) L = some (.lst []) := j0b
 have hSLB := hSL.same sB
 have e1B := sB _ _ (s2 _ _ e1)
 have at1B : ∀ (j : Nat) (t : Addr) (p : Str × Nt.End), us[j]? = some t → (j0s n)[j]? = some p → (upd (upd H2 D (SetTO P w D [])) L (.lst [])) t = some (TN n p.2) := fun j t p h1 h2 => sB _ _ (s2 _ _ (at1.2 j t p h1 h2))
 show Run _ _ _ [some (.ref R), some (.ref U), some (.ref dl), some (.ref D), some (.ref L), none, none, none] (upd (upd H2 D (SetTO P w D [])) L (.lst []))
 generalize upd (upd H2 D (SetTO P w D [])) L (.lst []) = H5 at sB tD0 eL0 hSLB e1B at1B
 have sH5 := s12.trans sB
 have nUL : U ≠ L := j0f (s2 _ _ e1) hL2
 have nUD : U ≠ D := j0f (s2 _ _ e1) hD
 have tnD : ∀ {b p j}, H5 b = some (Tn p j) → b ≠ D := fun h => tD0.ne h fun φ z => nomatch z
 refine j2g (ev_v 1 ⟨U, rfl, ⟨_, SqL.of e1B⟩, ?_⟩)
 refine j1x (xs := us.map V.ref) (fun i σ H' => ∃ (ks : List (List Key)) (tl : List Nt.End) (ls : List Addr) (ws : List (List Nt.End)) (u1 u2 u3 : Option V), (∀ b o, b ≠ D → b ≠ L → H5 b = some o → H' b = some o) ∧ TsAt P w H' D ks ∧ Told n ks tl ∧
  WAt n H' L ls ws ∧ (∀ l ∈ ls, H5 l = none) ∧ ls.length ≤ i ∧ fcs n (ends n) [] = ws ++ fcs n ((ends n).drop i) tl ∧ σ = [some (.ref R), some (.ref U), some (.ref dl), some (.ref D), some (.ref L), u1, u2, u3])
  ⟨[], [], [], [], _, _, _, fun b o _ _ h => h, tD0, ⟨List.nodup_nil, fun e _ => by simp, fun k h => by simp at h⟩, ⟨eL0, rfl, List.nodup_nil, by simp, fun j l w h => by simp at h⟩, fun l h => by simp at h, Nat.le_refl _, rfl, rfl⟩ ?_ ?_ ?_
 ·rintro i σ H' _ ⟨_, _, _, _, _, _, _, kp, _⟩
  exact SqL.of (kp _ _ nUD nUL e1B)
 ·rintro i x σ H' hx ⟨ks, tl, ls, ws, u1, u2, u3, kp, tD, told, hW, hf, hli, hwk, rfl⟩
  have hi : i < us.length := by
   have := (List.getElem?_eq_some_iff.mp hx).1
   rw [List.length_map] at this
   exact this
  rw [List.getElem?_map, List.getElem?_eq_getElem hi] at hx
  cases hx
  have hsi : i < (j0s n).length := by have := at1.1; omega
  have ht5 : H5 us[i] = some (TN n (j0s n)[i].2) := at1B i us[i] (j0s n)[i] (List.getElem?_eq_getElem hi) (List.getElem?_eq_getElem hsi)
  have hee := ends_at (List.getElem?_eq_getElem hsi)
  generalize (j0s n)[i].2 = e at ht5 hee
  have he : e ∈ ends n := List.mem_of_getElem? hee
  have hdrop : (ends n).drop i = e :: (ends n).drop (i + 1) := by
   have hie : i < (ends n).length := by omega
   rw [List.drop_eq_getElem_cons hie]
   congr 1
   have := List.getElem?_eq_getElem hie
   rw [hee] at this
   exact (Option.some.inj this).symm
  have ktn : ∀ {b p j}, H5 b = some (Tn p j) → H' b = some (Tn p j) := fun {b p j} h => kp _ _ (tnD h) (j1q h eL0 fun z => nomatch z) h
  have ht' := ktn ht5
  have hst : StepAt n H' dl 1 := by
   obtain ⟨kvs, a, b⟩ := hSLB
   exact ⟨kvs, kp _ _ (tD0.ne a fun φ z => nomatch z) (j1q a eL0 fun z => nomatch z) a, fun e he => let ⟨u, p, r⟩ := b e he; ⟨u, p, ktn r⟩⟩
  refine j0l 5 nd ?_
  refine j1n (j14 (op_notin_setT hu) (ev_v 5 (ev_v 3 ⟨key n e, us[i], D, ks, rfl, rfl, ht', tD, _, rfl, ?_⟩)))
  refine ite2 (fun c => ?_) (fun c => ?_)
  ·have hz : key n e ∉ ks := of_decide_eq_true c
   have hzt : e ∉ tl := fun h => hz ((told.mem e he).mpr h)
   refine j0k 6 nd (j0v GF hr (j0a (ev_v 2 (j0a (ev_v 5 (j0e ⟨dl, us[i], n, e, rfl, hst, hN, hT, by omega, he, ht', fun l ts H6 s6 n6 e6 at6 => ?_⟩))))))
   have eL6 := s6 _ _ hW.lst
   have tD6 := tD.same s6
   have nlL : L ≠ l := j0f hW.lst n6
   have nlD : D ≠ l := fun k => tD.some (by rw [k]; exact n6)
   refine j1w (j1y (ev_v 4 ⟨L, rfl, ⟨_, eL6⟩, ev_v 6 ⟨_, eL6, by rw [List.length_map]; exact j00 (by omega), ?_⟩⟩))
   have k7 : ∀ b o, b ≠ L → H6 b = some o → (upd H6 L (.lst (ls.map V.ref ++ [.ref l]))) b = some o := fun b o hb h => by rw [j0d hb]; exact h
   have eL7 : (upd H6 L (.lst (ls.map V.ref ++ [.ref l]))) L = some (.lst (ls.map V.ref ++ [.ref l])) := j0b
   have tD7 : TsAt P w (upd H6 L (.lst (ls.map V.ref ++ [.ref l]))) D ks := tD6.keep (by rw [j0d (Ne.symm hLD)]) fun b xs h => by rw [j0d (j1q h eL6 fun z => nomatch z)]; exact h
   generalize upd H6 L (.lst (ls.map V.ref ++ [.ref l])) = H7 at k7 eL7 tD7
   have kt7 : ∀ t p j, H6 t = some (Tn p j) → H7 t = some (Tn p j) := fun t p j h => k7 _ _ (j1q h eL6 fun z => nomatch z) h
   have e7 := k7 _ _ (Ne.symm nlL) e6
   have at7 := at6.keep kt7
   have hnl : l ∉ ls := fun hm => by
    obtain ⟨j, hj⟩ := List.getElem?_of_mem hm
    have hlen := hW.len
    have hjw : j < ws.length := by have := (List.getElem?_eq_some_iff.mp hj).1; omega
    obtain ⟨_, a, _⟩ := hW.at' j l ws[j] hj (List.getElem?_eq_getElem hjw)
    rw [n6] at a
    cases a
   have hW7 : WAt n H7 L (ls ++ [l]) (ws ++ [face n e]) := hW.snoc eL7 (fun a ha o ho => k7 _ _ (fun q => hW.out (q ▸ ha)) (s6 _ _ ho)) (fun t p j h => kt7 _ _ _ (s6 _ _ h)) e7 at7 hnl nlL
   have l57 : H5 l = none := by
    cases q5 : H5 l with
    | none => rfl
    | some o => rw [kp _ _ (Ne.symm nlD) (Ne.symm nlL) q5] at n6; cases n6
   have hf7 : ∀ a ∈ ls ++ [l], H5 a = none := fun a ha => by
    rcases List.mem_append.mp ha with ha | ha
    ·exact hf a ha
    ·rw [List.mem_singleton.mp ha]
     exact l57
   have kp7 : ∀ b o, b ≠ D → b ≠ L → H5 b = some o → H7 b = some o := fun b o h1 h2 h => k7 _ _ h2 (s6 _ _ (kp b o h1 h2 h))
   have hll : (ls ++ [l]).length ≤ i + 1 := by rw [List.length_append]; show ls.length + 1 ≤ _; omega
   have hwk7 : fcs n (ends n) [] = (ws ++ [face n e]) ++ fcs n ((ends n).drop (i + 1)) (tl ++ face n e) := by
    rw [hwk, hdrop]
    show ws ++ (if e ∈ tl then _ else _) = _
    rw [if_neg hzt, List.append_assoc]
    rfl
   have hev := face_ends hT he
   have lts := at7.1
   refine j2g (ev_v 6 ⟨l, rfl, ⟨_, SqL.of e7⟩, ?_⟩)
   refine j1x (xs := ts.map V.ref) (fun m σ H9 => ∃ (ks' : List (List Key)) (u3 : Option V), (∀ b o, b ≠ D → H7 b = some o → H9 b = some o) ∧ TsAt P w H9 D ks' ∧ Told n ks' (tl ++ (face n e).take m) ∧
    σ = [some (.ref R), some (.ref U), some (.ref dl), some (.ref D), some (.ref L), some (.ref us[i]), some (.ref l), u3]) ⟨ks, _, fun b o _ h => h, tD7, by rw [List.take_zero, List.append_nil]; exact told, rfl⟩ ?_ ?_ ?_
   ·rintro m σ H9 _ ⟨_, _, k9, _⟩
    exact SqL.of (k9 _ _ (Ne.symm nlD) e7)
   ·rintro m x σ H9 hx ⟨ks', u3, k9, tD9, told9, rfl⟩
    rw [List.getElem?_map, Option.map_eq_some_iff] at hx
    obtain ⟨t, htm, rfl⟩ := hx
    have hmf : m < (face n e).length := by have := (List.getElem?_eq_some_iff.mp htm).1; omega
    have hfm : (face n e)[m]? = some (face n e)[m] := List.getElem?_eq_getElem hmf
    have hc := hev _ (List.mem_of_getElem? hfm)
    have etk : (face n e).take (m + 1) = (face n e).take m ++ [(face n e)[m]] := by rw [List.take_add_one, hfm]; rfl
    have ht7 := at7.2 m t _ htm hfm
    generalize (face n e)[m] = c9 at hfm hc etk ht7
    have nD9 : t ≠ D := fun k => by rw [k] at ht7; exact (tD7.ne ht7 fun φ z => nomatch z) rfl
    have ht9 := k9 _ _ nD9 ht7
    have hle := told9.len
    refine j0l 7 nd ?_
    refine j1w (ev_addT hu (ev_v 3 ⟨D, rfl, ⟨_, tD9⟩, ev_v 7 ⟨key n c9, t, ks', rfl, ht9, tD9, by omega, fun oo tD10 => j0i ⟨_, _, fun b o hb h => by rw [j0d hb]; exact k9 b o hb h, tD10, ?_, rfl⟩⟩⟩))
    rw [etk, ← List.append_assoc]
    exact told9.add hN hc
   ·rintro σ H9 ⟨ks', u3, k9, tD9, told9, rfl⟩
    rw [List.length_map, lts, List.take_length] at told9
    refine j0i (j0i ⟨ks', tl ++ face n e, ls ++ [l], ws ++ [face n e], _, _, _, fun b o h1 h2 h => k9 b o h1 (kp7 b o h1 h2 h), tD9, told9, ?_, hf7, hll, hwk7, rfl⟩)
    have nd9 : ∀ {b o}, H7 b = some o → (∀ φ, o ≠ HO.ext φ) → b ≠ D := fun h ho => tD7.ne h ho
    refine hW7.keep ?_ (fun a ha o ho => k9 a o ?_ ho) fun t p j h => k9 _ _ (nd9 h fun φ z => nomatch z) h
    ·rw [hW7.lst]
     exact k9 _ _ (Ne.symm (Ne.symm hLD)) hW7.lst
    ·intro k
     have := hf7 a ha
     rw [k] at this
     exact tD0.some this
  ·have hz : key n e ∈ ks := Classical.byContradiction fun h => c (decide_eq_true h)
   have hzt : e ∈ tl := (told.mem e he).mp hz
   refine j0i (j0i ⟨ks, tl, ls, ws, _, _, _, kp, tD, told, hW, hf, by omega, ?_, rfl⟩)
   rw [hwk, hdrop]
   show ws ++ (if e ∈ tl then _ else _) = _
   rw [if_pos hzt]
 ·rintro σ H' ⟨ks, tl, ls, ws, u1, u2, u3, kp, tD, told, hW, hf, hli, hwk, rfl⟩
  rw [List.length_map, lus, List.drop_length] at hwk
  have hw2 : fac n = ws := by
   unfold fac
   rw [if_neg hb, hwk]
   exact List.append_nil _
  have sF : Same H H' := fun b o h => kp b o (j0f h hD0) (j0f h hL0) (sH5 _ _ h)
  refine j0p (ev_v 4 (q L ls H' sF hL0 (by rw [hw2]; exact hW) fun l hl => ?_))
  exact sH5.free (hf l hl)
end
end V5
namespace Nt
open PySem L2
noncomputable def nmA (n : Net) (r : Nat) : Str := ((n[r]?).map (·.1)).getD ⟨#[]⟩
theorem nmA_eq {n : Net} {r : Nat} (h : r < n.length) : nmA n r = n[r].1 := by unfold nmA; rw [List.getElem?_eq_getElem h]; rfl
noncomputable abbrev Lk := Str × Str × Str
noncomputable def IsLink (n : Net) (x : Lk) : Prop := ∃ a b, pos n x.1 = [a, b] ∧ x.2.1 = nmA n a.1 ∧ x.2.2 = nmA n b.1
structure LkI (n : Net) (done : List (Str × End)) (kM : List (Key × V)) (ls : List Lk) : Prop where
 m0 : ∀ z, j08 done z = [] → valV kM (Sum.inr z) = none
 m1 : ∀ z a rest, j08 done z = a :: rest → valV kM (Sum.inr z) = some (.str (nmA n a.1))
 mem : ∀ x : Lk, x ∈ ls ↔ ∃ a b rest, j08 done x.1 = a :: b :: rest ∧ x.2.1 = nmA n a.1 ∧ x.2.2 = nmA n b.1
 nod : (ls.map (·.1)).Nodup
 lenM : kM.length ≤ done.length
 lenL : ls.length ≤ done.length
theorem LkI.start (n : Net) : LkI n [] [] [] := ⟨fun _ _ => rfl, fun z a rest h => (by cases h), fun x => ⟨fun h => (by cases h), fun ⟨a, b, rest, h, _⟩ => (by cases h)⟩, List.nodup_nil, Nat.le_refl _, Nat.le_refl _⟩
theorem LkI.new {n : Net} {done : List (Str × End)} {kM : List (Key × V)} {ls : List Lk} (I : LkI n done kM ls) {z : Str} {e : End} (h0 : j08 done z = []) : LkI n (done ++ [(z, e)]) (putK kM (Sum.inr z) (.str (nmA n e.1))) ls := by
 refine ⟨fun y hy => ?_, fun y a rest hy => ?_, fun x => ?_, I.nod, ?_, ?_⟩
 ·rw [j0m] at hy
  obtain ⟨h1, h2⟩ := List.append_eq_nil_iff.mp hy
  have hne : ¬ z = y := fun q => by rw [if_pos q] at h2; cases h2
  rw [j0q, if_neg (fun q => hne (Sum.inr.inj q).symm)]
  exact I.m0 y h1
 ·rw [j0m] at hy
  by_cases q : z = y
  ·subst q
   rw [h0, if_pos rfl] at hy
   cases hy
   rw [j0q, if_pos rfl]
  ·rw [if_neg q, List.append_nil] at hy
   rw [j0q, if_neg (fun p => q (Sum.inr.inj p).symm)]
   exact I.m1 y a rest hy
 ·rw [I.mem x]
  by_cases q : z = x.1
  ·constructor
   ·rintro ⟨a, b, rest, h, _⟩
    rw [← q, h0] at h
    cases h
   ·rintro ⟨a, b, rest, h, _⟩
    rw [j0m, ← q, h0, if_pos rfl] at h
    cases h
  ·constructor
   ·rintro ⟨a, b, rest, h, r⟩
    exact ⟨a, b, rest, by rw [j0m, if_neg q, List.append_nil]; exact h, r⟩
   ·rintro ⟨a, b, rest, h, r⟩
    rw [j0m, if_neg q, List.append_nil] at h
    exact ⟨a, b, rest, h, r⟩
 ·have := j0w kM (Sum.inr z) (.str (nmA n e.1))
  have := I.lenM
  rw [List.length_append, List.length_singleton]
  omega
 ·have := I.lenL
  rw [List.length_append, List.length_singleton]
  omega
theorem LkI.old {n : Net} {done : List (Str × End)} {kM : List (Key × V)} {ls : List Lk} (I : LkI n done kM ls) {z : Str} {a e : End} (h1 : j08 done z = [a]) : LkI n (done ++ [(z, e)]) kM (ls ++ [(z, nmA n a.1, nmA n e.1)]) := by
 have hz : j08 (done ++ [(z, e)]) z = [a, e] := by rw [j0m, h1, if_pos rfl]; rfl
 have hnz : z ∉ ls.map (·.1) := fun h => by
  obtain ⟨x, hx, ex⟩ := List.mem_map.mp h
  obtain ⟨b, c, rest, hp, _⟩ := (I.mem x).mp hx
  have ex : x.1 = z := ex
  rw [ex, h1] at hp
  cases hp
 refine ⟨fun y hy => ?_, fun y b rest hy => ?_, fun x => ?_, ?_, ?_, ?_⟩
 ·rw [j0m] at hy
  exact I.m0 y (List.append_eq_nil_iff.mp hy).1
 ·by_cases q : z = y
  ·subst q
   rw [hz] at hy
   cases hy
   exact I.m1 z a [] h1
  ·rw [j0m, if_neg q, List.append_nil] at hy
   exact I.m1 y b rest hy
 ·rw [List.mem_append, List.mem_singleton, I.mem x]
  by_cases q : z = x.1
  ·constructor
   ·rintro (⟨b, c, rest, h, _⟩ | h)
    ·rw [← q, h1] at h
     cases h
    ·subst h
     exact ⟨a, e, [], hz, rfl, rfl⟩
   ·rintro ⟨b, c, rest, h, r1, r2⟩
    rw [← q, hz] at h
    cases h
    obtain ⟨x1, x2, x3⟩ := x
    have q : z = x1 := q
    have r1 : x2 = nmA n a.1 := r1
    have r2 : x3 = nmA n e.1 := r2
    subst q r1 r2
    exact .inr rfl
  ·constructor
   ·rintro (⟨b, c, rest, h, r⟩ | h)
    ·exact ⟨b, c, rest, by rw [j0m, if_neg q, List.append_nil]; exact h, r⟩
    ·subst h
     exact absurd rfl q
   ·rintro ⟨b, c, rest, h, r⟩
    rw [j0m, if_neg q, List.append_nil] at h
    exact .inl ⟨b, c, rest, h, r⟩
 ·rw [List.map_append]
  exact j2q I.nod hnz
 ·have := I.lenM
  rw [List.length_append, List.length_singleton]
  omega
 ·have := I.lenL
  rw [List.length_append, List.length_append]
  show _ + 1 ≤ _ + 1
  omega
theorem LkI.whole {n : Net} (T : j1g n) {kM : List (Key × V)} {ls : List Lk} (I : LkI n (j0s n) kM ls) (x : Lk) : x ∈ ls ↔ IsLink n x := by
 rw [I.mem x]
 constructor
 ·rintro ⟨a, b, rest, h, r⟩
  have hp : pos n x.1 = a :: b :: rest := h
  have ha : j01 n a = some x.1 := mem_pos.mp (by rw [hp]; exact List.mem_cons_self ..)
  have hl := pos_len n x.1
  rw [hp, T x.1 (j2s ha)] at hl
  have : rest = [] := by
   have : rest.length + 1 + 1 = 2 := hl
   exact List.length_eq_zero_iff.mp (by omega)
  rw [this] at hp
  exact ⟨a, b, hp, r⟩
 ·rintro ⟨a, b, h, r⟩
  exact ⟨a, b, [], h, r⟩
inductive Way (ls : List (Str × Str × Bool)) (f : Str) : Str → Bool → Prop where
 | here : Way ls f f false
 | there {x y : Str} {b o : Bool} : Way ls f x b → (x, y, o) ∈ ls → Way ls f y (b != o)
 | back {x y : Str} {b o : Bool} : Way ls f x b → (y, x, o) ∈ ls → Way ls f y (b != o)
end Nt
namespace V5
open PySem L2 Nt Sort2
noncomputable abbrev T3 (x : Lk) : HO := .tup [.str x.1, .str x.2.1, .str x.2.2]
noncomputable def AtL (H : Hp) (us : List Addr) (ls : List Lk) : Prop := us.length = ls.length ∧ ∀ (j : Nat) u x, us[j]? = some u → ls[j]? = some x → H u = some (T3 x)
theorem AtL.keep {H H' : Hp} {us : List Addr} {ls : List Lk} (h : AtL H us ls) (k : ∀ t xs, H t = some (.tup xs) → H' t = some (.tup xs)) : AtL H' us ls := ⟨h.1, fun j u x h1 h2 => k _ _ (h.2 j u x h1 h2)⟩
theorem AtL.snoc {H : Hp} {us : List Addr} {ls : List Lk} {u : Addr} {x : Lk} (h : AtL H us ls) (hu : H u = some (T3 x)) : AtL H (us ++ [u]) (ls ++ [x]) := by
 refine ⟨by rw [List.length_append, List.length_append, h.1]; rfl, fun j v y h1 h2 => ?_⟩
 have hl := h.1
 by_cases hj : j < us.length
 ·rw [List.getElem?_append_left hj] at h1
  rw [List.getElem?_append_left (by omega)] at h2
  exact h.2 j v y h1 h2
 ·rw [List.getElem?_append_right (by omega)] at h1 h2
  have hj2 : j - us.length = 0 := by
   have := (List.getElem?_eq_some_iff.mp h1).1
   simp at this
   omega
  rw [hj2] at h1
  rw [← hl, hj2] at h2
  cases h1
  cases h2
  exact hu
noncomputable def SortedL (ls : List Lk) : Prop := ls.Pairwise (fun x y => x.1.cps.toList < y.1.cps.toList)
noncomputable def spLinks : Sp := fun vs H Q _ => ∃ (R : Addr) (as : List (Addr × Addr)) (n : Net), vs = [.ref R] ∧ RowsAt H R as n ∧ j1g n ∧ n.length ≤ 1000 ∧ (ties n).length ≤ 60 ∧
 ∀ (L : Addr) (us : List Addr) (ls : List Lk) (H' : Hp), Same H H' → H L = none → H' L = some (.lst (us.map V.ref)) → AtL H' us ls → SortedL ls → (∀ x, x ∈ ls ↔ IsLink n x) → ls.length ≤ 60 → Q (.ref L) H'
theorem posIn_le {n : Net} (T : j1g n) {r p : Nat} {z : Str} (hr : r < n.length) (hz : (row n r)[p]? = some z) : (j08 (j0s (n.take r) ++ j0j r ((row n r).take p) 0) z).length ≤ 1 := by
 obtain ⟨rest, h⟩ := j19 hr hz
 have h1 : j08 (j0s n) z = j08 (j0s (n.take r) ++ j0j r ((row n r).take p) 0) z ++ (r, p) :: j08 rest z := by
  rw [h]
  unfold j08
  rw [List.filter_append, List.map_append, List.filter_cons_of_pos (by simp)]
  rfl
 have h2 : (j08 (j0s n) z).length = 2 := by
  have := pos_len n z
  rw [T z (j2s (e := (r, p)) hz)] at this
  exact this
 rw [h1, List.length_append, List.length_cons] at h2
 omega
section
variable {P : Program} {w : World} {K : PySem.W.Frag} {mg : Str → Option Value} {base : Heap}
noncomputable abbrev NLk : List Str := ["rows", "met", "links", "point", "ties", "tie"]
theorem scLk : FnScope NLk ["rows"] (j0c sLinks) := ⟨rfl, rfl, rfl, by decide +kernel, rfl, by decide +kernel, by decide +kernel⟩
theorem ok_links {f : Addr} {fd : FuncData} (F : Fun K "links_of" "links_of" sLinks f fd) (T : Txt mg) : FnOk P w K mg base CX0 1 f fd ["rows"] spLinks := by
 refine F.gb scLk (fun vs H Q E h => ?_) (fun b0 H vs Q E hr h => ?_)
 ·obtain ⟨R, as, n, rfl, _⟩ := h
  rfl
 obtain ⟨R, as, n, rfl, hR, hT, hn, hti, q⟩ := h
 have nd := scLk.nd
 have hal := hR.len
 have hu := hr.u1
 let X : Cx := cxB NLk "links_of" (j0c sLinks) P w K mg base b0
 show Run X _ _ [some (.ref R), none, none, none, none, none] H
 refine j0k 1 nd (ev_dnewK fun dm hdm => ?_)
 refine j0k 2 nd (j2p (j0e ⟨(by show 0 ≤ sizeLine; decide), fun M hM => ?_⟩))
 have nMd : M ≠ dm := fun e => by rw [e, j0b] at hM; cases hM
 have hM0 : H M = none := by rw [j0d nMd] at hM; exact hM
 have s0 : Same H (upd (upd H dm (.dK [])) M (.lst [])) := (j0g hdm _).trans (j0g hM _)
 have ed0 : (upd (upd H dm (.dK [])) M (.lst [])) dm = some (.dK []) := by rw [j0d (Ne.symm nMd), j0b]
 have eM0 : (upd (upd H dm (.dK [])) M (.lst [])) M = some (.lst []) := j0b
 show Run _ _ _ [some (.ref R), some (.ref dm), some (.ref M), none, none, none] (upd (upd H dm (.dK [])) M (.lst []))
 generalize upd (upd H dm (.dK [])) M (.lst []) = H0 at s0 ed0 eM0
 have lseats : (j0s n).length = (ties n).length := by rw [← j07 n 0, List.length_map]; rfl
 refine j2g (ev_v 0 ⟨R, rfl, ⟨_, SqL.of (s0 _ _ hR.lst)⟩, j1x (xs := as.map fun a => V.ref a.1) (fun r σ H' => ∃ (kM : List (Key × V)) (us : List Addr) (ls : List Lk) (u1 u2 u3 : Option V), Same H H' ∧ H' dm = some (.dK kM) ∧ H' M = some (.lst (us.map V.ref)) ∧ AtL H' us ls ∧ LkI n (j0s (n.take r)) kM ls ∧ σ = [some (.ref R), some (.ref dm), some (.ref M), u1, u2, u3])
  ⟨[], [], [], _, _, _, s0, ed0, eM0, ⟨rfl, fun j u x h => by simp at h⟩, LkI.start n, rfl⟩ ?_ ?_ ?_⟩)
 ·rintro r σ H' _ ⟨_, _, _, _, _, _, sm, _⟩
  exact SqL.of (sm _ _ hR.lst)
 ·rintro r x σ H' hx ⟨kM, us, ls, u1, u2, u3, sm, ed, eM, hat, I, rfl⟩
  have hi : r < n.length := by
   have := (List.getElem?_eq_some_iff.mp hx).1
   rw [List.length_map] at this
   omega
  obtain ⟨a, ea, eat, et, el, er⟩ := (hR.same sm).at hi
  rw [List.getElem?_map, ea] at hx
  cases hx
  refine j2n rfl (SqT.of et) (j0l 3 nd (j0l 4 nd ?_))
  refine j2g (ev_v 4 ⟨a.2, rfl, ⟨_, SqL.of el⟩, j1x (xs := (row n r).map V.str) (fun p σ H'' => ∃ (kM : List (Key × V)) (us : List Addr) (ls : List Lk) (u3 : Option V), Same H H'' ∧ H'' a.2 = some (Ls (row n r)) ∧ H'' dm = some (.dK kM) ∧ H'' M = some (.lst (us.map V.ref)) ∧ AtL H'' us ls ∧ LkI n (j0s (n.take r) ++ j0j r ((row n r).take p) 0) kM ls ∧ σ = [some (.ref R), some (.ref dm), some (.ref M), some (.str n[r].1), some (.ref a.2), u3])
   ⟨kM, us, ls, _, sm, el, ed, eM, hat, by simpa [j0j] using I, rfl⟩ ?_ ?_ ?_⟩)
  ·rintro p σ H'' _ ⟨_, _, _, _, _, e, _⟩
   exact SqL.of e
  ·rintro p x σ H'' hx ⟨kM, us, ls, u3, sm, el, ed, eM, hat, I, rfl⟩
   have hp : p < (row n r).length := by
    have := (List.getElem?_eq_some_iff.mp hx).1
    rw [List.length_map] at this
    exact this
   have hz : (row n r)[p]? = some (row n r)[p] := List.getElem?_eq_getElem hp
   rw [List.getElem?_map, hz] at hx
   cases hx
   have hs1 := j1p (r := r) hz
   have hle := posIn_le hT hi hz
   have hdone : (j0s (n.take r) ++ j0j r ((row n r).take p) 0).length ≤ 60 := by
    obtain ⟨rest, hrest⟩ := j19 hi hz
    have h1 := congrArg List.length hrest
    simp only [List.length_append] at h1 ⊢
    omega
   have lM := I.lenM
   have lL := I.lenL
   have lA := hat.1
   have nmr : nmA n r = n[r].1 := nmA_eq hi
   have naM : a.2 ≠ M := fun e => by
    have := (hR.tup r a n[r] ea (List.getElem?_eq_getElem hi)).2
    rw [e, hM0] at this
    cases this
   generalize (row n r)[p] = z at hz hs1 hle
   refine j0l 5 nd ?_
   refine j1n (et_din hu (ev_v 5 (ev_v 1 ⟨dm, _, rfl, DGet.k (k := Sum.inr z) ed, ?_⟩)))
   cases hpz : j08 (j0s (n.take r) ++ j0j r ((row n r).take p) 0) z with
   | nil =>
    rw [I.m0 z hpz]
    show if false = true then _ else _
    rw [if_neg (by decide)]
    refine j2o hu (ev_v 3 (ev_v 1 (ev_v 5 ⟨dm, _, rfl, DPut.k (k := Sum.inr z) ed (j00 (by omega)), j0i (j0i ⟨_, us, ls, _, j02 sm hdm, ?_, j0b, ?_, hat.keep fun t xs h => ?_, ?_, rfl⟩)⟩)))
    ·rw [j0d (j1q el ed fun z => nomatch z)]
     exact el
    ·rw [j0d nMd]
     exact eM
    ·rw [j0d (j1q h ed fun z => nomatch z)]
     exact h
    ·rw [hs1, ← List.append_assoc]
     have := I.new (e := (r, p)) hpz
     show LkI n _ (putK kM (Sum.inr z) (.str n[r].1)) ls
     rw [← nmr]
     exact this
   | cons b rest =>
    have hr0 : rest = [] := by
     rw [hpz] at hle
     exact List.length_eq_zero_iff.mp (by have : rest.length + 1 ≤ 1 := hle; omega)
    subst hr0
    have vm := I.m1 z b [] hpz
    rw [vm]
    show if true = true then _ else _
    rw [if_pos rfl]
    refine j1w (j1y (ev_v 2 ⟨M, rfl, ⟨_, eM⟩, j1f (j0a (ev_v 5 (j0a (j21 hu (ev_v 1 (ev_v 5 ⟨dm, .str (nmA n b.1), rfl, by rw [← vm]; exact DGet.k (k := Sum.inr z) ed, j0a (ev_v 3 (j0e ⟨(by show 3 ≤ sizeLine; decide), fun t ht => ?_⟩))⟩))))))⟩))
    have sT := j0g ht (.tup [.str z, .str (nmA n b.1), .str n[r].1])
    have ntM : t ≠ M := fun e => by rw [e, eM] at ht; cases ht
    have et3 : (upd H'' t (.tup [.str z, .str (nmA n b.1), .str n[r].1])) t = some (T3 (z, nmA n b.1, nmA n (r, p).1)) := by
     rw [j0b]
     show _ = some (HO.tup [.str z, .str (nmA n b.1), .str (nmA n r)])
     rw [nmr]
    have kT : ∀ c xs, (upd H'' t (.tup [.str z, .str (nmA n b.1), .str n[r].1])) c = some (.tup xs) → (upd (upd H'' t (.tup [.str z, .str (nmA n b.1), .str n[r].1])) M (.lst (us.map V.ref ++ [.ref t]))) c = some (.tup xs) := fun c xs h => by
     rw [j0d (j1q h (sT _ _ eM) fun z => nomatch z)]
     exact h
    refine ⟨_, sT _ _ eM, by rw [List.length_map]; exact j00 (by omega), j0i (j0i ⟨kM, us ++ [t], ls ++ [(z, nmA n b.1, nmA n (r, p).1)], _, j02 (sm.trans sT) hM0, ?_, ?_, ?_, ?_, ?_, rfl⟩)⟩
    ·rw [j0d naM]
     exact sT _ _ el
    ·rw [j0d (Ne.symm nMd)]
     exact sT _ _ ed
    ·rw [j0b, List.map_append]
     rfl
    ·exact ((hat.keep fun c xs h => sT _ _ h).snoc et3).keep kT
    ·rw [hs1, ← List.append_assoc]
     exact I.old (e := (r, p)) hpz
  ·rintro σ H'' ⟨kM, us, ls, u3, sm, _, ed, eM, hat, I, rfl⟩
   rw [List.length_map, List.take_length] at I
   refine j0i ⟨kM, us, ls, _, _, _, sm, ed, eM, hat, ?_, rfl⟩
   rw [j16 hi]
   exact I
 ·rintro σ H' ⟨kM, us, ls, u1, u2, u3, sm, ed, eM, hat, I, rfl⟩
  rw [List.length_map, hal, List.take_length] at I
  have lL := I.lenL
  have lA := hat.1
  have hlt : us.length < 64 := by omega
  refine j0p (j0u call_sortedT T.sorted PyProof.Rows.boot_sorted (j0a (ev_v 2 (j0e ⟨M, us, ls.map (·.1), rfl, SqL.of eM, by rw [List.length_map]; exact lA, I.nod, hlt, fun i t z h1 h2 => ?_, fun L ps hL hp hs => ?_⟩))))
  ·rw [List.getElem?_map, Option.map_eq_some_iff] at h2
   obtain ⟨x, hx, rfl⟩ := h2
   exact ⟨_, hat.2 i t x h1 hx⟩
  have pick : ∀ p ∈ ps, ∃ x, x ∈ ls ∧ x.1 = p.2 ∧ H' p.1 = some (T3 x) := fun p hpm => by
   have hz := hp.mem_iff.mp hpm
   obtain ⟨i, hi⟩ := List.getElem?_of_mem hz
   rw [List.getElem?_zip_eq_some] at hi
   obtain ⟨h1, h2⟩ := hi
   rw [List.getElem?_map, Option.map_eq_some_iff] at h2
   obtain ⟨x, hx, e⟩ := h2
   exact ⟨x, List.mem_of_getElem? hx, e, hat.2 i _ x h1 hx⟩
  obtain ⟨xs, hxs⟩ : ∃ xs : List Lk, xs.length = ps.length ∧ ∀ (j : Nat) p x, ps[j]? = some p → xs[j]? = some x → x ∈ ls ∧ x.1 = p.2 ∧ H' p.1 = some (T3 x) := by
   clear hs hp
   induction ps with
   | nil => exact ⟨[], rfl, fun j p x h => by simp at h⟩
   | cons p r ih =>
    obtain ⟨x, q1, q2, q3⟩ := pick p (List.mem_cons_self ..)
    obtain ⟨xs, l1, l2⟩ := ih (fun c hc => pick c (List.mem_cons_of_mem _ hc))
    refine ⟨x :: xs, by rw [List.length_cons, List.length_cons, l1], fun j c y h1 h2 => ?_⟩
    cases j with
    | zero =>
     cases h1
     cases h2
     exact ⟨q1, q2, q3⟩
    | succ j => exact l2 j c y (by simpa using h1) (by simpa using h2)
  obtain ⟨lx, hxs⟩ := hxs
  have lp : ps.length = ls.length := by rw [hp.length_eq, List.length_zip, List.length_map]; omega
  have sL := j0g hL (.lst (ps.map fun p => .ref p.1))
  have hsx : SortedL xs := by
   unfold SortedL
   rw [List.pairwise_iff_getElem]
   intro i j hi hj hij
   have a1 := (hxs i ps[i] xs[i] (List.getElem?_eq_getElem (by omega)) (List.getElem?_eq_getElem hi)).2.1
   have a2 := (hxs j ps[j] xs[j] (List.getElem?_eq_getElem (by omega)) (List.getElem?_eq_getElem hj)).2.1
   rw [a1, a2]
   exact List.pairwise_iff_getElem.mp hs i j (by omega) (by omega) hij
  have xnod : (xs.map (·.1)).Nodup := by
   rw [List.nodup_iff_pairwise_ne, List.pairwise_map]
   exact hsx.imp fun h e => by rw [e] at h; exact List.lt_irrefl _ h
  have hmem : ∀ x, x ∈ xs ↔ x ∈ ls := fun x => by
   constructor
   ·intro h
    obtain ⟨j, hj⟩ := List.getElem?_of_mem h
    have hjl := (List.getElem?_eq_some_iff.mp hj).1
    exact (hxs j ps[j] x (List.getElem?_eq_getElem (by omega)) hj).1
   ·intro h
    refine Classical.byContradiction fun hn => ?_
    have nodx : xs.Nodup := by
     rw [List.nodup_iff_pairwise_ne] at xnod ⊢
     rw [List.pairwise_map] at xnod
     exact xnod.imp fun h e => h (by rw [e])
    have := nodup_le nodx (b := ls.erase x) fun z hz => by
     have hzl : z ∈ ls := by
      obtain ⟨j, hj⟩ := List.getElem?_of_mem hz
      have hjl := (List.getElem?_eq_some_iff.mp hj).1
      exact (hxs j ps[j] z (List.getElem?_eq_getElem (by omega)) hj).1
     exact (List.mem_erase_of_ne (fun e : z = x => hn (e ▸ hz))).mpr hzl
    rw [List.length_erase_of_mem h] at this
    have : 0 < ls.length := List.length_pos_of_mem h
    omega
  refine q L (ps.map (·.1)) xs _ (sm.trans sL) (j06 sm hL) (by rw [j0b, List.map_map]; rfl) ⟨by rw [List.length_map]; omega, fun j u x h1 h2 => ?_⟩ hsx (fun x => by rw [hmem x]; exact I.whole hT x) (by omega)
  rw [List.getElem?_map, Option.map_eq_some_iff] at h1
  obtain ⟨p, hp1, rfl⟩ := h1
  exact sL _ _ (hxs j p x hp1 h2).2.2
end
end V5
namespace Nt
open PySem L2
noncomputable abbrev Bl := Str × Str × Bool
noncomputable def has (kvs : List (Key × V)) (x : Str) : Prop := ∃ v, valV kvs (Sum.inr x) = some v
noncomputable def Touch (ls : List Bl) (x y : Str) (o : Bool) : Prop := (x, y, o) ∈ ls ∨ (y, x, o) ∈ ls
noncomputable def nmsOf (ls : List Bl) : List Str := ls.flatMap fun l => [l.1, l.2.1]
theorem nmsOf_len : ∀ ls : List Bl, (nmsOf ls).length = 2 * ls.length
 | [] => rfl
 | l :: r => by
  show (nmsOf r).length + 1 + 1 = 2 * (r.length + 1)
  rw [nmsOf_len r]
  omega
theorem touch_nm {ls : List Bl} {x y : Str} {o : Bool} (h : Touch ls x y o) : y ∈ nmsOf ls := by
 rcases h with h | h
 ·exact List.mem_flatMap.mpr ⟨_, h, by simp⟩
 ·exact List.mem_flatMap.mpr ⟨_, h, by simp⟩
theorem keysP {κ : Type} [DecidableEq κ] (kvs : List (κ × V)) (k : κ) (v : V) : (putK kvs k v).map (·.1) = if k ∈ kvs.map (·.1) then kvs.map (·.1) else kvs.map (·.1) ++ [k] := by
 have e : (kvs.any fun kv => decide (kv.1 = k)) = decide (k ∈ kvs.map (·.1)) := by
  rw [Bool.eq_iff_iff, List.any_eq_true, decide_eq_true_iff, List.mem_map]
  exact ⟨fun ⟨p, h1, h2⟩ => ⟨p, h1, of_decide_eq_true h2⟩, fun ⟨p, h1, h2⟩ => ⟨p, h1, decide_eq_true h2⟩⟩
 unfold putK
 rw [e]
 by_cases h : k ∈ kvs.map (·.1)
 ·rw [if_pos (decide_eq_true h), if_pos h, List.map_map]
  refine List.map_congr_left fun p _ => ?_
  show (if p.1 = k then (p.1, v) else p).1 = p.1
  split <;> rfl
 ·rw [if_neg (by simpa using h), if_neg h, List.map_append]
  rfl
structure SpI (ls : List Bl) (f : Str) (hr : Option Str) (kvs : List (Key × V)) (wt : List Str) : Prop where
 nod : (kvs.map (·.1)).Nodup
 txt : ∀ k ∈ kvs.map (·.1), ∃ x, k = Sum.inr x ∧ x ∈ f :: nmsOf ls
 val : ∀ x v, valV kvs (Sum.inr x) = some v → ∃ b, v = .bl b ∧ Way ls f x b
 fst : has kvs f
 wtk : ∀ x ∈ wt, has kvs x
 hrh : ∀ x, some x = hr → has kvs x
 cls : ∀ x, has kvs x → x ∈ wt ∨ some x = hr ∨ ∀ y o, Touch ls x y o → has kvs y
theorem SpI.len {ls : List Bl} {f : Str} {hr : Option Str} {kvs : List (Key × V)} {wt : List Str} (I : SpI ls f hr kvs wt) : kvs.length ≤ 1 + 2 * ls.length := by
 have := nodup_le I.nod (b := (f :: nmsOf ls).map Sum.inr) fun k hk => by
  obtain ⟨x, e, hx⟩ := I.txt k hk
  rw [e]
  exact List.mem_map.mpr ⟨x, hx, rfl⟩
 rw [List.length_map, List.length_map, List.length_cons, nmsOf_len] at this
 omega
theorem has_put {kvs : List (Key × V)} {k : Key} {v : V} {x : Str} (h : has kvs x) : has (putK kvs k v) x := by
 obtain ⟨u, hu⟩ := h
 unfold has
 rw [j0q]
 split
 ·exact ⟨_, rfl⟩
 ·exact ⟨u, hu⟩
theorem SpI.start (ls : List Bl) (f : Str) : SpI ls f none (putK [] (Sum.inr f) (.bl false)) [f] := by
 have e : putK ([] : List (Key × V)) (Sum.inr f) (.bl false) = [(Sum.inr f, .bl false)] := rfl
 have hv : ∀ x, valV ([(Sum.inr f, .bl false)] : List (Key × V)) (Sum.inr x) = if x = f then some (.bl false) else none := fun x => by
  rw [← e, j0q]
  by_cases h : x = f
  ·rw [if_pos h, if_pos (by rw [h])]
  ·rw [if_neg h, if_neg (fun q => h (Sum.inr.inj q))]
   rfl
 rw [e]
 refine ⟨by simp, fun k hk => ⟨f, by simpa using hk, List.mem_cons_self ..⟩, fun x v h => ?_, ⟨.bl false, by rw [hv f, if_pos rfl]⟩, fun x hx => ?_, fun x hx => by (cases hx), fun x hx => ?_⟩
 ·rw [hv x] at h
  by_cases c : x = f
  ·rw [if_pos c] at h
   cases h
   subst c
   exact ⟨false, rfl, .here⟩
  ·rw [if_neg c] at h
   cases h
 ·rw [List.mem_singleton.mp hx]
  exact ⟨.bl false, by rw [hv f, if_pos rfl]⟩
 ·obtain ⟨v, h⟩ := hx
  rw [hv x] at h
  by_cases c : x = f
  ·exact .inl (List.mem_singleton.mpr c)
  ·rw [if_neg c] at h
   cases h
theorem SpI.pop {ls : List Bl} {f h : Str} {kvs : List (Key × V)} {wt : List Str} (I : SpI ls f none kvs (wt ++ [h])) : SpI ls f (some h) kvs wt := by
 refine ⟨I.nod, I.txt, I.val, I.fst, fun x hx => I.wtk x (List.mem_append_left _ hx), fun x hx => (by cases hx; exact I.wtk h (List.mem_append_right _ (List.mem_singleton.mpr rfl))), fun x hx => ?_⟩
 rcases I.cls x hx with c | c | c
 ·rcases List.mem_append.mp c with c | c
  ·exact .inl c
  ·exact .inr (.inl (by rw [List.mem_singleton.mp c]))
 ·cases c
 ·exact .inr (.inr c)
theorem SpI.close {ls : List Bl} {f h : Str} {kvs : List (Key × V)} {wt : List Str} (I : SpI ls f (some h) kvs wt) (c : ∀ y o, Touch ls h y o → has kvs y) : SpI ls f none kvs wt := by
 refine ⟨I.nod, I.txt, I.val, I.fst, I.wtk, fun x hx => (by cases hx), fun x hx => ?_⟩
 rcases I.cls x hx with d | d | d
 ·exact .inl d
 ·cases d
  exact .inr (.inr c)
 ·exact .inr (.inr d)
theorem SpI.notin {ls : List Bl} {f : Str} {hr : Option Str} {kvs : List (Key × V)} {wt : List Str} (I : SpI ls f hr kvs wt) {g : Str} (hg : valV kvs (Sum.inr g) = none) : Sum.inr g ∉ kvs.map (·.1) := by
 intro hm
 obtain ⟨p, hp, e⟩ := List.mem_map.mp hm
 have : ∃ i : Nat, kvs[i]? = some p := List.getElem?_of_mem hp
 obtain ⟨i, hi⟩ := this
 have : ∀ {l : List (Key × V)}, (∃ q ∈ l, q.1 = Sum.inr g) → valV l (Sum.inr g) ≠ none := fun {l} => by
  induction l with
  | nil => rintro ⟨q, hq, _⟩; cases hq
  | cons c r ih =>
   rintro ⟨q, hq, e⟩ hn
   by_cases hc : c.1 = Sum.inr g
   ·rw [j1a hc] at hn
    cases hn
   ·rw [j04 hc] at hn
    rcases List.mem_cons.mp hq with rfl | hq
    ·exact hc e
    ·exact ih ⟨q, hq, e⟩ hn
 exact this ⟨p, hp, e⟩ hg
theorem SpI.hrk {ls : List Bl} {f h : Str} {kvs : List (Key × V)} {wt : List Str} (I : SpI ls f (some h) kvs wt) : has kvs h := I.hrh h rfl
theorem SpI.add {ls : List Bl} {f h g : Str} {kvs : List (Key × V)} {wt : List Str} {b o : Bool} (I : SpI ls f (some h) kvs wt) (hg : valV kvs (Sum.inr g) = none) (hh : valV kvs (Sum.inr h) = some (.bl b)) (t : Touch ls h g o) :
  SpI ls f (some h) (putK kvs (Sum.inr g) (.bl (b != o))) (wt ++ [g]) := by
 have hng := I.notin hg
 have hw : Way ls f g (b != o) := by
  obtain ⟨b', e, hw⟩ := I.val h _ hh
  cases e
  rcases t with t | t
  ·exact .there hw t
  ·exact .back hw t
 refine ⟨?_, fun k hk => ?_, fun x v hv => ?_, has_put I.fst, fun x hx => ?_, fun x hx => has_put (I.hrh x hx), fun x hx => ?_⟩
 ·rw [keysP, if_neg hng]
  exact j2q I.nod hng
 ·rw [keysP, if_neg hng] at hk
  rcases List.mem_append.mp hk with hk | hk
  ·exact I.txt k hk
  ·exact ⟨g, List.mem_singleton.mp hk, List.mem_cons_of_mem _ (touch_nm t)⟩
 ·rw [j0q] at hv
  by_cases c : Sum.inr x = (Sum.inr g : Key)
  ·rw [if_pos c] at hv
   cases hv
   rw [Sum.inr.inj c]
   exact ⟨_, rfl, hw⟩
  ·rw [if_neg c] at hv
   exact I.val x v hv
 ·rcases List.mem_append.mp hx with hx | hx
  ·exact has_put (I.wtk x hx)
  ·rw [List.mem_singleton.mp hx]
   exact ⟨_, by rw [j0q, if_pos rfl]⟩
 ·obtain ⟨v, hv⟩ := hx
  rw [j0q] at hv
  by_cases c : Sum.inr x = (Sum.inr g : Key)
  ·exact .inl (List.mem_append_right _ (List.mem_singleton.mpr (Sum.inr.inj c)))
  ·rw [if_neg c] at hv
   rcases I.cls x ⟨v, hv⟩ with d | d | d
   ·exact .inl (List.mem_append_left _ d)
   ·exact .inr (.inl d)
   ·exact .inr (.inr fun y o' ht => has_put (d y o' ht))
theorem SpI.whole {ls : List Bl} {f : Str} {kvs : List (Key × V)} (I : SpI ls f none kvs []) : ∀ x b, Way ls f x b → ∃ b', valV kvs (Sum.inr x) = some (.bl b') := by
 have hall : ∀ x b, Way ls f x b → has kvs x := fun x b w => by
  induction w with
  | here => exact I.fst
  | there w hm ih =>
   rcases I.cls _ ih with d | d | d
   ·cases d
   ·cases d
   ·exact d _ _ (.inl hm)
  | back w hm ih =>
   rcases I.cls _ ih with d | d | d
   ·cases d
   ·cases d
   ·exact d _ _ (.inr hm)
 intro x b w
 obtain ⟨v, hv⟩ := hall x b w
 obtain ⟨b', e, _⟩ := I.val x v hv
 exact ⟨b', by rw [hv, e]⟩
end Nt
namespace Nt
open PySem L2
open PyProof.Rows (sortedS)
theorem ins_at (n : Net) (c : End) (z : Str) (i : Nat) : (ins n c z)[i]? = (n[i]?).map fun r => if c.1 = i then (r.1, r.2.take c.2 ++ z :: r.2.drop c.2) else r := by
 unfold ins
 rw [List.getElem?_modify]
 by_cases h : c.1 = i
 ·simp [h]
 ·simp [h]
theorem link_end {n : Net} (T : j1g n) {x : Lk} (h : IsLink n x) : ∃ e, j01 n e = some x.1 ∧ x.2.1 = nmA n e.1 ∧ x.2.2 = nmA n (other n e).1 := by
 obtain ⟨a, b, hp, h1, h2⟩ := h
 have ha : j01 n a = some x.1 := mem_pos.mp (by rw [hp]; exact List.mem_cons_self ..)
 have hb : j01 n b = some x.1 := mem_pos.mp (by rw [hp]; simp)
 have hnd := pos_nodup n x.1
 rw [hp] at hnd
 have hab : b ≠ a := fun q => by rw [q] at hnd; simp at hnd
 rcases (tie_two T ha).mp hb with q | q
 ·exact absurd q hab
 ·exact ⟨a, ha, h1, by rw [h2, q]⟩
theorem end_link {n : Net} (T : j1g n) {e : End} {z : Str} (h : j01 n e = some z) : IsLink n (z, nmA n e.1, nmA n (other n e).1) ∨ IsLink n (z, nmA n (other n e).1, nmA n e.1) := by
 obtain ⟨a, b, hp, hab, hh⟩ := pos_two T h
 have ha : j01 n a = some z := mem_pos.mp (by rw [hp]; exact List.mem_cons_self ..)
 have hb : j01 n b = some z := mem_pos.mp (by rw [hp]; simp)
 rcases hh with q | q
 ·subst q
  refine .inl ⟨e, b, hp, rfl, ?_⟩
  rcases (tie_two T h).mp hb with q | q
  ·exact absurd q.symm hab
  ·show nmA n (other n e).1 = nmA n b.1
   rw [q]
 ·subst q
  refine .inr ⟨a, e, hp, ?_, rfl⟩
  rcases (tie_two T h).mp ha with q | q
  ·exact absurd q hab
  ·show nmA n (other n e).1 = nmA n a.1
   rw [q]
noncomputable def fstN (n : Net) : Str := nmA n 0
theorem name_at {n : Net} {x : Str} (h : x ∈ n.map (·.1)) : ∃ i, i < n.length ∧ x = nmA n i := by
 obtain ⟨r, hr, e⟩ := List.mem_map.mp h
 obtain ⟨i, hi, q⟩ := List.mem_iff_getElem.mp hr
 exact ⟨i, hi, by rw [nmA_eq hi, q]; exact e.symm⟩
theorem at_name {n : Net} {i : Nat} (h : i < n.length) : nmA n i ∈ n.map (·.1) := by
 rw [nmA_eq h]
 exact List.mem_map.mpr ⟨_, List.getElem_mem h, rfl⟩
theorem other_lt {n : Net} (T : j1g n) {e : End} {z : Str} (h : j01 n e = some z) : (other n e).1 < n.length := j1r (j18 T h).1
end Nt
namespace V5
open PySem L2 Nt Sort2
noncomputable abbrev T3b (x : Bl) : HO := .tup [.str x.1, .str x.2.1, .bl x.2.2]
noncomputable def AtB (H : Hp) (us : List Addr) (ls : List Bl) : Prop := us.length = ls.length ∧ ∀ (j : Nat) u x, us[j]? = some u → ls[j]? = some x → H u = some (T3b x)
theorem AtB.same {H H' : Hp} {us : List Addr} {ls : List Bl} (h : AtB H us ls) (s : Same H H') : AtB H' us ls := ⟨h.1, fun j u x h1 h2 => s _ _ (h.2 j u x h1 h2)⟩
noncomputable def spSpread : Sp := fun vs H Q _ => ∃ (f : Str) (L : Addr) (us : List Addr) (ls : List Bl), vs = [.str f, .ref L] ∧ H L = some (.lst (us.map V.ref)) ∧ AtB H us ls ∧ ls.length ≤ 60 ∧
 ∀ (d : Addr) (kvs : List (Key × V)) (H' : Hp), Same H H' → H d = none → H' d = some (.dK kvs) → SpI ls f none kvs [] → Q (.ref d) H'
section
variable {P : Program} {w : World} {K : PySem.W.Frag} {mg : Str → Option Value} {base : Heap}
noncomputable abbrev NSp : List Str := ["first", "links", "odds", "waiting", "here", "one", "other", "odd", "start", "goal"]
theorem scSp : FnScope NSp ["first", "links"] (j0c sSpread) := ⟨rfl, rfl, rfl, by decide +kernel, rfl, by decide +kernel, by decide +kernel⟩
theorem strs_last (wt : List Str) (h : Str) : (((wt ++ [h]).map V.str)[((wt ++ [h]).map V.str).length - 1]? = some (.str h)) ∧ ((wt ++ [h]).map V.str).dropLast = wt.map V.str := by
 rw [List.map_append]
 constructor
 ·simp
 ·exact List.dropLast_concat
theorem ok_spread {f : Addr} {fd : FuncData} (F : Fun K "spread" "spread" sSpread f fd) (T : Txt mg) : FnOk P w K mg base CX0 1 f fd ["first", "links"] spSpread := by
 refine F.gb scSp (fun vs H Q E h => ?_) (fun b0 H vs Q E hr h => ?_)
 ·obtain ⟨f, L, us, ls, rfl, _⟩ := h
  rfl
 obtain ⟨ft, L, us, ls, rfl, hL, hat, h60, q⟩ := h
 have nd := scSp.nd
 have hu := hr.u1
 have lus := hat.1
 let X : Cx := cxB NSp "spread" (j0c sSpread) P w K mg base b0
 show Run X _ _ [some (.str ft), some (.ref L), none, none, none, none, none, none, none, none] H
 refine j0k 2 nd (ev_dict1 hu fun d hd => ev_v 0 (j13 ⟨_, DPut.k (k := Sum.inr ft) j0b (j00 (Nat.zero_le _)), ?_⟩))
 rw [upd_upd]
 refine j0k 3 nd (j2p (j0a (ev_v 0 (j0e ⟨(by show 1 ≤ sizeLine; decide), fun M hM => ?_⟩))))
 have nMd : M ≠ d := fun e => by rw [e, j0b] at hM; cases hM
 have hM0 : H M = none := by rw [j0d nMd] at hM; exact hM
 have s0 : Same H (upd (upd H d (.dK (putK [] (Sum.inr ft) (.bl false)))) M (.lst [.str ft])) := (j0g hd _).trans (j0g hM _)
 have ed0 : (upd (upd H d (.dK (putK [] (Sum.inr ft) (.bl false)))) M (.lst [.str ft])) d = some (.dK (putK [] (Sum.inr ft) (.bl false))) := by rw [j0d (Ne.symm nMd), j0b]
 have eM0 : (upd (upd H d (.dK (putK [] (Sum.inr ft) (.bl false)))) M (.lst [.str ft])) M = some (Ls [ft]) := j0b
 show Run _ _ _ [some (.str ft), some (.ref L), some (.ref d), some (.ref M), none, none, none, none, none, none] (upd (upd H d (.dK (putK [] (Sum.inr ft) (.bl false)))) M (.lst [.str ft]))
 generalize upd (upd H d (.dK (putK [] (Sum.inr ft) (.bl false)))) M (.lst [.str ft]) = H0 at s0 ed0 eM0
 refine run_while (fun m σ H' => m ≤ 1000 ∧ ∃ (kvs : List (Key × V)) (wt : List Str) (u4 u5 u6 u7 u8 u9 : Option V), Same H H' ∧ H' d = some (.dK kvs) ∧ H' M = some (Ls wt) ∧ SpI ls ft none kvs wt ∧ m = 2 * (1 + 2 * ls.length - kvs.length) + wt.length ∧
   σ = [some (.str ft), some (.ref L), some (.ref d), some (.ref M), u4, u5, u6, u7, u8, u9]) (m0 := 2 * (1 + 2 * ls.length - 1) + 1)
  ⟨by omega, _, [ft], _, _, _, _, _, _, s0, ed0, eM0, SpI.start ls ft, rfl, rfl⟩ ?_
 rintro m σ H1 ⟨hm, kvs, wt, u4, u5, u6, u7, u8, u9, s1, ed1, eM1, I, em, rfl⟩
 refine et_truth (ev_v 3 (v := .ref M) ⟨!wt.isEmpty, Or.inl ⟨wt.map V.str, SqL.of eM1, by cases wt <;> rfl⟩, ?_⟩)
 rcases List.eq_nil_or_concat wt with e | ⟨wt', hh, e⟩
 ·subst e
  rw [if_neg (by decide)]
  exact j0p (ev_v 2 (q d kvs H1 s1 hd ed1 I))
 rw [List.concat_eq_append] at e
 subst e
 rw [if_pos (by cases wt' <;> rfl)]
 obtain ⟨hy, hdl⟩ := strs_last wt' hh
 refine j0k 4 nd (ev_m0 PySem.F.plainAttrs_list PySem.F.slot_list_pop PySem.F.type_list_pop mt_pop (ev_v 3 (v := .ref M) ⟨Or.inl ⟨rfl, _, SqL.of eM1⟩, M, _, .str hh, rfl, rfl, eM1, hy, ?_⟩))
 rw [hdl]
 have I1 := I.pop
 have lw : (wt' ++ [hh]).length = wt'.length + 1 := by rw [List.length_append]; rfl
 rw [lw] at em
 have hL1 : ∀ {H' : Hp}, Same H H' → H' L = some (.lst (us.map V.ref)) := fun s => s _ _ hL
 show Run _ _ _ [some (.str ft), some (.ref L), some (.ref d), some (.ref M), some (.str hh), u5, u6, u7, u8, u9] (upd H1 M (Ls wt'))
 have s2 : Same H (upd H1 M (Ls wt')) := j02 s1 hM0
 have ed2 : (upd H1 M (Ls wt')) d = some (.dK kvs) := by rw [j0d (Ne.symm nMd)]; exact ed1
 have eM2 : (upd H1 M (Ls wt')) M = some (Ls wt') := j0b
 generalize upd H1 M (Ls wt') = H2 at s2 ed2 eM2
 refine j2g (ev_v 1 ⟨L, rfl, ⟨_, SqL.of (hL1 s2)⟩, j1x (xs := us.map V.ref) (fun j σ H' => ∃ (kvs : List (Key × V)) (wt : List Str) (u5 u6 u7 u8 u9 : Option V), Same H H' ∧ H' d = some (.dK kvs) ∧ H' M = some (Ls wt) ∧ SpI ls ft (some hh) kvs wt ∧ 2 * (1 + 2 * ls.length - kvs.length) + wt.length < m ∧
   (∀ l ∈ ls.take j, (l.1 = hh → has kvs l.2.1) ∧ (l.2.1 = hh → has kvs l.1)) ∧ σ = [some (.str ft), some (.ref L), some (.ref d), some (.ref M), some (.str hh), u5, u6, u7, u8, u9])
  ⟨kvs, wt', _, _, _, _, _, s2, ed2, eM2, I1, by omega, fun l hl => by simp at hl, rfl⟩ ?_ ?_ ?_⟩)
 ·rintro j σ H' _ ⟨_, _, _, _, _, _, _, sm, _⟩
  exact SqL.of (hL1 sm)
 ·rintro j x σ H3 hx ⟨kvs, wt, u5, u6, u7, u8, u9, s3, ed, eM, I, hlt, hdone, rfl⟩
  rw [List.getElem?_map, Option.map_eq_some_iff] at hx
  obtain ⟨u, hu1, rfl⟩ := hx
  have hj : j < ls.length := by
   have := (List.getElem?_eq_some_iff.mp hu1).1
   omega
  have hlj : ls[j]? = some ls[j] := List.getElem?_eq_getElem hj
  have hup := (hat.same s3).2 j u _ hu1 hlj
  have hmem : ls[j] ∈ ls := List.getElem_mem hj
  have htk : ∀ l ∈ ls.take (j + 1), l ∈ ls.take j ∨ l = ls[j] := fun l hl => by
   rw [List.take_add_one, hlj] at hl
   rcases List.mem_append.mp hl with q | q
   ·exact .inl q
   ·exact .inr (by simpa using q)
  generalize ls[j] = lx at hup hmem htk
  obtain ⟨on, ot, od⟩ := lx
  refine eg_triple rfl (SqT.of hup) (j0l 5 nd (j0l 6 nd (j0l 7 nd ?_)))
  show Run _ _ _ [some (.str ft), some (.ref L), some (.ref d), some (.ref M), some (.str hh), some (.str on), some (.str ot), some (.bl od), u8, u9] H3
  refine run_forT (j1f (j0a (j1f (j0a (ev_v 5 (j0a (ev_v 6 (j0e ⟨(by show 2 ≤ sizeLine; decide), fun t1 ht1 => ?_⟩))))))))
  refine j0a (j1f (j0a (ev_v 6 (j0a (ev_v 5 (j0e ⟨(by show 2 ≤ sizeLine; decide), fun t2 ht2 => j0e ⟨(by show 2 ≤ sizeLine; decide), fun tt htt => ?_⟩⟩))))))
  have n1 := j0g ht1 (.tup [.str on, .str ot])
  have n2 := j0g ht2 (.tup [.str ot, .str on])
  have n3 := j0g htt (.tup [.ref t1, .ref t2])
  have e1 := n3 _ _ (n2 _ _ (j0b (H := H3) (a := t1) (o := .tup [.str on, .str ot])))
  have e2 := n3 _ _ (j0b (H := upd H3 t1 (.tup [.str on, .str ot])) (a := t2) (o := .tup [.str ot, .str on]))
  have e3 := j0b (H := upd (upd H3 t1 (.tup [.str on, .str ot])) t2 (.tup [.str ot, .str on])) (a := tt) (o := .tup [.ref t1, .ref t2])
  have n := n1.trans (n2.trans n3)
  refine ⟨tt, rfl, ⟨_, SqT.of e3⟩, ?_⟩
  generalize upd (upd (upd H3 t1 (.tup [.str on, .str ot])) t2 (.tup [.str ot, .str on])) tt (.tup [.ref t1, .ref t2]) = H4 at e1 e2 e3 n
  refine loop_tup (xs := [.ref t1, .ref t2]) (fun i σ H' => ∃ (kvs : List (Key × V)) (wt : List Str) (u8 u9 : Option V), Same H H' ∧ H' d = some (.dK kvs) ∧ H' M = some (Ls wt) ∧ H' t1 = some (.tup [.str on, .str ot]) ∧ H' t2 = some (.tup [.str ot, .str on]) ∧ H' tt = some (.tup [.ref t1, .ref t2]) ∧ SpI ls ft (some hh) kvs wt ∧ 2 * (1 + 2 * ls.length - kvs.length) + wt.length < m ∧
   (∀ l ∈ ls.take j, (l.1 = hh → has kvs l.2.1) ∧ (l.2.1 = hh → has kvs l.1)) ∧ (0 < i → on = hh → has kvs ot) ∧ (1 < i → ot = hh → has kvs on) ∧ σ = [some (.str ft), some (.ref L), some (.ref d), some (.ref M), some (.str hh), some (.str on), some (.str ot), some (.bl od), u8, u9])
   ⟨kvs, wt, _, _, s3.trans n, n _ _ ed, n _ _ eM, e1, e2, e3, I, hlt, hdone, fun h => absurd h (by decide), fun h => absurd h (by decide), rfl⟩ ?_ ?_ ?_
  ·rintro i σ H' _ ⟨_, _, _, _, _, _, _, _, _, e, _⟩
   exact SqT.of e
  ·rintro i x σ H5 hx ⟨kvs, wt, u8, u9, s5, ed, eM, e1, e2, e3, I, hlt, hdone, d1, d2, rfl⟩
   obtain ⟨st, gl, t, rfl, et, htch, hnext⟩ : ∃ st gl t, x = .ref t ∧ H5 t = some (.tup [.str st, .str gl]) ∧ Touch ls st gl od ∧ ∀ kvs', (∀ y, has kvs y → has kvs' y) → (st = hh → has kvs' gl) → (0 < i + 1 → on = hh → has kvs' ot) ∧ (1 < i + 1 → ot = hh → has kvs' on) := by
    match i with
    | 0 =>
     cases hx
     exact ⟨on, ot, t1, rfl, e1, .inl hmem, fun kvs' mo h => ⟨fun _ => h, fun h => absurd h (by decide)⟩⟩
    | 1 =>
     cases hx
     exact ⟨ot, on, t2, rfl, e2, .inr hmem, fun kvs' mo h => ⟨fun _ e => mo _ (d1 (by decide) e), fun _ => h⟩⟩
    | i + 2 => simp at hx
   refine j2n rfl (SqT.of et) (j0l 8 nd (j0l 9 nd ?_))
   show Run _ _ _ [some (.str ft), some (.ref L), some (.ref d), some (.ref M), some (.str hh), some (.str on), some (.str ot), some (.bl od), some (.str st), some (.str gl)] H5
   have skip : (st = hh → has kvs gl) → ∃ (kvs : List (Key × V)) (wt : List Str) (u8 u9 : Option V), Same H H5 ∧ H5 d = some (.dK kvs) ∧ H5 M = some (Ls wt) ∧ H5 t1 = some (.tup [.str on, .str ot]) ∧ H5 t2 = some (.tup [.str ot, .str on]) ∧ H5 tt = some (.tup [.ref t1, .ref t2]) ∧ SpI ls ft (some hh) kvs wt ∧ 2 * (1 + 2 * ls.length - kvs.length) + wt.length < m ∧
     (∀ l ∈ ls.take j, (l.1 = hh → has kvs l.2.1) ∧ (l.2.1 = hh → has kvs l.1)) ∧ (0 < i + 1 → on = hh → has kvs ot) ∧ (1 < i + 1 → ot = hh → has kvs on) ∧ [some (V.str ft), some (.ref L), some (.ref d), some (.ref M), some (.str hh), some (.str on), some (.str ot), some (.bl od), some (.str st), some (.str gl)] = [some (.str ft), some (.ref L), some (.ref d), some (.ref M), some (.str hh), some (.str on), some (.str ot), some (.bl od), u8, u9] := fun h =>
    ⟨kvs, wt, _, _, s5, ed, eM, e1, e2, e3, I, hlt, hdone, (hnext kvs (fun _ h => h) h).1, (hnext kvs (fun _ h => h) h).2, rfl⟩
   refine j1n (et_bool (ew_and (j14 op_eq (ev_v 8 (ev_v 4 ⟨rfl, _, rfl, ?_⟩)))))
   by_cases hst : st = hh
   ·rw [if_pos (decide_eq_true (by rw [hst]))]
    refine ew_and1 (et_dnotin hu (ev_v 9 (ev_v 2 ⟨d, _, rfl, DGet.k (k := Sum.inr gl) ed, ?_⟩)))
    cases hg : valV kvs (Sum.inr gl) with
    | some v =>
     show if false = true then _ else _
     rw [if_neg (by decide)]
     exact j0i (j0i (skip fun _ => ⟨v, hg⟩))
    | none =>
     show if true = true then _ else _
     rw [if_pos rfl]
     have hhh : has kvs hh := by
      rcases I.hrk with q
      exact q
     obtain ⟨v, hv⟩ := hhh
     obtain ⟨b, rfl, _⟩ := I.val hh v hv
     subst hst
     have I' := I.add (o := od) hg hv htch
     have lk := I.len
     have lk' := I'.len
     have hkl : (putK kvs (Sum.inr gl) (.bl (b != od))).length = kvs.length + 1 := by
      have hng := I.notin hg
      have := congrArg List.length (keysP kvs (Sum.inr gl) (.bl (b != od)))
      rw [if_neg hng, List.length_append, List.length_map, List.length_map] at this
      exact this
     refine j2o hu (ev_cmp op_ne (j21 hu (ev_v 2 (ev_v 4 ⟨d, .bl b, rfl, by rw [← hv]; exact DGet.k (k := Sum.inr st) ed, ev_v 7 ⟨rfl, ?_⟩⟩))))
     rw [dec_bl]
     refine ev_v 2 (ev_v 9 ⟨d, _, rfl, DPut.k (k := Sum.inr gl) ed (j00 (by omega)), ?_⟩)
     have eM' : (upd H5 d (.dK (putK kvs (Sum.inr gl) (.bl (b != od))))) M = some (Ls wt) := by rw [j0d nMd]; exact eM
     refine j1w (j1y (ev_v 3 ⟨M, rfl, ⟨_, eM'⟩, ev_v 9 ⟨_, eM', by rw [List.length_map]; exact j00 (by omega), ?_⟩⟩))
     have kT : ∀ c xs, H5 c = some (.tup xs) → (upd (upd H5 d (.dK (putK kvs (Sum.inr gl) (.bl (b != od))))) M (.lst (wt.map V.str ++ [.str gl]))) c = some (.tup xs) := fun c xs h => by
      rw [j0d (j1q h eM fun z => nomatch z), j0d (j1q h ed fun z => nomatch z)]
      exact h
     have mo : ∀ y, has kvs y → has (putK kvs (Sum.inr gl) (.bl (b != od))) y := fun y h => has_put h
     have hn := hnext _ mo (fun _ => ⟨.bl (b != od), by rw [j0q, if_pos rfl]⟩)
     refine j0i (j0i ⟨_, wt ++ [gl], _, _, j02 (j02 s5 hd) hM0, ?_, ?_, kT _ _ e1, kT _ _ e2, kT _ _ e3, I', ?_, fun l hl => ⟨fun e => mo _ ((hdone l hl).1 e), fun e => mo _ ((hdone l hl).2 e)⟩, hn.1, hn.2, rfl⟩)
     ·rw [j0d (Ne.symm nMd)]
      exact j0b
     ·rw [j0b]
      show some (HO.lst (wt.map V.str ++ [.str gl])) = some (HO.lst ((wt ++ [gl]).map V.str))
      rw [List.map_append]
      rfl
     ·rw [hkl, List.length_append]
      rw [hkl] at lk'
      show _ + (wt.length + 1) < m
      omega
   ·rw [if_neg (fun h => hst (V.str.inj (of_decide_eq_true h)))]
    show if false = true then _ else _
    rw [if_neg (by decide)]
    exact j0i (j0i (skip fun h => absurd h hst))
  ·rintro σ H5 ⟨kvs, wt, u8, u9, s5, ed, eM, _, _, _, I, hlt, hdone, d1, d2, rfl⟩
   refine j0i ⟨kvs, wt, _, _, _, _, _, s5, ed, eM, I, hlt, fun l hl => ?_, rfl⟩
   rcases htk l hl with q | q
   ·exact hdone l q
   ·subst q
    exact ⟨d1 (by show 0 < 2; decide), d2 (by show 1 < 2; decide)⟩
 ·rintro σ H3 ⟨kvs, wt, u5, u6, u7, u8, u9, s3, ed, eM, I, hlt, hdone, rfl⟩
  rw [List.length_map, lus, List.take_length] at hdone
  refine j0i ⟨_, hlt, by omega, kvs, wt, _, _, _, _, _, _, s3, ed, eM, I.close fun y o ht => ?_, rfl, rfl⟩
  rcases ht with h | h
  ·exact (hdone _ h).1 rfl
  ·exact (hdone _ h).2 rfl
end
end V5
namespace Nt
open PySem L2
theorem eqD_str {X : Cx} {H : Hp} {k : Nat} (z : Str) : EqD X H k (.str z) (.str z) true := by
 have := j27 (X := X) (H := H) (k := k) (x := .str z) (y := .str z) rfl rfl
 have e : eqV (.str z) (.str z) = true := by show (z == z) = true; simp
 rw [e] at this
 exact this
theorem rcD_strs {X : Cx} {H : Hp} {a b : Addr} {zs : List Str} (ha : H a = some (Ls zs)) (hb : H b = some (Ls zs)) : RcD X H 1 (.ref a) (.ref b) true := by
 have q := rcD_list (X := X) (k := 0) (fun _ => true) (SqL.of (K := X.K) ha) (SqL.of (K := X.K) hb) rfl fun j x y hx hy => by
  rw [hx] at hy
  cases hy
  rw [List.getElem?_map, Option.map_eq_some_iff] at hx
  obtain ⟨z, _, rfl⟩ := hx
  exact eqD_str z
 rw [all_true] at q
 exact q
theorem eqD_ref {X : Cx} {H : Hp} {k : Nat} {a b : Addr} (h : RcD X H k (.ref a) (.ref b) true) : EqD X H k (.ref a) (.ref b) true := by
 by_cases e : a = b
 ·subst e
  exact eqD_same
 ·exact eqD_of e h
theorem rnD_rows {X : Cx} {H : Hp} {R R' : Addr} {as bs : List (Addr × Addr)} {n : Net} (h : RowsAt H R as n) (g : RowsAt H R' bs n) : RnD X H 3 (.ref R) (.ref R') true := by
 have q := rnD_list (X := X) (k := 2) (fun _ => true) (SqL.of (K := X.K) h.lst) (SqL.of (K := X.K) g.lst) (by rw [List.length_map, List.length_map, h.len, g.len]) fun j x y hx hy => by
  rw [List.getElem?_map, Option.map_eq_some_iff] at hx hy
  obtain ⟨a, ea, rfl⟩ := hx
  obtain ⟨b, eb, rfl⟩ := hy
  have hj : j < n.length := by
   have := (List.getElem?_eq_some_iff.mp ea).1
   have := h.len
   omega
  obtain ⟨q1, q2⟩ := h.tup j a n[j] ea (List.getElem?_eq_getElem hj)
  obtain ⟨q3, q4⟩ := g.tup j b n[j] eb (List.getElem?_eq_getElem hj)
  have t := rcD_tup (X := X) (k := 1) (fun _ => true) (SqT.of (K := X.K) q1) (SqT.of (K := X.K) q3) rfl fun i x y hx hy => by
   match i with
   | 0 => cases hx; cases hy; exact eqD_str _
   | 1 => cases hx; cases hy; exact eqD_ref (rcD_strs q2 q4)
   | i + 2 => simp at hx
  rw [all_true] at t
  exact eqD_ref t
 rw [all_true] at q
 exact q
end Nt
namespace L2
open PySem PySem.Spec PyProof.Rows
structure Xo (h : Heap) (e T : Addr) (C fl : Value) : Prop where
 ex : ∃ oe vs, h.get? e = some oe ∧ oe.cls = C ∧ oe.dict = none ∧ oe.data = .fields vs ∧ vs[1]? = some (.ref T) ∧ vs[2]? = some .none
 ne : T ≠ e
 tr : ∃ oT ts, h.get? T = some oT ∧ oT.data = .fields ts ∧ ts[3]? = some fl
structure Kp (fs bad : List Addr) (h h' : Heap) : Prop where
 keep : ∀ b o, h.get? b = some o → b ∉ fs → b ∉ bad → h'.get? b = some o
 slot : ∀ b o, h.get? b = some o → b ∈ fs → ∃ sl, h'.get? b = some { o with slots := sl }
theorem dict_mapFields (o : Obj) (f : Array Value → Array Value) : (o.mapFields f).dict = o.dict := by
 obtain ⟨c, d, dt, sl⟩ := o
 cases dt <;> rfl
section
variable {M : Model} {A : Around} {E : Value → Shared → Prop} {s : Shared}
theorem lay_trace {base : Heap} {env : Env} {outer : List Env} {L e : Addr} {oe : Obj} {vs : Array Value} {head : Value} {nx : Bool} {Q : Unit → Shared → Prop} (hfr : A.frames = some (env :: outer)) (hl : s.heap.FunFrames base (env :: outer)) (hf : env.frame = some L)
  (he : s.heap.get? e = some oe) (hd : oe.data = .fields vs) (hdi : oe.dict = none) (h1 : 1 < vs.size) (h2 : vs[2]? = some .none)
  (h : ∀ h' T, s.heap.get? T = none → Xo h' e T oe.cls .none → Kp (frs (env :: outer)) [e] s.heap h' → Q () { s with heap := h' }) :
  wpAny M A (do let a ← frameOf env; let pl ← entryPlaceOf L nx; let b ← EntryCells.newEntry head a .none (rawInt L) .none pl; setField (.ref e) 1 b) (fun _ s' => wpAny M A (setFlight (.ref e) none) Q E s') E s := by
 have nef : e ∉ frs (env :: outer) := fun hm => by
  obtain ⟨_, o, ho, hn⟩ := hl.mem hm
  rw [he] at ho
  cases ho
  exact hn vs hd
 refine wpAny_bind (wpAny_frameOf_fun hfr hl hf fun ha sa => ?_)
 refine wpAny_bind (wpAny_entryPlaceOf fun pl ip => ?_)
 unfold EntryCells.newEntry newFields
 refine wpAny_bind (wpAny_newObj_type ?_ (ip.sizeOk5 _ _ _ _ _))
 generalize hT : ({ cls := .type "traceback", dict := none, data := .fields ([head, .ref L, .none, rawInt L, .none] ++ (if pl.isEmpty then List.replicate 6 Value.none else pl)).toArray } : Obj) = oT
 have ea : ha.get? e = some oe := (sa.2.1 e nef).trans he
 have eb : (ha.push oT).get? e = some oe := Heap.get?_push_of_some _ ea
 have tb : (ha.push oT).get? ha.objs.size = some oT := Heap.get?_push_size ha (by rw [← hT]; rfl)
 have hTe : ha.objs.size ≠ e := Nat.ne_of_gt (Heap.lt_size ea)
 refine wpAny_setField eb hd h1 ?_
 have dc := Obj.data_mapFields hd (·.setIfInBounds 1 (Value.ref ha.objs.size))
 have ec := Heap.get?_update_self (Obj.mapFields (·.setIfInBounds 1 (Value.ref ha.objs.size))) eb (Obj.isFreed_of_fields dc)
 have tc : ((ha.push oT).update e (Obj.mapFields (·.setIfInBounds 1 (Value.ref ha.objs.size)))).get? ha.objs.size = some oT := (Heap.get?_update_other _ _ (Ne.symm hTe)).trans tb
 unfold setFlight
 refine wpAny_bind (wpAny_field ec dc (x := .ref ha.objs.size) (by simp [h1]) ?_)
 rw [if_pos (show (Value.ref ha.objs.size != Value.none) = true from by simp)]
 have dT : oT.data = .fields ([head, .ref L, .none, rawInt L, .none] ++ (if pl.isEmpty then List.replicate 6 Value.none else pl)).toArray := by rw [← hT]
 have sz : 3 < ([head, .ref L, .none, rawInt L, .none] ++ (if pl.isEmpty then List.replicate 6 Value.none else pl)).toArray.size := by
  simp only [List.size_toArray, List.length_append, List.length_cons, List.length_nil]
  omega
 refine wpAny_setField tc dT sz (h _ ha.objs.size (by
  cases hq : s.heap.get? ha.objs.size with
  | none => rfl
  | some o =>
   obtain ⟨sl, z⟩ := sa.2.2 _ o hq
   exact absurd (Heap.lt_size z) (Nat.lt_irrefl _)) ?_ ?_)
 ·have dd := Obj.data_mapFields dT (·.setIfInBounds 3 ((none : Option Addr).elim Value.none fun f => rawInt f))
  refine ⟨⟨_, _, (Heap.get?_update_other _ _ hTe).trans ec, Obj.cls_mapFields _ _, by rw [dict_mapFields]; exact hdi, dc, by simp [h1], by rw [Array.getElem?_setIfInBounds_ne (by decide)]; exact h2⟩, hTe, ⟨_, _, Heap.get?_update_self _ tc (Obj.isFreed_of_fields dd), dd, ?_⟩⟩
  rw [Array.getElem?_setIfInBounds_self_of_lt sz]
  rfl
 ·have kp : ∀ b o, b ≠ e → ha.get? b = some o → (((ha.push oT).update e (Obj.mapFields (·.setIfInBounds 1 (Value.ref ha.objs.size)))).update ha.objs.size (Obj.mapFields (·.setIfInBounds 3 ((none : Option Addr).elim Value.none fun f => rawInt f)))).get? b = some o := fun b o hb q => by
   rw [Heap.get?_update_other _ _ (Nat.ne_of_gt (Heap.lt_size q)), Heap.get?_update_other _ _ (Ne.symm hb)]
   exact Heap.get?_push_of_some _ q
  refine ⟨fun b o q nf nb => kp b o (fun z => nb (by simp [z])) ((sa.2.1 b nf).trans q), fun b o q hb => ?_⟩
  obtain ⟨sl, z⟩ := sa.2.2 b o q
  exact ⟨sl, kp b _ (fun y => nef (y ▸ hb)) z⟩
theorem note_new {base : Heap} {env : Env} {outer : List Env} {L e : Addr} {oe : Obj} {vs : Array Value} {Q : Unit → Shared → Prop} (hfr : A.frames = some (env :: outer)) (hl : s.heap.FunFrames base (env :: outer)) (hf : env.frame = some L)
  (he : s.heap.get? e = some oe) (hd : oe.data = .fields vs) (hdi : oe.dict = none) (h1 : vs[1]? = some .none) (h2 : vs[2]? = some .none)
  (h : ∀ h' T, s.heap.get? T = none → Xo h' e T oe.cls .none → Kp (frs (env :: outer)) [e] s.heap h' → Q () { s with heap := h' }) :
  wpAny M A (noteFrame (.ref e) env) (fun _ s' => wpAny M A (setFlight (.ref e) none) Q E s') E s := by
 unfold noteFrame
 simp only [hf]
 refine wpAny_bind (wpAny_field he hd h1 ?_)
 rw [if_neg (by decide)]
 exact lay_trace hfr hl hf he hd hdi (Array.getElem?_eq_some_iff.mp h1).1 h2 h
theorem note_on {base : Heap} {env : Env} {outer : List Env} {L e T : Addr} {C : Value} {Q : Unit → Shared → Prop} (hfr : A.frames = some (env :: outer)) (hl : s.heap.FunFrames base (env :: outer)) (hf : env.frame = some L) (x : Xo s.heap e T C .none)
  (h : ∀ h' T', s.heap.get? T' = none → Xo h' e T' C .none → Kp (frs (env :: outer)) [e, T] s.heap h' → Q () { s with heap := h' }) :
  wpAny M A (noteFrame (.ref e) env) (fun _ s' => wpAny M A (setFlight (.ref e) none) Q E s') E s := by
 obtain ⟨⟨oe, vs, he, hc, hdi, hd, h1, h2⟩, hne, ⟨oT, ts, hT, dT, h3⟩⟩ := x
 subst hc
 unfold noteFrame
 simp only [hf]
 refine wpAny_bind (wpAny_field he hd h1 ?_)
 rw [if_pos (show (Value.ref T != Value.none) = true from by simp)]
 refine wpAny_bind (wpAny_field hT dT h3 ?_)
 rw [if_neg (show ¬ ((Value.none == rawInt L) = true) from by simp [rawInt])]
 refine wpAny_bind (wpAny_setField hT dT (Array.getElem?_eq_some_iff.mp h3).1 ?_)
 have nT : ∀ b, b ≠ T → (s.heap.update T (Obj.mapFields (·.setIfInBounds 3 Value.none))).get? b = s.heap.get? b := fun b hb => Heap.get?_update_other _ _ (Ne.symm hb)
 have rcd : ∀ b o, s.heap.get? b = some o → (∀ vs, o.data ≠ .fields vs) → b ≠ T := fun b o q hn z => by
  rw [z, hT] at q
  cases q
  exact hn ts dT
 have nf : T ∉ frs (env :: outer) := fun hm => by
  obtain ⟨_, o, ho, hn⟩ := hl.mem hm
  exact rcd T o ho hn rfl
 refine lay_trace hfr (hl.of_keeps fun b o q hn => ⟨o, (nT b (rcd b o q hn)).trans q, rfl⟩) hf ((nT e (Ne.symm hne)).trans he) hd hdi (Array.getElem?_eq_some_iff.mp h1).1 h2 fun h' T' z x k => h h' T' ?_ x ⟨fun b o q n1 n2 => ?_, fun b o q hb => ?_⟩
 ·cases hq : s.heap.get? T' with
  | none => rfl
  | some o =>
   by_cases y : T' = T
   ·have := Heap.get?_update_self (Obj.mapFields (·.setIfInBounds 3 Value.none)) hT (Obj.isFreed_of_fields (Obj.data_mapFields dT _))
    rw [y] at z
    exact absurd (this.symm.trans z) (by simp)
   ·have := (nT T' y).trans hq
    exact absurd (this.symm.trans z) (by simp)
 ·have n3 : b ≠ T := fun y => n2 (by simp [y])
  exact k.keep b o ((nT b n3).trans q) n1 (fun y => n2 (by simp at y; simp [y]))
 ·exact k.slot b o ((nT b fun y => nf (y ▸ hb)).trans q) hb
theorem land_again {e T : Addr} {C : Value} {Q : Unit → Shared → Prop} (x : Xo s.heap e T C .none) (h : ∀ h', Xo h' e T C .none → (∀ b o, b ≠ T → s.heap.get? b = some o → h'.get? b = some o) → Q () { s with heap := h' }) : wpAny M A (setFlight (.ref e) none) Q E s := by
 obtain ⟨⟨oe, vs, he, hc, hdi, hd, h1, h2⟩, hne, ⟨oT, ts, hT, dT, h3⟩⟩ := x
 unfold setFlight
 refine wpAny_bind (wpAny_field he hd h1 ?_)
 rw [if_pos (show (Value.ref T != Value.none) = true from by simp)]
 have sz := (Array.getElem?_eq_some_iff.mp h3).1
 have dd := Obj.data_mapFields dT (·.setIfInBounds 3 ((none : Option Addr).elim Value.none fun f => rawInt f))
 refine wpAny_setField hT dT sz (h _ ⟨⟨oe, vs, (Heap.get?_update_other _ _ hne).trans he, hc, hdi, hd, h1, h2⟩, hne, ⟨_, _, Heap.get?_update_self _ hT (Obj.isFreed_of_fields dd), dd, ?_⟩⟩ fun b o hb q => (Heap.get?_update_other _ _ (Ne.symm hb)).trans q)
 rw [Array.getElem?_setIfInBounds_self_of_lt sz]
 rfl
end
end L2
namespace L2
open PySem PySem.Spec PyProof.Rows
theorem kp_un {fs f2 bad : List Addr} {H H' : Hp} {h h1 h2 : Heap} (u : Un fs [] H H' h h1) (k : Kp f2 bad h1 h2) (hf : ∀ b o, h.get? b = some o → b ∈ f2 → b ∈ fs) (hb : ∀ b ∈ bad, h.get? b = none) : Un fs [] H H' h h2 := by
 have nb : ∀ b o, h.get? b = some o → b ∉ bad := fun b o q z => by rw [hb b z] at q; cases q
 refine ⟨fun b o q n nf _ => k.keep b o (u.keep b o q n nf (by simp)) (fun z => nf (hf b o q z)) (nb b o q), fun b o q n hm _ => ?_, u.free, fun b o q _ => ?_, u.tups, u.frzs, u.tbls⟩
 ·obtain ⟨sl, z⟩ := u.slot b o q n hm (by simp)
  by_cases y : b ∈ f2
  ·obtain ⟨sl', z'⟩ := k.slot b _ z y
   exact ⟨sl', z'⟩
  ·exact ⟨sl, k.keep b _ z y (nb b o q)⟩
 ·obtain ⟨o', z⟩ := u.there b o q (by simp)
  by_cases y : b ∈ f2
  ·obtain ⟨sl', z'⟩ := k.slot b _ z y
   exact ⟨_, z'⟩
  ·exact ⟨o', k.keep b _ z y (nb b o q)⟩
theorem kp_hok {P : Program} {w : World} {f2 bad : List Addr} {H : Hp} {h1 h2 : Heap} (x : HOk P w H h1) (k : Kp f2 bad h1 h2) (hf : ∀ b ∈ f2, H b = none) (hb : ∀ b ∈ bad, H b = none) : HOk P w H h2 := fun a o e => by
 refine (x a o e).stay (fun b u hh q => k.keep b u q (fun z => ?_) (fun z => ?_)) (fun _ q => q) fun _ _ q => q
 ·have := hf b z
  rcases hh with y | y
  ·rw [y, e] at this; cases this
  ·rw [y] at this; cases this
 ·have := hb b z
  rcases hh with y | y
  ·rw [y, e] at this; cases this
  ·rw [y] at this; cases this
theorem obj_ex {P : Program} {w : World} {H : Hp} {h : Heap} {a : Addr} {o : HO} (x : ObjOk P w H h a o) : ∃ u, h.get? a = some u := by
 cases o with
 | lst xs => obtain ⟨_, _, _, _, q⟩ := x; exact ⟨_, q⟩
 | tup xs => obtain ⟨_, _, _, u, q, _⟩ := x; exact ⟨_, q⟩
 | dK kvs => obtain ⟨_, _, _, _, u, _, _, q, _⟩ := x; exact ⟨_, q⟩
 | dT kvs => obtain ⟨_, _, _, _, u, _, _, q, _⟩ := x; exact ⟨_, q⟩
 | set S n => obtain ⟨u, _, _, _, q, _⟩ := x; exact ⟨_, q⟩
 | ins C dx fs => obtain ⟨_, _, _, q, _⟩ := x; exact ⟨_, q⟩
 | own y => exact x
 | xd fs => obtain ⟨_, ⟨_, _, _, q, _⟩, _⟩ := x; exact ⟨_, q⟩
 | rng lo hi => obtain ⟨_, _, _, q⟩ := x; exact ⟨_, q⟩
 | frz ob u => obtain ⟨q, _⟩ := x; exact ⟨_, q⟩
 | tbl ps => exact ⟨_, x⟩
 | met f y => exact ⟨_, x⟩
 | ext φ => obtain ⟨_, q, _⟩ := x; exact q
noncomputable def XF (P : Program) (w : World) : CXT := fun outer H s E e s' => ∃ (ea T : Addr) (C : Value) (H' : Hp), e = .ref ea ∧ E C none H' ∧ s'.os = s.os ∧ AllBare s'.gens ∧ Un (frs outer) [] H H' s.heap s'.heap ∧ HOk P w H' s'.heap ∧ Xo s'.heap ea T C .none ∧
 s.heap.get? ea = none ∧ s.heap.get? T = none ∧ H' ea = none ∧ H' T = none
section
variable {P : Program} {w : World} {K : PySem.W.Frag} {mg : Str → Option Value} {base : Heap} {N : List Str} {qual : Str} {scope : Scope} {f : Addr} {cd : Value} {A : Around} {outer : List Env} {s : Shared} {H : Hp} {E : XK}
theorem frs_env : frs (envOfC qual scope s.heap.objs.size f cd :: outer) = s.heap.objs.size :: frs outer := rfl
theorem not_yet {b : Addr} {fs ex : List Addr} {Ha Hb : Hp} {h h1 : Heap} (u : Un fs ex Ha Hb h h1) (hx : b ∉ ex) (n : h1.get? b = none) : h.get? b = none := by
 cases q : h.get? b with
 | none => rfl
 | some o => obtain ⟨o', z⟩ := u.there b o q hx; rw [n] at z; cases z
theorem no_track {P : Program} {w : World} {Ha : Hp} {h1 : Heap} {b : Addr} (x : HOk P w Ha h1) (n : h1.get? b = none) : Ha b = none := by
 cases q : Ha b with
 | none => rfl
 | some o =>
  exfalso
  obtain ⟨u, z⟩ := obj_ex (x b o q)
  rw [n] at z; cases z
end
noncomputable abbrev vmro : List Value := [.type "ValueError", .type "Exception", .type "BaseException", .type "object"]
noncomputable def XC (K : PySem.W.Frag) (C : Addr) : Prop := PySem.W.excIn K C vmro "ValueError.__new__" = true
theorem XC.obj {K : PySem.W.Frag} {h : Heap} {C : Addr} (q : XC K C) (X : K.In h) : ∃ bm N nm qn bs hdct sn sub ab col dd k0 k1 k2 k3 k5 mN, h.get? C = some (excClassObj nm qn C N bs bm hdct sn sub ab col dd k0 k1 k2 k3 k5 "ValueError.__new__") ∧ h.Ns N mN ∧ mN "__init__" = none ∧ OwnTail h vmro bm := by
 unfold XC PySem.W.excIn at q
 split at q
 ·rename_i dd cd sl ho
  split at q
  ·rename_i D bm k0 k1 k2 k3 n k5 hm hs
   simp only [Bool.and_eq_true, beq_iff_eq, Bool.not_eq_true'] at q
   obtain ⟨⟨⟨⟨⟨eD, en⟩, hdel⟩, ht⟩, hok⟩, hni⟩ := q
   obtain ⟨nm, bs, mro, ns, qn, hd, sn, sub, ab, col, del⟩ := cd
   dsimp only at hm hdel hok hni
   subst eD en hm hdel
   have esl : sl = #[k0, k1, k2, k3, some (.builtin "ValueError.__new__"), k5] := by
    cases sl
    simp only at hs
    rw [hs]
   subst esl
   exact ⟨bm, ns, nm, qn, bs, hd, sn, sub, ab, col, dd, k0, k1, k2, k3, k5, _, X _ _ ho, .of_isNs (PySem.W.isNs_of_in X hok), PySem.W.nsMap_none_of_in X hok hni, PySem.W.tail_of_in X ht⟩
  ·cases q
 ·cases q
section
variable {X : Cx} {σ : St} {H : Hp} {D : Ends} {rest : List Stmt}
noncomputable def Rz (X : Cx) (E : St → XK) : Prop := ∀ (pins : List (Addr × Obj)) (σ : St) (H : Hp) (s : Shared) (h' : Heap) (e C : Addr) (args : List Value), Inv X pins σ H s → Heap.MadeExcOf s.heap h' e (.ref C) args → E σ (.ref C) none H → X.xe (.ref e) { s with heap := h' }
theorem run_raise {E : St → XK} (hz : Rz X E) {x : Str} {C : Addr} {a : Expr} {np cp pos : Pos} (hm : X.mg x = some (.ref C)) (hC : XC X.K C) (hc : X.calm = true) (h : Ea X [a] σ H fun vs H1 => vs.length ≤ sizeLine ∧ E σ (.ref C) none H1) (hg : Gl X x := by rfl) (hdb : (x == ("__debug__" : Str)) = false := by decide)
  (he : starEach [a] X.env = (false, eval a X.env) :: starEach [] X.env := by rfl) : Run X (.Raise (some (.Call (.Name x np) [a] [] cp)) none pos :: rest) D σ H := by
 refine j1j (t := fun D σ H => Ea X [a] σ H fun vs H1 => vs.length ≤ sizeLine ∧ E σ (.ref C) none H1) ?_ h
 intro pins s σ H D I h
 obtain ⟨bm, N, nm, qn, bs, hdct, sn, sub, ab, col, dd, k0, k1, k2, k3, k5, mN, oC, oN, oi, oT⟩ := hC.obj I.ok.mod.kin
 refine wpAny_Raise_call_subT (C := C) (nm := nm) (q := qn) (N := N) (bs := bs) (bm := bm) (hdct := hdct) (sn := sn) (sub := sub) (ab := ab) (col := col) (dd := dd) (k0 := k0) (k1 := k1) (k2 := k2) (k3 := k3) (k5 := k5) PySem.F.excBase_ValueError (mN := mN) (oT.hasType PySem.F.excBase_ValueError.hasBase) (I.ok.hd hc) (by rw [he]; rfl) oi (ld_glob I hg hm ⟨rfl, ?_⟩ hdb)
 have q := h.run cp pins s I
 rw [he] at q ⊢
 refine Calls.evalArgs_plain (thn q fun us s2 ⟨vs, H2, I2, r, z2, q2⟩ => ⟨rfl, by rw [← r.length]; exact z2, I2.bk _ _ oC, oN.keeps I2.bk, oT.keeps I2.bk, fun h' e hx => hz pins σ H2 s2 h' e C us I2 hx q2⟩)
end
section
variable {P : Program} {w : World} {K : PySem.W.Frag} {mg : Str → Option Value} {base : Heap} {N : List Str} {qual : Str} {scope : Scope} {f : Addr} {cd : Value} {A : Around} {outer : List Env} {s : Shared} {H : Hp} {E : XK}
theorem kp_all {h h' : Heap} (k : ∀ b o, h.get? b = some o → h'.get? b = some o) : Kp [] [] h h' := ⟨fun b o q _ _ => k b o q, fun b o q z => absurd z (by simp)⟩
theorem rz_fn : Rz (cxOf (XF P w) P w K mg base N qual scope f cd A outer s H E) (fun _ => E) := by
 intro pins σ H1 s1 h' e C args I hx hE
 obtain ⟨t, he, _, _⟩ := hx.there
 show wpAny (model P w) (A.deeper (envOfC qual scope s.heap.objs.size f cd)) (leaving (envOfC qual scope s.heap.objs.size f cd) (.ref e)) _ _ _
 unfold leaving
 have n0 : H1 e = none := no_track I.hok hx.new
 have k1 := kp_all hx.keeps
 refine wpAny_bind (note_new (s := { s1 with heap := h' }) (base := base) (outer := outer) I.ok.frames (I.stack.of_keeps fun b o q _ => ⟨o, hx.keeps b o q, rfl⟩) rfl he rfl rfl rfl rfl fun h2 T z x k => ?_)
 have hok1 : HOk P w H1 h' := I.hok.kept hx.keeps
 have un1 : Un (frs outer) [] H H1 s.heap h' := kp_un (H := H) (h := s.heap) I.base k1 (fun b o q hb => absurd hb (by simp)) fun b hb => absurd hb (by simp)
 have nT : s1.heap.get? T = none := by
  cases q : s1.heap.get? T with
  | none => rfl
  | some o => have := hx.keeps _ _ q; exact absurd (this.symm.trans z) (by simp)
 have ns : s.heap.get? e = none := not_yet (ex := []) (Hb := H1) I.base (by simp) hx.new
 refine ⟨e, T, .ref C, H1, rfl, hE, I.os, I.bare, kp_un un1 k (fun b o q hb => ?_) (fun b hb => ?_), kp_hok hok1 k (fun b hb => I.stkFree b hb) (fun b hb => ?_), x, ns, not_yet (ex := []) (Hb := H1) I.base (by simp) nT, n0, no_track I.hok nT⟩
 ·rw [frs_env] at hb
  rcases List.mem_cons.mp hb with y | y
  ·exact absurd (Heap.lt_size q) (by rw [y]; exact Nat.lt_irrefl _)
  ·exact y
 ·rw [List.mem_singleton.mp hb]; exact ns
 ·rw [List.mem_singleton.mp hb]; exact n0
noncomputable def cxX (N : List Str) (qual : Str) (scope : Scope) (P : Program) (w : World) (K : PySem.W.Frag) (mg : Str → Option Value) (base : Heap) (b : Bun) : Cx := cxOf (XF P w) P w K mg base N qual scope b.f b.cdv b.A b.outer b.s b.H b.E
theorem Fun.gx {x : Str} {st : Stmt} {fd : FuncData} {ps : List Str} {k : Nat} {sp : Sp} (F : Fun K x qual st f fd) (S : FnScope N ps (j0c st)) (len : ∀ vs H Q E, sp vs H Q E → vs.length = ps.length)
  (hbody : ∀ (b : Bun) (H : Hp) (vs : List V) (Q : VK), Room k (b.A.deeper (envOfC qual (j0c st) b.s.heap.objs.size b.f b.cdv)) → sp vs H Q b.E → Run (cxX N qual (j0c st) P w K mg base b) (j1t st) (En Q) (start N vs) H) : FnOk P w K mg base (XF P w) (k + 1) f fd ps sp := by
 obtain ⟨oc, od, kV, doc, pm, an, cdv, ct, osl, rfl, lk, hcd⟩ := F.ex
 refine fn_of lk hcd S len fun A outer s H vs Q E hr hsp => ?_
 exact ⟨_, pss_run, hbody ⟨f, cdv, A, outer, s, H, E⟩ H vs Q hr hsp⟩
theorem rzX {b : Bun} : Rz (cxX N qual scope P w K mg base b) (fun _ => b.E) := rz_fn
end
structure HasX (P : Program) (w : World) (K : PySem.W.Frag) (mg : Str → Option Value) (base : Heap) (k : Nat) (x : Str) (ps : List Str) (sp : Sp) : Prop where
 ex : ∃ f fd, FnOk P w K mg base (XF P w) k f fd ps sp ∧ Binds K fd ps [] ∧ PySem.W.keepIn K (.ref f) = true ∧ mg x = some (.ref f)
theorem HasX.mono {P : Program} {w : World} {K : PySem.W.Frag} {mg : Str → Option Value} {base : Heap} {j k : Nat} {x : Str} {ps : List Str} {sp : Sp} (h : HasX P w K mg base j x ps sp) (le : j ≤ k) : HasX P w K mg base k x ps sp :=
 let ⟨f, fd, F, r⟩ := h.ex; ⟨f, fd, F.mono le, r⟩
theorem ev_hasX {X : Cx} {k : Nat} {ps : List Str} {sp : Sp} {x : Str} {e : Expr} {es : List Expr} {σ : St} {H : Hp} {Q : VK} {E : XK} {p pos : Pos} (G : HasX X.prog X.w X.K X.mg X.base k x ps sp) (hr : Room k X.A) (hx : Passes (XF X.prog X.w) X E)
  (h : Ea X (e :: es) σ H fun vs H1 => sp vs H1 Q E) (hg : Gl X x := by rfl) (hdb : (x == ("__debug__" : Str)) = false := by decide) (hs : noStar (e :: es) = true := by rfl) : Ev X (.Call (.Name x p) (e :: es) [] pos) σ H Q :=
 let ⟨_, _, F, b, kp, m⟩ := G.ex; ev_call F hr m kp b hx h hg hdb hs
theorem Df.hasX {P : Program} {w : World} {K : PySem.W.Frag} {mg : Str → Option Value} {h base : Heap} {k : Nat} {x : Str} {st : Stmt} {ps : List Str} {sp : Sp} (d : Df K x st) (X : K.In h) (G : h.Ns mainGlobals mg)
  (hb : ∀ (kV doc pm : Value) (an : Option Addr) (cdv ct : Value) (us : List Value), us.length = ps.length → bindArgs (PySem.W.fnOf x x (j22 st) (j1t st) (j0c st) .none kV doc pm an cdv ct) ⟨us, []⟩ = pure (ps.zip us))
  (ok : ∀ {f : Addr} {fd : FuncData}, Fun K x x st f fd → FnOk P w K mg base (XF P w) k f fd ps sp) : HasX P w K mg base k x ps sp :=
 let ⟨f, fd, a, F⟩ := d; ⟨f, fd, ok F, F.binds hb, F.kp, PySem.W.mg_of X G a⟩
noncomputable def PassS (CX : CXT) (X : Cx) (σ : St) (E : XK) : Prop := ∀ (pins : List (Addr × Obj)) (H : Hp) (s : Shared) (e : Value) (s' : Shared), Inv X pins σ H s → CX X.stack H s E e s' → X.xe e s'
section
variable {X : Cx} {CX : CXT} {k : Nat} {f : Addr} {fd : FuncData} {ps : List Str} {sp : Sp} {E : XK} {x : Str} {p pos : Pos} {e : Expr} {es : List Expr} {σ : St} {H : Hp} {Q : VK}
theorem ev_callS (F : FnOk X.prog X.w X.K X.mg X.base CX k f fd ps sp) (hr : Room k X.A) (hm : X.mg x = some (.ref f)) (hk : PySem.W.keepIn X.K (.ref f) = true) (hb : Binds X.K fd ps []) (hx : PassS CX X σ E) (h : Ea X (e :: es) σ H fun vs H1 => sp vs H1 Q E)
  (hg : Gl X x := by rfl) (hdb : (x == ("__debug__" : Str)) = false := by decide) (he : starEach (e :: es) X.env = (false, eval e X.env) :: starEach es X.env := by rfl) (hpl : (backTo pos (starEach es X.env)).any (·.1) = false := by rfl) : Ev X (.Call (.Name x p) (e :: es) [] pos) σ H Q := by
 refine ⟨fun pins s I => wpAny_Call_Name_kw (ld_glob I hg hm ?_ hdb)⟩
 refine PySem.W.callWith_K (h₀ := X.base) I.ok.mod.kin hk (thn (h.run pos pins s I) fun us s1 ⟨vs, H1, I1, r, q⟩ => ⟨I1.kIn, ?_⟩) he hpl
 have hl : us.length = ps.length := by rw [← r.length]; exact F.len _ _ _ _ q
 have hl2 : (us ++ []).length = ps.length := by rw [List.append_nil]; exact hl
 have hb2 := hb s1 us I1.kIn hl2
 rw [List.append_nil] at hb2
 refine wpAny_call (codeAny_mono (F.run X.A X.stack s1 H1 ⟨us, []⟩ us vs Q E hr I1.env0 hb2 r q) fun r s' hq => ?_)
 cases r with
 | error y => exact hx pins H1 s1 y s' I1 hq
 | ok fl =>
  cases fl with
  | ret u => exact I1.after hq
  | next => exact False.elim hq
  | brk => exact False.elim hq
  | cont => exact False.elim hq
theorem ev_hasS (G : HasX X.prog X.w X.K X.mg X.base k x ps sp) (hr : Room k X.A) (hx : PassS (XF X.prog X.w) X σ E) (h : Ea X (e :: es) σ H fun vs H1 => sp vs H1 Q E)
  (hg : Gl X x := by rfl) (hdb : (x == ("__debug__" : Str)) = false := by decide) (he : starEach (e :: es) X.env = (false, eval e X.env) :: starEach es X.env := by rfl) (hpl : (backTo pos (starEach es X.env)).any (·.1) = false := by rfl) : Ev X (.Call (.Name x p) (e :: es) [] pos) σ H Q :=
 let ⟨_, _, F, b, kp, m⟩ := G.ex; ev_callS F hr m kp b hx h hg hdb he hpl
end
end L2
namespace L2
open PySem PySem.Spec PyProof.Rows
noncomputable abbrev XO (oe : Obj) : HO := .frz oe (.own 0)
structure IsX (oe : Obj) (C : Value) : Prop where
 cls : oe.cls = C
 dict : oe.dict = none
 data : ∃ vs, oe.data = .fields vs ∧ vs[2]? = some .none
noncomputable abbrev Cx.pinsOn (X : Cx) (p : List (Addr × Obj)) : Cx := { X with pn := X.pn ++ p }
structure Apt (X : Cx) (pins : List (Addr × Obj)) (b : Addr) : Prop where
 l : b ≠ X.env.locals
 c : ∀ x c, X.env.cells.lookup x = some c → c ≠ b
 p : ∀ q ∈ X.pn ++ pins, q.1 ≠ b
 f : b ∉ X.fs
 s : X.s₀.heap.get? b = none
section
variable {X : Cx} {pins : List (Addr × Obj)} {σ : St} {H : Hp} {s : Shared} {b : Addr}
theorem apt_of (I : Inv X pins σ H s) (hex : X.ex = []) (n : s.heap.get? b = none) : Apt X pins b := by
 refine ⟨fun z => ?_, fun x c e z => ?_, fun q hq z => ?_, fun z => ?_, not_yet I.base (by rw [hex]; simp) n⟩
 ·obtain ⟨m, ⟨o, _, _, ho, _⟩, _⟩ := I.loc
  rw [← z, n] at ho; cases ho
 ·obtain ⟨v, o, ho, _⟩ := I.cell x c e
  rw [z, n] at ho; cases ho
 ·have := (I.pin q hq).1
  rw [z, n] at this; cases this
 ·obtain ⟨_, o, ho, _⟩ := I.funs.mem z
  rw [n] at ho; cases ho
theorem Inv.kp {bad : List Addr} {h' : Heap} {t' : Nat} (I : Inv X pins σ H s) (hex : X.ex = []) (k : Kp (frs X.stack) bad s.heap h') (ha : ∀ b ∈ bad, Apt X pins b) (hn : ∀ b ∈ bad, H b = none) : Inv X pins σ H { s with heap := h', toks := t' } := by
 have kc : ∀ x c, X.env.cells.lookup x = some c → ∀ v, s.heap.IsCell c v → h'.IsCell c v := fun x c e v ⟨o, ho, hd⟩ => by
  by_cases y : c ∈ frs X.stack
  ·obtain ⟨sl, z⟩ := k.slot c o ho y
   exact ⟨_, z, hd⟩
  ·exact ⟨o, k.keep c o ho y (fun w => (ha c w).c x c e rfl), hd⟩
 have kl : ∀ m, s.heap.Ns X.env.locals m → h'.Ns X.env.locals m := fun m hm => by
  obtain ⟨o, es, ep, ho, r⟩ := hm
  by_cases y : X.env.locals ∈ frs X.stack
  ·obtain ⟨sl, z⟩ := k.slot _ o ho y
   exact ⟨_, es, ep, z, r⟩
  ·exact ⟨o, es, ep, k.keep _ o ho y (fun w => (ha _ w).l rfl), r⟩
 refine ⟨I.ok, I.os, I.bare, ?_, ?_, fun x c e => ?_, I.free, I.freeC, fun p hp => ?_, kp_hok I.hok k (fun b hb => I.stkFree b hb) hn, I.len⟩
 ·have u := I.base
  rw [hex] at u ⊢
  refine kp_un u k (fun b o q hb => ?_) fun b hb => (ha b hb).s
  rcases List.mem_cons.mp (I.stkSub b hb) with y | y
  ·exact absurd (Nat.lt_of_lt_of_le (Heap.lt_size q) I.ok.above) (by rw [y]; exact Nat.lt_irrefl _)
  ·exact y
 ·obtain ⟨m, hm, hl⟩ := I.loc
  refine ⟨m, kl m hm, fun i x v e1 e2 e3 => ?_⟩
  obtain ⟨u, r, q⟩ := hl i x v e1 e2 e3
  refine ⟨u, r, ?_⟩
  rcases q with q | ⟨y, c, e, z⟩
  ·exact .inl q
  ·exact .inr ⟨y, c, e, kc x c e _ z⟩
 ·obtain ⟨v, z⟩ := I.cell x c e
  exact ⟨v, kc x c e v z⟩
 ·obtain ⟨e, n, ne, nf, d⟩ := I.pin p hp
  refine ⟨k.keep _ _ e (fun y => ?_) (fun w => (ha _ w).p p hp rfl), n, ne, nf, d⟩
  rcases List.mem_cons.mp (I.stkSub _ y) with z | z
  ·exact ne z
  ·exact nf z
theorem Inv.track {o : HO} (I : Inv X pins σ H s) (hex : X.ex = []) (a : Apt X pins b) (n : H b = none) (ho : ObjOk X.prog X.w (upd H b o) s.heap b o) : Inv X pins σ (upd H b o) s := by
 have u := I.base
 have ne : ∀ c o', H c = some o' → c ≠ b := fun c o' q z => by rw [z, n] at q; cases q
 refine ⟨I.ok, I.os, I.bare, ⟨u.keep, u.slot, fun c o' q n' hx => ?_, u.there, fun c xs q => ?_, fun c o' v q => ?_, fun c ps q => ?_⟩, I.loc, I.cell, by rw [j0d (Ne.symm a.l)]; exact I.free, fun x c e => by rw [j0d (a.c x c e)]; exact I.freeC x c e, fun p hp => ?_, fun c o' q => ?_, I.len⟩
 ·have : c ≠ b := fun z => by rw [z, a.s] at q; cases q
  rw [j0d this]
  exact u.free c o' q n' hx
 ·have q' := u.tups c xs q
  rw [j0d (ne _ _ q')]; exact q'
 ·have q' := u.frzs c o' v q
  rw [j0d (ne _ _ q')]; exact q'
 ·obtain ⟨m, q'⟩ := u.tbls c ps q
  exact ⟨m, by rw [j0d (ne _ _ q')]; exact q'⟩
 ·obtain ⟨e, n', r⟩ := I.pin p hp
  exact ⟨e, by rw [j0d (a.p p hp)]; exact n', r⟩
 ·by_cases y : c = b
  ·subst y
   rw [j0b] at q
   cases q
   exact ho
  ·rw [j0d y] at q
   exact (I.hok c o' q).stay (fun _ _ _ z => z) (fun d z => by rw [j0d (ne _ _ z)]; exact z) fun d xs z => by rw [j0d (ne _ _ z)]; exact z
end
noncomputable def Cgt (X : Cx) (Φ : Value → St → Hp → Prop) (e : Value) (s' : Shared) : Prop := ∃ (pins : List (Addr × Obj)) (σ : St) (H : Hp) (ea T : Addr) (C : Value), e = .ref ea ∧ Inv X pins σ H s' ∧ Xo s'.heap ea T C .none ∧ Apt X pins ea ∧ Apt X pins T ∧ H ea = none ∧ H T = none ∧ Φ C σ H
noncomputable abbrev tryCx (X : Cx) (p : List (Addr × Obj)) (Φ : Value → St → Hp → Prop) : Cx := (X.pinsOn p).wish (Cgt (X.pinsOn p) Φ)
theorem passT {X : Cx} {p : List (Addr × Obj)} {Φ : Value → St → Hp → Prop} {σ : St} (hex : X.ex = []) : PassS (XF X.prog X.w) (tryCx X p Φ) σ (fun C _ H' => Φ C σ H') := by
 rintro pins H s e s' I ⟨ea, T, C, H', rfl, hE, os, bare, un, hok, x, n1, n2, n3, n4⟩
 have I2 := I.call' (ch := []) os un hok bare (fun b z => absurd z (by simp))
 have J : Inv (X.pinsOn p) pins σ H s := I.unwish
 exact ⟨pins, σ, H', ea, T, C, rfl, I2.unwish, x, apt_of J hex n1, apt_of J hex n2, n3, n4, hE⟩
noncomputable abbrev hdCx (X : Cx) (p : List (Addr × Obj)) (ea : Addr) : Cx := { X with A := X.A.mark (some (.ref ea)), calm := false, pn := X.pn ++ p, xe := fun _ _ => False }
theorem Inv.hd {X : Cx} {p pins : List (Addr × Obj)} {σ : St} {H : Hp} {s : Shared} {ea : Addr} (I : Inv (X.pinsOn p) pins σ H s) : Inv (hdCx X p ea) pins σ H s :=
 ⟨⟨I.ok.mod, I.ok.kind, I.ok.glob, I.ok.blt, I.ok.above, I.ok.inj, I.ok.has, I.ok.cab, (fun z => (nomatch z)), I.ok.frames, I.ok.stk, I.ok.exf, I.ok.bs, I.ok.bsz, I.ok.noex, I.ok.exfs, I.ok.funs, I.ok.frf⟩, I.os, I.bare, I.base, I.loc, I.cell, I.free, I.freeC, I.pin, I.hok, I.len⟩
theorem Inv.unhd {X : Cx} {p pins pins0 : List (Addr × Obj)} {σ : St} {H : Hp} {s : Shared} {ea : Addr} (I : Inv (hdCx X p ea) pins σ H s) (hc : X.calm = true → X.A.handled = none) : Inv (X.pinsOn p) pins σ H s :=
 ⟨⟨I.ok.mod, I.ok.kind, I.ok.glob, I.ok.blt, I.ok.above, I.ok.inj, I.ok.has, I.ok.cab, hc, I.ok.frames, I.ok.stk, I.ok.exf, I.ok.bs, I.ok.bsz, I.ok.noex, I.ok.exfs, I.ok.funs, I.ok.frf⟩, I.os, I.bare, I.base, I.loc, I.cell, I.free, I.freeC, I.pin, I.hok, I.len⟩
theorem Inv.pinsIn {X : Cx} {p pins : List (Addr × Obj)} {σ : St} {H : Hp} {s : Shared} (I : Inv X p σ H s) : Inv (X.pinsOn p) [] σ H s :=
 ⟨⟨I.ok.mod, I.ok.kind, I.ok.glob, I.ok.blt, I.ok.above, I.ok.inj, I.ok.has, I.ok.cab, I.ok.hd, I.ok.frames, I.ok.stk, I.ok.exf, I.ok.bs, I.ok.bsz, I.ok.noex, I.ok.exfs, I.ok.funs, I.ok.frf⟩, I.os, I.bare, I.base, I.loc, I.cell, I.free, I.freeC, fun q hq => I.pin q (by simpa using hq), I.hok, I.len⟩
theorem Inv.pinsOut {X : Cx} {p pins : List (Addr × Obj)} {σ : St} {H : Hp} {s : Shared} (I : Inv (X.pinsOn p) pins σ H s) : Inv X p σ H s :=
 ⟨⟨I.ok.mod, I.ok.kind, I.ok.glob, I.ok.blt, I.ok.above, I.ok.inj, I.ok.has, I.ok.cab, I.ok.hd, I.ok.frames, I.ok.stk, I.ok.exf, I.ok.bs, I.ok.bsz, I.ok.noex, I.ok.exfs, I.ok.funs, I.ok.frf⟩, I.os, I.bare, I.base, I.loc, I.cell, I.free, I.freeC, fun q hq => I.pin q (List.mem_append_left _ hq), I.hok, I.len⟩
noncomputable def mroHas (K : PySem.W.Frag) (C S : Addr) : Bool := match K.lookup C with
 | some ⟨_, _, .cls cd, _⟩ => cd.mro.contains (.ref S)
 | _ => false
theorem mro_in {K : PySem.W.Frag} {h : Heap} {C S : Addr} (X : K.In h) (q : mroHas K C S = true) {nm qn : Str} {N : Addr} {bs bm : List Value} {hdct : Bool} {sn : List Str} {sub : List Value} {ab : Bool} {col : Option Bool} {dd : Option Addr} {k0 k1 k2 k3 k5 : Option Value} {nid : String}
  (oC : h.get? C = some (excClassObj nm qn C N bs bm hdct sn sub ab col dd k0 k1 k2 k3 k5 nid)) : (Value.ref C :: bm).contains (.ref S) = true := by
 unfold mroHas at q
 split at q
 ·rename_i ho
  have := (X _ _ ho).symm.trans oC
  cases this
  exact q
 ·cases q
section
variable {M : Model} {A : Around} {E : Value → Shared → Prop} {K : PySem.W.Frag} {s : Shared}
theorem exc_match {e C S : Addr} {oe : Obj} {Q : Bool → Shared → Prop} (X : K.In s.heap) (hC : XC K C) (hS : XC K S) (hm : mroHas K C S = true) (he : s.heap.get? e = some oe) (hc : oe.cls = .ref C) (h : Q true s) : wpAny M A (excMatches (.ref e) (.ref S)) Q E s := by
 obtain ⟨bm, N, nm, qn, bs, hdct, sn, sub, ab, col, dd, k0, k1, k2, k3, k5, mN, oC, oN, oi, oT⟩ := hC.obj X
 obtain ⟨bm', N', nm', qn', bs', hdct', sn', sub', ab', col', dd', k0', k1', k2', k3', k5', mN', oS, oN', oi', oT'⟩ := hS.obj X
 have c1 := mro_in X hm oC
 have c2 : (Value.ref S :: bm').contains (.type "BaseException") = true := by rw [List.contains_cons, oT'.hasType PySem.F.excBase_ValueError.hasBase, Bool.or_true]
 have f := tc_notTuple
 obtain ⟨hh, g, d, tk, os⟩ := s
 unfold excMatches
 repeat (first | (with_reducible refine wpAny_loadPart_at he ?_; rw [hc]) | with_reducible refine wpAny_loadPart_at oS ?_ | (with_reducible refine wpAny_isSubtype_exc oS ?_; rw [c2]) | (with_reducible refine wpAny_isSubtype_exc oC ?_; rw [c1]) | wp_step)
 exact h
end
end L2
namespace L2
open PySem PySem.Spec PyProof.Rows
section
variable {X : Cx} {pins : List (Addr × Obj)} {σ : St} {H : Hp} {s : Shared}
theorem Inv.name_gone {M : Model} {A : Around} {E : Value → Shared → Prop} {Q : Unit → Shared → Prop} {i : Nat} {n : Str} {pos : Pos} (I : Inv X pins σ H s) (hN : X.N.Nodup) (hi : X.N[i]? = some n) (hl : X.env.scope.names.lookup n = some .local)
  (h : ∀ s', Inv X pins (σ.set i none) H s' → Q () s') : wpAny M A (do bindName X.env n .none; unbindBehindTheSuite X.env n pos) Q E s := by
 obtain ⟨m, hn, hloc⟩ := id I.loc
 have hcls : (X.env.scope.kind == .class || (X.env.scope.kind == .module && X.env.locals != X.env.globals)) = false := by rw [I.ok.kind]; rfl
 have hiσ : i < σ.length := by rw [I.len]; exact (List.getElem?_eq_some_iff.mp hi).1
 obtain ⟨oL, _, _, hoL, _⟩ := id hn
 refine wpAny_nameGoes_keeps hl hn hcls fun h' v hn' hs => h _ ?_
 have low : ∀ b o, X.s₀.heap.get? b = some o → b ≠ X.env.locals := fun b o q => Nat.ne_of_lt (Nat.lt_of_lt_of_le (Heap.lt_size q) I.ok.above)
 refine ⟨I.ok, I.os, I.bare, ⟨fun b o q n' hb hx => (hs.2 b (low b o q)).trans (I.base.keep b o q n' hb hx), fun b o q n' hb hx => ?_, I.base.free, fun b o q hx => ?_, I.base.tups, I.base.frzs, I.base.tbls⟩, ⟨_, hn', fun j y v' e1 e2 e3 => ?_⟩, fun y c q => ?_, I.free, I.freeC, fun p hp => ?_, fun b u q => ?_, by rw [List.length_set]; exact I.len⟩
 ·obtain ⟨sl, z⟩ := I.base.slot b o q n' hb hx
  exact ⟨sl, (hs.2 b (low b o q)).trans z⟩
 ·obtain ⟨o', z⟩ := I.base.there b o q hx
  exact ⟨o', (hs.2 b (low b o q)).trans z⟩
 ·by_cases hj : j = i
  ·subst hj
   rw [List.getElem?_set_self hiσ] at e2
   cases e2
  ·rw [List.getElem?_set_ne (Ne.symm hj)] at e2
   obtain ⟨u, r, q⟩ := hloc j y v' e1 e2 e3
   refine ⟨u, r, ?_⟩
   rcases q with ⟨k, z⟩ | ⟨k, c, z, w⟩
   ·have : y ≠ n := fun z => hj (nodup_ix hN e1 (z ▸ hi))
    exact .inl ⟨k, by simp [this, z]⟩
   ·exact .inr ⟨k, c, z, w.sameBut hs (I.cne y c z)⟩
 ·obtain ⟨v2, z⟩ := I.cell y c q
  exact ⟨v2, z.sameBut hs (I.cne y c q)⟩
 ·obtain ⟨e, n', ne, nf, d⟩ := I.pin p hp
  exact ⟨(hs.2 p.1 ne).trans e, n', ne, nf, d⟩
 ·refine (I.hok b u q).stay (fun c w' hc z => (hs.2 c ?_).trans z) (fun _ z => z) fun _ _ z => z
  rintro rfl
  rcases hc with hc | hc
  ·rw [← hc, I.free] at q; cases q
  ·rw [I.free] at hc; cases hc
end
noncomputable def exEnds (X : Cx) (D : Ends) (rest : List Stmt) (i : Nat) : Ends := { nx := fun σ H => Run X rest D (σ.set i none) H, rt := D.rt, bk := fun σ H => D.bk (σ.set i none) H, ct := fun σ H => D.ct (σ.set i none) H }
theorem run_try {X : Cx} {σ : St} {H : Hp} {D : Ends} {rest body suite : List Stmt} {b₀ : Stmt} {x n : Str} {S : Addr} {np hp pos : Pos} (i : Nat) (Φ : Value → St → Hp → Prop) (hm : X.mg x = some (.ref S)) (hS : XC X.K S) (hN : X.N.Nodup)
  (hb : ∀ p, Run (tryCx X p Φ) body { D with nx := fun σ' H' => Run X rest D σ' H' } σ H)
  (hh : ∀ C σ' H', Φ C σ' H' → ∃ Ca, C = .ref Ca ∧ XC X.K Ca ∧ mroHas X.K Ca S = true ∧ ∀ p ea oe, IsX oe C → H' ea = none → Run (hdCx X p ea) (b₀ :: suite) (exEnds X D rest i) (σ'.set i (some (.ref ea))) (upd H' ea (XO oe)))
  (hi : X.N[i]? = some n := by rfl) (hl : X.env.scope.names.lookup n = some .local := by rfl) (hex : X.ex = [] := by rfl) (hst : X.stack = X.env :: X.outer := by rfl) (hfr : X.env.frame = some X.env.locals := by rfl)
  (hfn : X.fn n = true ∨ X.env.scope.names.lookup n = some .local := by first | exact .inl rfl | exact .inr rfl) (hg : Gl X x := by rfl) (hdb : (x == ("__debug__" : Str)) = false := by decide) :
  Run X (.Try body [.ExceptHandler (some (.Name x np)) (some n) (b₀ :: suite) hp] [] [] pos :: rest) D σ H := by
 refine j1j (t := fun D' σ H => ∀ p, Run (tryCx X p Φ) body { D with nx := fun σ' H' => Run X rest D σ' H' } σ H ∧ D' = { D with nx := fun σ' H' => Run X rest D σ' H' }) ?_ fun p => ⟨hb p, rfl⟩
 intro p0 s σ H D' I h
 obtain ⟨hb, rfl⟩ := h p0
 refine wpAny_Try_except (wpAny_mono (hb.run [] s ((I.pinsIn (pins := [])).wish _)) (fun f s1 q => ?_) fun e s1 q => ?_)
 ·have out : ∀ {pp : List (Addr × Obj)} {σ' : St} {H' : Hp}, Inv (tryCx X p0 Φ) pp σ' H' s1 → Inv X p0 σ' H' s1 := fun J => (J.unwish).pinsOut
  cases f with
  | next =>
   obtain ⟨σ', H', J, q⟩ := q
   exact pss_nil p0 s1 σ' H' _ (out J) q
  | brk => obtain ⟨σ', H', J, q⟩ := q; exact ⟨σ', H', out J, q⟩
  | cont => obtain ⟨σ', H', J, q⟩ := q; exact ⟨σ', H', out J, q⟩
  | ret u => obtain ⟨v, σ', H', J, r, q⟩ := q; exact ⟨v, σ', H', out J, r, q⟩
 ·obtain ⟨pp, σ', H', ea, T, C, rfl, J, x1, a1, a2, n1, n2, hΦ⟩ := q
  obtain ⟨Ca, rfl, hC, hmro, hrun⟩ := hh C σ' H' hΦ
  have fr : (X.pinsOn p0).A.frames = some (X.env :: X.outer) := by rw [← hst]; exact J.ok.frames
  have stk : s1.heap.FunFrames X.base (X.env :: X.outer) := by rw [← hst]; exact J.stack
  refine note_on fr stk hfr x1 fun h2 T' z x2 k => ?_
  have k' : Kp (frs (X.pinsOn p0).stack) [ea, T] s1.heap h2 := by
   show Kp (frs X.stack) [ea, T] s1.heap h2
   rw [hst]; exact k
  have J2 : Inv (X.pinsOn p0) pp σ' H' { s1 with heap := h2 } := J.kp (t' := s1.toks) hex k' (fun b hb => by
   rcases List.mem_cons.mp hb with y | y
   ·rw [y]; exact a1
   ·rw [List.mem_singleton.mp y]; exact a2) (fun b hb => by
   rcases List.mem_cons.mp hb with y | y
   ·rw [y]; exact n1
   ·rw [List.mem_singleton.mp y]; exact n2)
  have a3 := apt_of J hex z
  have n3 : H' T' = none := no_track J.hok z
  have J3 : Inv (hdCx X p0 ea) pp σ' H' { s1 with heap := h2 } := J2.hd
  obtain ⟨⟨oe, vs, he, hc, hdi, hd, h1, h2'⟩, hne, htr⟩ := id x2
  refine wpAny_handleBy_cons (codeAny_handlers_test (ld_glob J3 hg hm ?_ hdb)) (by intro q; cases q)
  refine exc_match J3.kIn hC hS hmro he hc ?_
  refine codeAny_handlers_suite_as (land_again x2 fun h3 x3 k3 => ?_)
  have J4 : Inv (hdCx X p0 ea) pp σ' H' { s1 with heap := h3 } := J3.kp (s := { s1 with heap := h2 }) (t' := s1.toks) (bad := [T']) hex ⟨fun b o q _ nb => k3 b o (fun y => nb (by simp [y])) q, fun b o q hb => ⟨o.slots, k3 b o (fun y => by
   obtain ⟨_, o', ho', hn'⟩ := J3.stack.mem hb
   obtain ⟨oT, ts, hT, dT, _⟩ := htr
   rw [y] at ho'
   have := ho'.symm.trans hT
   cases this
   exact hn' _ dT) q⟩⟩ (fun b hb => by rw [List.mem_singleton.mp hb]; exact ⟨a3.l, a3.c, a3.p, a3.f, a3.s⟩) (fun b hb => by rw [List.mem_singleton.mp hb]; exact n3)
  obtain ⟨⟨oe3, vs3, he3, hc3, hdi3, hd3, h13, h23⟩, _, _⟩ := x3
  have J5 : Inv (hdCx X p0 ea) pp σ' (upd H' ea (XO oe3)) { s1 with heap := h3 } := J4.track hex ⟨a1.l, a1.c, a1.p, a1.f, a1.s⟩ n1 ⟨he3, ⟨_, he3⟩⟩
  refine store_ok (X := hdCx X p0 ea) J5 hN hi (Or.inl hl) (v := .ref ea) rfl (fun s4 J6 => ?_) hfn
  refine wpAny_mono ((hrun p0 ea oe3 ⟨hc3, hdi3, vs3, hd3, h23⟩ n1).run pp s4 J6) (fun f s5 q => ?_) fun _ _ z => z.elim
  have out : ∀ {σ2 : St} {H2 : Hp} {s6 : Shared}, Inv (hdCx X p0 ea) pp σ2 H2 s6 → Inv X p0 σ2 H2 s6 := fun J => ((J.unhd (pins0 := []) J2.ok.hd).pinsOut)
  cases f with
  | next =>
   obtain ⟨σ2, H2, J7, q⟩ := q
   exact J7.name_gone hN hi hl fun s6 J8 => ⟨_, H2, out J8, q⟩
  | brk =>
   obtain ⟨σ2, H2, J7, q⟩ := q
   exact J7.name_gone hN hi hl fun s6 J8 => ⟨_, H2, out J8, q⟩
  | cont =>
   obtain ⟨σ2, H2, J7, q⟩ := q
   exact J7.name_gone hN hi hl fun s6 J8 => ⟨_, H2, out J8, q⟩
  | ret u =>
   obtain ⟨v, σ2, H2, J7, r, q⟩ := q
   exact J7.name_gone hN hi hl fun s6 J8 => ⟨v, _, H2, out J8, r, q⟩
end L2
namespace L2
open PySem PySem.Spec PyProof.Rows PySem.W
section
variable {prog : Program} {w : World} {A : Around} {E : Value → Shared → Prop} {s : Shared} {K : Frag} {a C : Addr} {o : Obj}
noncomputable def xLook (K : Frag) (C : Addr) : Bool := findIn K (.ref C) "__getattribute__" == some (some (.builtin "BaseException.__getattribute__")) && findIn K (.ref C) "__getattr__" == some none && findIn K (.ref C) "__class__" == some (some (.builtin "object.__class__")) &&
 mroIn K C (.type "object") == some true && mroIn K C (.type "BaseException") == some true && (clsIn K C).isSome
theorem cls_attr {Q : Option Value → Shared → Prop} (X : K.In s.heap) (I : InstAt s.heap a o C none) (q : xLook K C = true) (hq : Q (some (.ref C)) { s with toks := s.toks + 1 }) : wpAny (model prog w) A (getAttr? (.ref a) "__class__") Q E s := by
 unfold xLook at q
 simp only [Bool.and_eq_true, beq_iff_eq] at q
 obtain ⟨⟨⟨⟨⟨h1, h2⟩, h3⟩, h4⟩, h5⟩, _⟩ := q
 obtain ⟨hh, g, d, t, os⟩ := s
 have L0 := I.type (M := model prog w)
 have L1 := looks_findIn (M := model prog w) X h1
 have L2 := looks_findIn (M := model prog w) X h2
 have L3 := looks_findIn (M := model prog w) X h3
 have L5 := looks_mroIn (M := model prog w) X h5
 unfold getAttr? getAttrBy? getAttrBy
 refine wpAny_bind (wpAny_mkText (wpAny_bind (wpAny_attempt (wpAny_holding (wpAny_bind (L0.at (wpAny_bind (L1.at ?_))))))))
 show wpAny _ _ (getAttrByItsOwn _ _ _ _ _ _) _ _ _
 unfold getAttrByItsOwn hookBefore callGetattribute boundAndCalled
 have f3 := F.attr_ValueError.ga.bind (.ref a)
 refine wpAny_bind ?_
 show wpAny _ _ (typeLookup (.ref C) "__getattr__") _ _ _
 refine L2.at ?_
 refine wpAny_bind (wpAny_attempt (wpAny_holding ?_))
 rw [if_neg (by decide)]
 rw [f3]
 refine wpAny_bind (wpAny_pure ?_)
 refine wpAny_call (codeAny_call_builtin F.attr_ValueError.ga.plain F.entry_bexc_ga ?_)
 have hk : builtinKind "BaseException.__getattribute__" = some .slot := by decide +kernel
 have hsp : splitId "BaseException.__getattribute__" = some ("BaseException", "__getattribute__") := by decide +kernel
 have ha := F.args_bexc_ga (.ref a) (.str "__class__" t)
 simp only [checkBuiltinCall, hk, hsp]
 refine wpAny_bind ?_
 unfold isInstance
 have LB : Looks (model prog w) hh (isSubtype (.ref C) (.type "BaseException")) true := L5
 repeat lk
 have hid : (toString "getset_descriptor" ++ toString "." ++ toString (Str.ofString "__get__").toString : String) = "getset_descriptor.__get__" := by decide +kernel
 rw [hid]
 refine wpAny_run (c := .call (.builtin "getset_descriptor.__get__") ⟨[.builtin "object.__class__", .ref a, .ref C], []⟩) (h := none) ?_
 refine class_get (s := ⟨hh, g, d, t + 1, os⟩) (K := K) X I h4 ?_
 repeat lk
 exact hq
theorem kitx_exc (q : xLook K C = true) : KitX K (.ref a) (.ref C) (fun h => ∃ o, InstAt h a o C none) where
 ty := fun _ _ _ ⟨_, I⟩ => I.type
 it := fun _ _ X _ => by
  unfold xLook at q
  rw [Bool.and_eq_true] at q
  have z := q.2
  unfold clsIn at z
  split at z
  ·rename_i ho
   intro A' Q' E' s' k r
   unfold isType loadHead
   exact wpAny_bind (wpAny_loadPart (k _ _ (X _ _ ho)) (wpAny_pure r))
  ·cases z
 ne := fun h tp dd its n sl X htp => by
  unfold xLook at q
  rw [Bool.and_eq_true] at q
  have z := q.2
  refine Bool.eq_false_iff.mpr fun y => ?_
  have e : C = tp := Value.ref.inj (beq_iff_eq.mp y)
  subst e
  unfold clsIn at z
  split at z
  ·rename_i ho
   cases (X _ _ ho).symm.trans htp
  ·cases z
 ca := fun X ⟨_, I⟩ k => cls_attr X I q k
end
end L2
namespace L2
open PySem PySem.Spec PyProof.Rows
theorem inst_of {h : Heap} {ea C : Addr} {oe : Obj} (he : h.get? ea = some oe) (x : IsX oe (.ref C)) : PySem.W.InstAt h ea oe C none := by
 obtain ⟨vs, hd, _⟩ := x.data
 refine ⟨he, x.cls, ?_, ?_⟩
 ·unfold PySem.W.notCls
  rw [hd]
 ·rw [x.dict]; exact True.intro
theorem j2x {X : Cx} : j2k X (.builtin "isinstance") (fun xs H Q => ∃ ea C oe c v b, xs = [.ref ea, v] ∧ (∀ u, RelV v u → u = c) ∧ H ea = some (XO oe) ∧ IsX oe (.ref C) ∧ xLook X.K C = true ∧ PySem.W.kitOne X.K (.ref C) c = some b ∧ Q (.bl b) H) := by
 intro pins s σ H xs us Q I r h
 obtain ⟨ea, C, oe, c, v, b, rfl, hv, hH, ix, hl, e, q⟩ := h
 obtain ⟨u, w', rfl, ru, rw'⟩ := vals2 r
 cases (show u = Value.ref ea from ru)
 cases hv _ rw'
 have he : s.heap.get? ea = some oe := (show ObjOk X.prog X.w H s.heap ea (XO oe) from I.hok ea _ hH).1
 exact PySem.W.kia_one (kitx_exc hl) I.kIn ⟨oe, inst_of he ix⟩ e (fun z => nomatch z) fun tk => ⟨.bl b, H, I.tok tk, rfl, q⟩
section
variable {prog : Program} {w : World} {A : Around} {E : Value → Shared → Prop} {s : Shared}
end
end L2
namespace L2
open PySem PySem.Spec PyProof.Rows
section
variable {X : Cx} {tg : Expr}
end
section
variable {X : Cx} {elt tg iter : Expr} {ifs : List Expr} {scope : Scope} {pos : Pos} {N' : List Str} {n : Nat} {wi : TI} {g : TG} {tc : TT} {te : TE}
end
section
variable {X : Cx} {elt tg iter c : Expr} {ifs : List Expr} {scope : Scope} {pos p : Pos} {wi : TI} {σ : St} {H : Hp} {Q : VK} {T : Bool → Hp → Prop} {rest : List Stmt} {D : Ends}
end
end L2
namespace L2
open PySem PySem.Spec PyProof.Rows
section
variable {X : Cx} {k : Nat} {ps : List Str} {sp : Addr → Obj → Sp} {E : XK} {x : Str} {p pos : Pos} {e : Expr} {es : List Expr} {σ : St} {H : Hp} {Q : VK}
end
end L2
namespace Nt
open PySem L2
section
variable {n : Net} {z : Str} {r k : Nat}
theorem row_is (h : r < n.length) : row n r = n[r].2 := by unfold row; rw [List.getElem?_eq_getElem h]; rfl
theorem ties_k (h : r < n.length) : ties (n.take (r + 1)) = ties (n.take r) ++ row n r := by
 rw [row_is h]
 unfold ties
 rw [List.take_add_one, List.getElem?_eq_getElem h, List.flatMap_append]
 simp
end
structure Bld (H0 H : Hp) (D : Addr) (bs : List (Addr × Addr)) (m : Net) : Prop where
 rows : RowsAt H D bs m
 new : ∀ a ∈ bs, H0 a.1 = none ∧ H0 a.2 = none
 nD : ∀ a ∈ bs, a.1 ≠ D ∧ a.2 ≠ D
theorem Bld.same {H0 H H' : Hp} {D : Addr} {bs : List (Addr × Addr)} {m : Net} (b : Bld H0 H D bs m) (s : Same H H') : Bld H0 H' D bs m := ⟨b.rows.same s, b.new, b.nD⟩
theorem Bld.nil {H0 H : Hp} {D : Addr} (h : H D = some (.lst [])) : Bld H0 H D [] [] := ⟨⟨rfl, h, fun i a r h => (by simp at h), List.nodup_nil⟩, fun a h => (by simp at h), fun a h => (by simp at h)⟩
theorem Bld.in_heap {H0 H : Hp} {D : Addr} {bs : List (Addr × Addr)} {m : Net} (b : Bld H0 H D bs m) {a : Addr × Addr} (h : a ∈ bs) : H a.1 ≠ none ∧ H a.2 ≠ none := by
 obtain ⟨i, hi⟩ := List.getElem?_of_mem h
 have hl := (List.getElem?_eq_some_iff.mp hi).1
 have := b.rows.len
 obtain ⟨q1, q2⟩ := b.rows.tup i a _ hi (List.getElem?_eq_getElem (by omega))
 exact ⟨by rw [q1]; simp, by rw [q2]; simp⟩
theorem Bld.add {H0 H : Hp} {D t l : Addr} {bs : List (Addr × Addr)} {m : Net} {p : Str} {zs : List Str} (b : Bld H0 H D bs m) (hl : H l = some (Ls zs)) (l0 : H0 l = none) (ln : l ∉ bs.map (·.2)) (nl : l ≠ D) (ht : H t = none) (t0 : H0 t = none) :
  Bld H0 (upd (upd H t (.tup [.str p, .ref l])) D (.lst ((bs.map fun a => V.ref a.1) ++ [.ref t]))) D (bs ++ [(t, l)]) (m ++ [(p, zs)]) := by
 have ntD : t ≠ D := fun e => by rw [e, b.rows.lst] at ht; cases ht
 have ntl : t ≠ l := fun e => by rw [e, hl] at ht; cases ht
 have len := b.rows.len
 have keep : ∀ x o, x ≠ D → H x = some o → (upd (upd H t (.tup [.str p, .ref l])) D (.lst ((bs.map fun a => V.ref a.1) ++ [.ref t]))) x = some o := fun x o h1 h2 => by
  rw [j0d h1, j0d (j0f h2 ht)]
  exact h2
 refine ⟨⟨by rw [List.length_append, List.length_append, len]; rfl, by rw [j0b, List.map_append]; rfl, fun i a r h1 h2 => ?_, ?_⟩, fun a ha => ?_, fun a ha => ?_⟩
 ·by_cases hi : i < bs.length
  ·rw [List.getElem?_append_left hi] at h1
   rw [List.getElem?_append_left (by omega)] at h2
   have nn := b.nD a (List.mem_of_getElem? h1)
   obtain ⟨q1, q2⟩ := b.rows.tup i a r h1 h2
   exact ⟨keep _ _ nn.1 q1, keep _ _ nn.2 q2⟩
  ·rw [List.getElem?_append_right (by omega)] at h1
   rw [List.getElem?_append_right (by omega)] at h2
   have e : i - bs.length = 0 := by
    have := (List.getElem?_eq_some_iff.mp h1).1
    simp at this
    omega
   rw [e] at h1
   rw [← len, e] at h2
   cases h1
   cases h2
   exact ⟨by rw [j0d ntD, j0b], keep _ _ nl hl⟩
 ·rw [List.map_append]
  refine List.nodup_append.mpr ⟨b.rows.inj, by simp, fun x hx y hy e => ?_⟩
  have hy := List.mem_singleton.mp hy
  exact ln (by rw [← show y = l from hy, ← e]; exact hx)
 ·rcases List.mem_append.mp ha with h | h
  ·exact b.new a h
  ·rw [List.mem_singleton.mp h]
   exact ⟨t0, l0⟩
 ·rcases List.mem_append.mp ha with h | h
  ·exact b.nD a h
  ·rw [List.mem_singleton.mp h]
   exact ⟨ntD, nl⟩
end Nt
namespace Nt
open PySem L2
open PyProof.Rows (sortedS)
theorem val_none {kvs : List (Key × V)} {k : Key} (hg : valV kvs k = none) : k ∉ kvs.map (·.1) := by
 induction kvs with
 | nil => intro h; cases h
 | cons c r ih =>
  intro h
  by_cases hc : c.1 = k
  ·rw [j1a hc] at hg
   cases hg
  ·rw [j04 hc] at hg
   rcases List.mem_cons.mp h with q | q
   ·exact hc q.symm
   ·exact ih hg q
theorem val_some {kvs : List (Key × V)} {k : Key} {v : V} (hg : valV kvs k = some v) : k ∈ kvs.map (·.1) := by
 refine Classical.byContradiction fun hn => ?_
 induction kvs with
 | nil => cases hg
 | cons c r ih =>
  rw [List.map_cons, List.mem_cons] at hn
  rw [j04 (fun q => hn (.inl q.symm))] at hg
  exact ih hg fun q => hn (.inr q)
theorem inl_ne {a b : Nat} (h : a ≠ b) : ¬ (Sum.inl (a : Int) : Key) = Sum.inl (b : Int) := fun q => h (by have := Sum.inl.inj q; omega)
theorem nmA_inj {n : Net} (hn : (n.map (·.1)).Nodup) {i j : Nat} (hi : i < n.length) (hj : j < n.length) (h : nmA n i = nmA n j) : i = j := by
 rw [nmA_eq hi, nmA_eq hj] at h
 have := (List.nodup_iff_pairwise_ne.mp hn)
 rw [List.pairwise_iff_getElem] at this
 rcases Nat.lt_trichotomy i j with q | q | q
 ·exact absurd (by rw [List.getElem_map, List.getElem_map]; exact h) (this i j (by simpa using hi) (by simpa using hj) q)
 ·exact q
 ·exact absurd (by rw [List.getElem_map, List.getElem_map]; exact h.symm) (this j i (by simpa using hj) (by simpa using hi) q)
end Nt
namespace L2
open PySem PySem.Spec PyProof.Rows
section
variable {X : Cx} {σ : St} {H : Hp}
end
end L2
namespace L2
open PySem Nt
section
variable {X : Cx} {elt tg : Expr} {ifs : List Expr} {scope : Scope} {σ : St} {H : Hp} {N' : List Str} {A : Addr} {after : Hp → Prop}
end
section
variable {X : Cx} {σ : St} {H : Hp} {Q : VK} {o e e1 : Expr} {pos p1 p2 p3 p4 : Pos} {j1 : Nat}
theorem cat_strs {p q : Addr} {ys zs : List Str} (hp : H p = some (Ls ys)) (hq : H q = some (Ls zs)) (hl : ys.length + zs.length ≤ 100000) (h : ∀ r, H r = none → Q (.ref r) (upd H r (Ls (ys ++ zs)))) : rCat (.ref p) (.ref q) H Q := by
 refine ⟨p, q, _, _, rfl, rfl, hp, hq, ?_, fun r hr => ?_⟩
 ·rw [List.length_map, List.length_map, sizeLine_eq]
  omega
 ·rw [← List.map_append]
  exact h r hr
end
end L2
namespace Nt
open PySem L2
open PyProof.Rows (sortedS)
end Nt
namespace Nt
open PySem L2
open Classical
theorem way_trans {ls : List Bl} {f x y : Str} {b c : Bool} (h : Way ls f x b) (g : Way ls x y c) : ∃ d, Way ls f y d := by
 induction g with
 | here => exact ⟨b, h⟩
 | there _ m ih => obtain ⟨d, hd⟩ := ih; exact ⟨_, .there hd m⟩
 | back _ m ih => obtain ⟨d, hd⟩ := ih; exact ⟨_, .back hd m⟩
theorem way_mono {l1 l2 : List Bl} (hm : ∀ x y o, (x, y, o) ∈ l1 → ∃ o', Touch l2 x y o') {f x : Str} {b : Bool} (h : Way l1 f x b) : ∃ d, Way l2 f x d := by
 induction h with
 | here => exact ⟨_, .here⟩
 | there _ m ih =>
  obtain ⟨d, hd⟩ := ih
  obtain ⟨o', t | t⟩ := hm _ _ _ m
  ·exact ⟨_, .there hd t⟩
  ·exact ⟨_, .back hd t⟩
 | back _ m ih =>
  obtain ⟨d, hd⟩ := ih
  obtain ⟨o', t | t⟩ := hm _ _ _ m
  ·exact ⟨_, .back hd t⟩
  ·exact ⟨_, .there hd t⟩
noncomputable def lkT (n : Net) (T : List Str) : List Bl := ((ends n).filter fun e => decide (∃ z, j01 n e = some z ∧ z ∈ T)).map fun e => (nmA n e.1, nmA n (other n e).1, false)
theorem lkT_mem {n : Net} {T : List Str} {x y : Str} {o : Bool} : (x, y, o) ∈ lkT n T ↔ ∃ e z, j01 n e = some z ∧ z ∈ T ∧ x = nmA n e.1 ∧ y = nmA n (other n e).1 ∧ o = false := by
 unfold lkT
 rw [List.mem_map]
 constructor
 ·rintro ⟨e, he, q⟩
  obtain ⟨z, hz, ht⟩ := of_decide_eq_true (List.mem_filter.mp he).2
  exact ⟨e, z, hz, ht, (congrArg (·.1) q).symm, (congrArg (·.2.1) q).symm, (congrArg (·.2.2) q).symm⟩
 ·rintro ⟨e, z, hz, ht, rfl, rfl, rfl⟩
  exact ⟨e, List.mem_filter.mpr ⟨mem_ends.mpr ⟨z, hz⟩, decide_eq_true ⟨z, hz, ht⟩⟩, rfl⟩
noncomputable def Rt (n : Net) (T : List Str) (x y : Str) : Prop := ∃ b, Way (lkT n T) x y b
theorem Rt.refl (n : Net) (T : List Str) (x : Str) : Rt n T x x := ⟨_, .here⟩
theorem Rt.trans {n : Net} {T : List Str} {x y z : Str} (h : Rt n T x y) (g : Rt n T y z) : Rt n T x z := by
 obtain ⟨_, h⟩ := h
 obtain ⟨_, g⟩ := g
 exact way_trans h g
theorem Rt.step {n : Net} {T : List Str} {e : End} {z : Str} (h : j01 n e = some z) (hz : z ∈ T) : Rt n T (nmA n e.1) (nmA n (other n e).1) := ⟨_, .there .here (lkT_mem.mpr ⟨e, z, h, hz, rfl, rfl, rfl⟩)⟩
theorem Rt.ind {n : Net} (Tw : j1g n) {T : List Str} {P : Str → Prop} {x y : Str} (h : Rt n T x y) (hx : P x) (hs : ∀ e z, j01 n e = some z → z ∈ T → P (nmA n e.1) → P (nmA n (other n e).1)) : P y := by
 obtain ⟨b, h⟩ := h
 induction h with
 | here => exact hx
 | there _ m ih =>
  obtain ⟨e, z, he, hz, rfl, rfl, rfl⟩ := lkT_mem.mp m
  exact hs e z he hz ih
 | back _ m ih =>
  obtain ⟨e, z, he, hz, rfl, rfl, rfl⟩ := lkT_mem.mp m
  have o := j18 Tw he
  have := hs (other n e) z o.1 hz ih
  rw [o.2.1] at this
  exact this
end Nt
namespace Nt
open PySem L2
open Classical
theorem all_lenK {α : Type} [DecidableEq α] {a b : List α} (ha : a.Nodup) (hb : b.Nodup) (hs : ∀ x ∈ a, x ∈ b) : a.length = b.length ↔ ∀ x ∈ b, x ∈ a := by
 constructor
 ·intro h x hx
  refine Classical.byContradiction fun hn => ?_
  have := nodup_le (b := b.erase x) ha fun z hz => (List.mem_erase_of_ne (fun e : z = x => hn (e ▸ hz))).mpr (hs z hz)
  rw [List.length_erase_of_mem hx] at this
  have : 0 < b.length := List.length_pos_of_mem hx
  omega
 ·intro h
  have h1 := nodup_le ha hs
  have h2 := nodup_le hb h
  omega
noncomputable abbrev hasN (kvs : List (Key × V)) (r : Nat) : Prop := valV kvs (Sum.inl (r : Int)) = some (.bl true)
structure JoI (n : Net) (ss : List Str) (hr : Option (Nat × Nat)) (kvs : List (Key × V)) (lf : List Nat) : Prop where
 nod : (kvs.map (·.1)).Nodup
 num : ∀ k ∈ kvs.map (·.1), ∃ r : Nat, k = Sum.inl (r : Int) ∧ r < n.length
 val : ∀ (r : Nat) v, valV kvs (Sum.inl (r : Int)) = some v → v = .bl true ∧ Rt n ss (fstN n) (nmA n r)
 fst : hasN kvs 0
 lfk : ∀ r ∈ lf, hasN kvs r
 hrh : ∀ x p, hr = some (x, p) → hasN kvs x
 cls : ∀ r, hasN kvs r → r ∈ lf ∨ (∃ p, hr = some (r, p)) ∨ ∀ p z, j01 n (r, p) = some z → z ∈ ss → hasN kvs (other n (r, p)).1
 dne : ∀ x p, hr = some (x, p) → ∀ p', p' < p → ∀ z, j01 n (x, p') = some z → z ∈ ss → hasN kvs (other n (x, p')).1
theorem JoI.lt {n : Net} {ss : List Str} {hr : Option (Nat × Nat)} {kvs : List (Key × V)} {lf : List Nat} (I : JoI n ss hr kvs lf) {r : Nat} (h : hasN kvs r) : r < n.length := by
 obtain ⟨r', e, h'⟩ := I.num _ (val_some h)
 have := Sum.inl.inj e
 omega
theorem JoI.len {n : Net} {ss : List Str} {hr : Option (Nat × Nat)} {kvs : List (Key × V)} {lf : List Nat} (I : JoI n ss hr kvs lf) : kvs.length ≤ n.length := by
 have := nodup_le I.nod (b := (List.range n.length).map fun r => Sum.inl ((r : Nat) : Int)) fun k hk => by
  obtain ⟨r, e, h⟩ := I.num k hk
  exact List.mem_map.mpr ⟨r, List.mem_range.mpr h, e.symm⟩
 rw [List.length_map, List.length_map, List.length_range] at this
 exact this
theorem JoI.start {n : Net} {ss : List Str} (h0 : 0 < n.length) : JoI n ss none (putK [] (Sum.inl 0) (.bl true)) [0] := by
 have hv : ∀ r : Nat, valV (putK ([] : List (Key × V)) (Sum.inl 0) (.bl true)) (Sum.inl (r : Int)) = if r = 0 then some (.bl true) else none := fun r => by
  rw [j0q]
  by_cases h : r = 0
  ·subst h
   rfl
  ·rw [if_neg h, if_neg (fun q => h (by have := Sum.inl.inj q; omega))]
   rfl
 have h00 : hasN (putK ([] : List (Key × V)) (Sum.inl 0) (.bl true)) 0 := by
  show valV _ _ = _
  rw [hv, if_pos rfl]
 refine ⟨by show ([Sum.inl 0] : List Key).Nodup; simp, fun k hk => ⟨0, by simpa [putK] using hk, h0⟩, fun r v h => ?_, h00, fun r hr => by rw [List.mem_singleton.mp hr]; exact h00, fun x p h => (by cases h), fun r h => ?_, fun x p h => (by cases h)⟩
 ·rw [hv] at h
  by_cases c : r = 0
  ·rw [if_pos c] at h
   cases h
   subst c
   exact ⟨rfl, Rt.refl ..⟩
  ·rw [if_neg c] at h
   cases h
 ·have h : valV _ _ = _ := h
  rw [hv] at h
  by_cases c : r = 0
  ·exact .inl (List.mem_singleton.mpr c)
  ·rw [if_neg c] at h
   cases h
theorem JoI.pop {n : Net} {ss : List Str} {kvs : List (Key × V)} {lf : List Nat} {h : Nat} (I : JoI n ss none kvs (lf ++ [h])) : JoI n ss (some (h, 0)) kvs lf := by
 refine ⟨I.nod, I.num, I.val, I.fst, fun r hr => I.lfk r (List.mem_append_left _ hr), fun x p e => ?_, fun r hb => ?_, fun x p e p' hp' => ?_⟩
 ·cases e
  exact I.lfk h (List.mem_append_right _ (List.mem_singleton.mpr rfl))
 ·rcases I.cls r hb with c | c | c
  ·rcases List.mem_append.mp c with c | c
   ·exact .inl c
   ·exact .inr (.inl ⟨0, by rw [List.mem_singleton.mp c]⟩)
  ·obtain ⟨p, e⟩ := c
   cases e
  ·exact .inr (.inr c)
 ·cases e
  exact absurd hp' (Nat.not_lt_zero _)
theorem JoI.close {n : Net} {ss : List Str} {kvs : List (Key × V)} {lf : List Nat} {h p : Nat} (I : JoI n ss (some (h, p)) kvs lf) (hp : (row n h).length ≤ p) : JoI n ss none kvs lf := by
 refine ⟨I.nod, I.num, I.val, I.fst, I.lfk, fun x p e => (by cases e), fun r hb => ?_, fun x p e => (by cases e)⟩
 rcases I.cls r hb with c | c | c
 ·exact .inl c
 ·obtain ⟨p', e⟩ := c
  cases e
  exact .inr (.inr fun p' z hz => I.dne h p rfl p' (Nat.lt_of_lt_of_le (end_lt hz) hp) z hz)
 ·exact .inr (.inr c)
theorem JoI.step {n : Net} {ss : List Str} {kvs : List (Key × V)} {lf : List Nat} {h p : Nat} (I : JoI n ss (some (h, p)) kvs lf) {z : Str} (hz : j01 n (h, p) = some z) (ht : z ∈ ss → hasN kvs (other n (h, p)).1) : JoI n ss (some (h, p + 1)) kvs lf := by
 refine ⟨I.nod, I.num, I.val, I.fst, I.lfk, fun x q e => ?_, fun r hc => ?_, fun x q e p' hp' y hy hys => ?_⟩
 ·cases e
  exact I.hrh h p rfl
 ·rcases I.cls r hc with k | k | k
  ·exact .inl k
  ·obtain ⟨q, e⟩ := k
   cases e
   exact .inr (.inl ⟨_, rfl⟩)
  ·exact .inr (.inr k)
 ·cases e
  by_cases k : p' < p
  ·exact I.dne h p rfl p' k y hy hys
  ·have : p' = p := by omega
   subst this
   rw [hz] at hy
   cases hy
   exact ht hys
theorem JoI.new {n : Net} (T : j1g n) {ss : List Str} {kvs : List (Key × V)} {lf : List Nat} {h p : Nat} (I : JoI n ss (some (h, p)) kvs lf) {z : Str} (hz : j01 n (h, p) = some z) (hzs : z ∈ ss) (hn : valV kvs (Sum.inl ((other n (h, p)).1 : Int)) = none) :
  JoI n ss (some (h, p + 1)) (putK kvs (Sum.inl ((other n (h, p)).1 : Int)) (.bl true)) (lf ++ [(other n (h, p)).1]) := by
 have hlt := other_lt T hz
 have hnk := val_none hn
 have w : Rt n ss (fstN n) (nmA n (other n (h, p)).1) := (I.val h _ (I.hrh h p rfl)).2.trans (Rt.step hz hzs)
 have hnew : hasN (putK kvs (Sum.inl ((other n (h, p)).1 : Int)) (.bl true)) (other n (h, p)).1 := by
  show valV _ _ = _
  rw [j0q, if_pos rfl]
 have up : ∀ {r : Nat}, hasN kvs r → hasN (putK kvs (Sum.inl ((other n (h, p)).1 : Int)) (.bl true)) r := fun {r} hc => by
  show valV _ _ = _
  rw [j0q]
  split
  ·rfl
  ·exact hc
 have dn : ∀ {r : Nat}, hasN (putK kvs (Sum.inl ((other n (h, p)).1 : Int)) (.bl true)) r → r = (other n (h, p)).1 ∨ hasN kvs r := fun {r} hc => by
  have hc : valV _ _ = _ := hc
  rw [j0q] at hc
  by_cases q : r = (other n (h, p)).1
  ·exact .inl q
  ·rw [if_neg (inl_ne q)] at hc
   exact .inr hc
 have I' : JoI n ss (some (h, p)) (putK kvs (Sum.inl ((other n (h, p)).1 : Int)) (.bl true)) (lf ++ [(other n (h, p)).1]) := by
  refine ⟨?_, fun k hk => ?_, fun r v hv => ?_, up I.fst, fun r hr => ?_, fun x q e => up (I.hrh x q e), fun r hc => ?_, fun x q e p' hp' y hy hys => up (I.dne x q e p' hp' y hy hys)⟩
  ·rw [keysP, if_neg hnk]
   exact j2q I.nod hnk
  ·rw [keysP, if_neg hnk] at hk
   rcases List.mem_append.mp hk with hk | hk
   ·exact I.num k hk
   ·exact ⟨_, List.mem_singleton.mp hk, hlt⟩
  ·rw [j0q] at hv
   by_cases q : r = (other n (h, p)).1
   ·rw [if_pos (by rw [q])] at hv
    cases hv
    exact ⟨rfl, by rw [q]; exact w⟩
   ·rw [if_neg (inl_ne q)] at hv
    exact I.val r v hv
  ·rcases List.mem_append.mp hr with hr | hr
   ·exact up (I.lfk r hr)
   ·rw [List.mem_singleton.mp hr]
    exact hnew
  ·rcases dn hc with q | hc
   ·exact .inl (List.mem_append_right _ (by rw [q]; exact List.mem_singleton.mpr rfl))
   ·rcases I.cls r hc with k | k | k
    ·exact .inl (List.mem_append_left _ k)
    ·exact .inr (.inl k)
    ·exact .inr (.inr fun p' y hy hys => up (k p' y hy hys))
 exact I'.step hz fun _ => hnew
theorem JoI.whole {n : Net} (T : j1g n) (h0 : 0 < n.length) (hn : (n.map (·.1)).Nodup) {ss : List Str} {kvs : List (Key × V)} (I : JoI n ss none kvs []) : kvs.length = n.length ↔ ∀ x ∈ n.map (·.1), Rt n ss (fstN n) x := by
 have has_of : ∀ r, r < n.length → Rt n ss (fstN n) (nmA n r) → hasN kvs r := fun r hr h => by
  obtain ⟨r', h1, h2⟩ := h.ind T (P := fun x => ∃ r, hasN kvs r ∧ nmA n r = x) ⟨0, I.fst, rfl⟩ fun e z he hz ⟨r, hr, q⟩ => by
   have := nmA_inj hn (I.lt hr) (j1r he) q
   subst this
   rcases I.cls _ hr with c | c | c
   ·cases c
   ·obtain ⟨p, e'⟩ := c
    cases e'
   ·exact ⟨_, c e.2 z he hz, rfl⟩
  rw [← nmA_inj hn (I.lt h1) hr h2]
  exact h1
 have k := all_lenK I.nod (b := (List.range n.length).map fun r => (Sum.inl ((r : Nat) : Int) : Key)) (by
  rw [List.nodup_iff_pairwise_ne, List.pairwise_map]
  exact (List.nodup_iff_pairwise_ne.mp List.nodup_range).imp fun h e => h (by have := Sum.inl.inj e; omega)) fun k hk => by
  obtain ⟨r, e, h⟩ := I.num k hk
  exact List.mem_map.mpr ⟨r, List.mem_range.mpr h, e.symm⟩
 rw [List.length_map, List.length_map, List.length_range] at k
 rw [k]
 constructor
 ·intro h x hx
  obtain ⟨i, hi, rfl⟩ := name_at hx
  have hm := h (Sum.inl (i : Int)) (List.mem_map.mpr ⟨i, List.mem_range.mpr hi, rfl⟩)
  cases hv : valV kvs (Sum.inl (i : Int)) with
  | none => exact absurd hm (val_none hv)
  | some v => exact (I.val i v hv).2
 ·intro h y hy
  obtain ⟨r, hr, rfl⟩ := List.mem_map.mp hy
  have hr := List.mem_range.mp hr
  exact val_some (has_of r hr (h _ (at_name hr)))
end Nt
namespace Nt
open PySem L2
open Classical
section
variable {n : Net} {z : Str}
noncomputable def Whl (n : Net) : Prop := ∀ x ∈ n.map (·.1), Rt n (ties n) (fstN n) x
end
noncomputable def allL (ls : List Lk) : List Bl := ls.map fun x => (x.2.1, x.2.2, false)
theorem allL_rt {n : Net} (T : j1g n) {ls : List Lk} (h : ∀ x, x ∈ ls ↔ IsLink n x) {f x : Str} : (∃ b, Way (allL ls) f x b) ↔ Rt n (ties n) f x := by
 have mem : ∀ {x y : Str} {o : Bool}, (x, y, o) ∈ allL ls ↔ ∃ l ∈ ls, x = l.2.1 ∧ y = l.2.2 ∧ o = false := fun {x y o} => by
  unfold allL
  rw [List.mem_map]
  constructor
  ·rintro ⟨l, hl, q⟩
   exact ⟨l, hl, (congrArg (·.1) q).symm, (congrArg (·.2.1) q).symm, (congrArg (·.2.2) q).symm⟩
  ·rintro ⟨l, hl, rfl, rfl, rfl⟩
   exact ⟨l, hl, rfl⟩
 constructor
 ·rintro ⟨b, w⟩
  refine way_mono (fun x y o hm => ?_) w
  obtain ⟨l, hl, rfl, rfl, rfl⟩ := mem.mp hm
  obtain ⟨e, he, h1, h2⟩ := link_end T ((h l).mp hl)
  exact ⟨false, .inl (lkT_mem.mpr ⟨e, l.1, he, j2s he, h1, h2, rfl⟩)⟩
 ·rintro ⟨b, w⟩
  refine way_mono (fun x y o hm => ?_) w
  obtain ⟨e, z, he, hz, rfl, rfl, rfl⟩ := lkT_mem.mp hm
  rcases end_link T he with q | q
  ·exact ⟨false, .inl (mem.mpr ⟨_, (h _).mpr q, rfl, rfl, rfl⟩)⟩
  ·exact ⟨false, .inr (mem.mpr ⟨_, (h _).mpr q, rfl, rfl, rfl⟩)⟩
theorem spread_all {n : Net} (T : j1g n) (hN : (n.map (·.1)).Nodup) (h0 : 0 < n.length) {ls : List Lk} (h : ∀ x, x ∈ ls ↔ IsLink n x) {kvs : List (Key × V)} (I : SpI (allL ls) (fstN n) none kvs []) : kvs.length = n.length ↔ Whl n := by
 have key : ∀ x, Sum.inr x ∈ kvs.map (·.1) ↔ Rt n (ties n) (fstN n) x := fun x => by
  rw [← allL_rt T h]
  constructor
  ·intro hx
   cases hv : valV kvs (Sum.inr x) with
   | none => exact absurd hx (I.notin hv)
   | some v =>
    obtain ⟨b, _, w⟩ := I.val x v hv
    exact ⟨b, w⟩
  ·rintro ⟨b, w⟩
   obtain ⟨b', hb'⟩ := I.whole x b w
   exact val_some hb'
 have names : ∀ x, Rt n (ties n) (fstN n) x → x ∈ n.map (·.1) := fun x hx => hx.ind T (P := fun x => x ∈ n.map (·.1)) (at_name h0) fun e z he _ _ => at_name (other_lt T he)
 have nd2 : ((n.map (·.1)).map (Sum.inr : Str → Key)).Nodup := List.Pairwise.map _ (fun a b h e => h (Sum.inr.inj e)) hN
 have k := all_lenK I.nod nd2 fun k hk => by
  obtain ⟨x, rfl, _⟩ := I.txt k hk
  exact List.mem_map.mpr ⟨x, names x ((key x).mp hk), rfl⟩
 rw [List.length_map, List.length_map, List.length_map] at k
 rw [k]
 constructor
 ·exact fun q x hx => (key x).mp (q _ (List.mem_map.mpr ⟨x, hx, rfl⟩))
 ·intro q y hy
  obtain ⟨x, hx, rfl⟩ := List.mem_map.mp hy
  exact (key x).mpr (q x hx)
noncomputable abbrev Lr (lf : List Nat) : HO := .lst (lf.map fun (r : Nat) => V.int (r : Int))
section
variable {H0 H : Hp} {d l0 a : Addr} {done : List (Str × End)} {kvs : List (Key × V)} {ks : List Str} {z : Str} {e : End}
end
end Nt
namespace L2
open PySem PySem.Spec PyProof.Rows
theorem call_lenS {X : Cx} : j2k X (.builtin "len") (fun xs H Q => ∃ a zs, xs = [V.ref a] ∧ H a = some (SetO X.prog X.w a zs) ∧ Q (.int zs.length) H) := by
 intro pins s σ H xs us Q I r h
 obtain ⟨a, zs, rfl, ha, q⟩ := h
 obtain ⟨u, rfl, ru⟩ := vals1 r
 cases ru
 obtain ⟨o, es, ep, t, ho, hx, hd, T⟩ := (I.hok a _ ha).1
 have hl : es.size = zs.length := by have := T.keys.length_eq; simpa using this
 refine call_len_set ho hx hd T.fits (by have := T.few; omega) ?_
 rw [hl]
 exact ⟨.int zs.length, H, I.tok _, ⟨_, rfl⟩, q⟩
end L2
namespace V5
open PySem L2 Nt Sort2 SetT
open PyProof.Rows (sortedS)
open Classical
noncomputable def okc (c : Nat) : Bool := decide (c ∈ lets.cps.toList)
noncomputable def isNm (z : Str) : Bool := decide (1 ≤ z.length ∧ z.length ≤ 8) && z.cps.toList.all okc
noncomputable def spIs (K : PySem.W.Frag) : Sp := fun vs H Q _ => ∃ v, vs = [v] ∧
 ((∃ z, v = .str z ∧ z.length ≤ 100000 ∧ ∀ H', Same H H' → Q (.bl (isNm z)) H') ∨ ∃ t, TyOf K H v t ∧ PySem.W.kitOne K t (.type "str") = some false ∧ Q (.bl false) H)
theorem kit_str (K : PySem.W.Frag) : PySem.W.kitOne K (.type "str") (.type "str") = some true := by rfl
noncomputable def spTs : Sp := fun vs H Q _ => ∃ (R : Addr) (as : List (Addr × Addr)) (n : Net), vs = [.ref R] ∧ RowsAt H R as n ∧ n.length ≤ 1000 ∧ (ties n).length ≤ 900 ∧ (∀ zs : List Str, zs.Nodup → (∀ z ∈ zs, z ∈ ties n) → zs.length < 64) ∧
 ∀ (L : Addr) (ss : List Str) (H' : Hp), Same H H' → H L = none → H' L = some (Ls ss) → ss.Nodup → sortedS ss = true → (∀ z, z ∈ ss ↔ z ∈ ties n) → Q (.ref L) H'
theorem added_nodup {zs : List Str} {z : Str} (h : zs.Nodup) : (added zs z).Nodup := by
 unfold added
 split
 ·exact h
 ·rename_i hz
  exact j2q h hz
theorem added_iff {zs : List Str} {z y : Str} : y ∈ added zs z ↔ y ∈ zs ∨ y = z := by
 unfold added
 split
 ·rename_i hz
  refine ⟨.inl, fun h => h.elim id fun e => ?_⟩
  rw [e]
  exact hz
 ·rw [List.mem_append, List.mem_singleton]
theorem ties_take {n : Net} {r : Nat} (h : r < n.length) : ties (n.take (r + 1)) = ties (n.take r) ++ row n r := by
 rw [row_eq h]
 unfold ties
 rw [List.take_add_one, List.getElem?_eq_getElem h, List.flatMap_append]
 simp
noncomputable def spPts : Sp := fun vs H Q _ => ∃ (R : Addr) (as : List (Addr × Addr)) (n : Net), vs = [.ref R] ∧ RowsAt H R as n ∧ n.length ≤ 1000 ∧ ∀ (L : Addr) (H' : Hp), Same H H' → H L = none → H' L = some (Ls (n.map (·.1))) → Q (.ref L) H'
theorem AtB.snoc {H : Hp} {us : List Addr} {ls : List Bl} {u : Addr} {x : Bl} (h : AtB H us ls) (hu : H u = some (T3b x)) : AtB H (us ++ [u]) (ls ++ [x]) := by
 refine ⟨by rw [List.length_append, List.length_append, h.1]; rfl, fun j v y h1 h2 => ?_⟩
 have hl := h.1
 by_cases hj : j < us.length
 ·rw [List.getElem?_append_left hj] at h1
  rw [List.getElem?_append_left (by omega)] at h2
  exact h.2 j v y h1 h2
 ·rw [List.getElem?_append_right (by omega)] at h1 h2
  have hj2 : j - us.length = 0 := by
   have := (List.getElem?_eq_some_iff.mp h1).1
   simp at this
   omega
  rw [hj2] at h1
  rw [← hl, hj2] at h2
  cases h1
  cases h2
  exact hu
noncomputable def spHt : Sp := fun vs H Q _ => ∃ (R : Addr) (as : List (Addr × Addr)) (n : Net), vs = [.ref R] ∧ RowsAt H R as n ∧ j1g n ∧ (n.map (·.1)).Nodup ∧ 0 < n.length ∧ n.length ≤ 60 ∧ (ties n).length ≤ 60 ∧ ∀ H', Same H H' → Q (.bl (decide (Whl n))) H'
theorem allL_take {ls : List Lk} {i : Nat} (h : i < ls.length) : allL (ls.take (i + 1)) = allL (ls.take i) ++ [((ls[i]).2.1, (ls[i]).2.2, false)] := by
 unfold allL
 rw [List.take_add_one, List.getElem?_eq_getElem h, List.map_append]
 rfl
noncomputable def xNames : List Str := ["NoNet", "Broken", "NoPlane", "Bridge"]
structure Cl (K : PySem.W.Frag) (mg : Str → Option Value) (c : Str → Addr) : Prop where
 net : mg "NetError" = some (.ref (c "NetError"))
 xnet : XC K (c "NetError")
 at' : ∀ x ∈ xNames, mg x = some (.ref (c x)) ∧ XC K (c x) ∧ mroHas K (c x) (c "NetError") = true ∧ xLook K (c x) = true ∧ PySem.W.kitOne K (.ref (c x)) (.type "ValueError") = some true
 kit : ∀ x ∈ xNames, ∀ y ∈ xNames, PySem.W.kitOne K (.ref (c x)) (.ref (c y)) = some (decide (x = y))
noncomputable def cAd (K : PySem.W.Frag) (x : Str) : Addr := match PySem.W.nsIn K mainGlobals x with
 | some (some (.ref a)) => a
 | _ => 0
noncomputable def clB (K : PySem.W.Frag) : Bool := (PySem.W.nsIn K mainGlobals "NetError" == some (some (.ref (cAd K "NetError")))) && PySem.W.excIn K (cAd K "NetError") vmro "ValueError.__new__" &&
 xNames.all fun x => (PySem.W.nsIn K mainGlobals x == some (some (.ref (cAd K x)))) && PySem.W.excIn K (cAd K x) vmro "ValueError.__new__" && mroHas K (cAd K x) (cAd K "NetError") && xLook K (cAd K x) && (PySem.W.kitOne K (.ref (cAd K x)) (.type "ValueError") == some true) &&
  xNames.all fun y => PySem.W.kitOne K (.ref (cAd K x)) (.ref (cAd K y)) == some (decide (x = y))
theorem cl_of {K : PySem.W.Frag} {h : Heap} {mg : Str → Option Value} (X : K.In h) (G : h.Ns mainGlobals mg) (q : clB K = true) : Cl K mg (cAd K) := by
 unfold clB at q
 simp only [Bool.and_eq_true, List.all_eq_true, beq_iff_eq] at q
 obtain ⟨⟨q1, q2⟩, q3⟩ := q
 exact ⟨PySem.W.mg_of X G q1, q2, fun x hx => by obtain ⟨⟨⟨⟨⟨a1, a2⟩, a3⟩, a4⟩, a5⟩, _⟩ := q3 x hx; exact ⟨PySem.W.mg_of X G a1, a2, a3, a4, a5⟩, fun x hx y hy => (q3 x hx).2 y hy⟩
structure Good (n : Net) : Prop where
 twice : j1g n
 names : (n.map (·.1)).Nodup
 pos : 0 < n.length
 few : n.length ≤ 60
 less : (ties n).length ≤ 60
 pnm : ∀ x ∈ n.map (·.1), isNm x = true ∧ x.length ≤ 8
 tnm : ∀ z ∈ ties n, isNm z = true ∧ z.length ≤ 8
noncomputable def Flt (n : Net) (ss : List Str) : Prop := (n.length : Int) - (ss.length : Int) + ((fac n).length : Int) = 2
noncomputable def spGood : Sp := fun vs H Q _ => ∃ (R : Addr) (as : List (Addr × Addr)) (n : Net), vs = [.ref R] ∧ RowsAt H R as n ∧ Good n ∧ ∀ H', Same H H' → Q (.bl true) H'
noncomputable def spPlane : Sp := fun vs H Q _ => ∃ (R : Addr) (as : List (Addr × Addr)) (n : Net), vs = [.ref R] ∧ RowsAt H R as n ∧ Good n ∧ ∀ ss H', Same H H' → ss.Nodup → (∀ z, z ∈ ss ↔ z ∈ ties n) → Q (.bl (decide (Flt n ss))) H'
noncomputable def spVet (c : Str → Addr) : Sp := fun vs H Q E => ∃ (R : Addr) (as : List (Addr × Addr)) (n : Net), vs = [.ref R] ∧ RowsAt H R as n ∧ Good n ∧ (¬ Whl n → ∀ H', Same H H' → E (.ref (c "Broken")) none H') ∧
 ∀ ss : List Str, ss.Nodup → (∀ z, z ∈ ss ↔ z ∈ ties n) → (Whl n → ¬ Flt n ss → ∀ H', Same H H' → E (.ref (c "NoPlane")) none H') ∧ (Whl n → Flt n ss → ∀ H', Same H H' → Q (.bl true) H')
theorem made_nd {zs : List Str} (h : zs.Nodup) : (made zs).length = zs.length := by
 have h2 := made_len zs
 have h3 := nodup_le h fun z hz => (made_mem zs z).mpr hz
 omega
section
variable {P : Program} {w : World} {K : PySem.W.Frag} {mg : Str → Option Value} {base : Heap}
theorem scIs : FnScope ["thing"] ["thing"] (j0c j2u) := ⟨rfl, rfl, rfl, by decide +kernel, rfl, by decide +kernel, by decide +kernel⟩
theorem ok_is {f : Addr} {fd : FuncData} (F : Fun K "is_name" "is_name" j2u f fd) (T : Txt mg) : FnOk P w K mg base CX0 1 f fd ["thing"] (spIs K) := by
 refine F.gb scIs (fun vs H Q E h => ?_) (fun b0 H vs Q E hr h => ?_)
 ·obtain ⟨v, rfl, _⟩ := h
  rfl
 obtain ⟨us, hs, rs⟩ := T.signs
 obtain ⟨um, hm, rm⟩ := T.most
 obtain ⟨v, rfl, h⟩ := h
 let X : Cx := cxB ["thing"] "is_name" (j0c j2u) P w K mg base b0
 show Run X _ _ [some v] H
 refine j1n (et_not (et_val (j0u call_isi T.isi PyProof.Rows.boot_isinstance (j0a (ev_v 0 (j0a (ev_bltn (.ty "str") T.tstr PyProof.Rows.boot_str rfl (j0e ?_))))))))
 rcases h with ⟨z, rfl, hz, q⟩ | ⟨t, ty, e, q⟩
 ·refine ⟨_, _, _, true, rfl, .str z, kit_str K, true, rfl, iteF (j0i ?_)⟩
  refine j1n (et_bool (ew_or (j14 op_lt (j0u call_len_str T.len boot_len (j0a (ev_v 0 (j0e ⟨z, rfl, small hz, j0h ⟨_, _, rfl, rfl, _, rfl, ?_⟩⟩)))))))
  refine ite2 (fun c => ?_) (fun c => ?_)
  ·have c' := of_decide_eq_true c
   have e : isNm z = false := by
    unfold isNm
    rw [decide_eq_false (by omega)]; rfl
   refine iteT (j0p (j13 ?_))
   have := q H (Same.refl H)
   rw [e] at this
   exact this
  ·have c' : ¬ ((z.length : Int) < 1) := fun h => c (decide_eq_true h)
   refine ew_or1 (j14 op_gt (j0u call_len_str T.len boot_len (j0a (ev_v 0 (j0e ⟨z, rfl, small hz, ev_glob hm rm ⟨_, _, rfl, rfl, _, rfl, ?_⟩⟩)))))
   refine ite2 (fun d => ?_) (fun d => ?_)
   ·have d' := of_decide_eq_true d
    have e : isNm z = false := by
     unfold isNm
     rw [decide_eq_false (by omega)]; rfl
    refine j0p (j13 ?_)
    have := q H (Same.refl H)
    rw [e] at this
    exact this
   ·have d' : ¬ ((8 : Int) < (z.length : Int)) := fun h => d (decide_eq_true h)
    refine j0i (j0p (j0u (call_allB rfl) T.all PyProof.Rows.boot_all (j0a (ev_comp (j0c j2u) ["thing"] ["thing", "sign"] 1 (pi_str j0y) ?_))))
    refine ev_v 0 ⟨z, rfl, fun D hD => ?_⟩
    refine comp_strL (x := "sign") (σ := [some (.str z)]) (fun c => .bl (okc c)) (j00 (n := z.cps.size) (by have : z.cps.size = z.length := rfl; omega)) (fun _ _ _ _ _ v v0 H' R hR => j0l 1 (show (["thing", "sign"] : List Str).Nodup by decide +kernel) hR) (fun _ _ _ _ _ c H' R _ hR => ?_) ?_
    ·refine ev_cmp op_in_str (ev_v 1 (ev_glob hs rs ⟨_, _, rfl, rfl, ?_⟩))
     rw [StrLaws.found_one]
     exact hR
    ·refine j0e ⟨D, z.cps.toList.map okc, rfl, SqL.of (by rw [j0b, List.map_map]; rfl), ?_⟩
     have e : isNm z = (z.cps.toList.map okc).all id := by
      unfold isNm
      rw [decide_eq_true (by omega), Bool.true_and, List.all_map]; rfl
     have := q _ (j0g hD (.lst (z.cps.toList.map fun c => V.bl (okc c))))
     rw [e] at this
     exact this
 ·exact ⟨_, t, _, false, rfl, ty, e, false, rfl, iteT (j0p (j13 q))⟩
noncomputable abbrev NTs1 : List Str := ["rows"]
noncomputable abbrev NTs2 : List Str := ["rows", "point", "ties", "tie"]
theorem scTies : FnScope NTs1 ["rows"] (j0c j2v) := ⟨rfl, rfl, rfl, by decide +kernel, rfl, by decide +kernel, by decide +kernel⟩
theorem nd_ts2 : NTs2.Nodup := by decide +kernel
theorem ok_ties {f : Addr} {fd : FuncData} (F : Fun K "ties_of" "ties_of" j2v f fd) (T : Txt mg) : FnOk P w K mg base CX0 1 f fd ["rows"] spTs := by
 refine F.gb scTies (fun vs H Q E h => ?_) (fun b0 H vs Q E hr h => ?_)
 ·obtain ⟨R, as, n, rfl, _⟩ := h
  rfl
 obtain ⟨R, as, n, rfl, hR, hn, ht, hfew, q⟩ := h
 have nd := scTies.nd
 have hal := hR.len
 have sub : ∀ (zs : List Str) (r : Nat) (ys : List Str), zs.Nodup → (∀ z, z ∈ zs → z ∈ ties n) → zs.length < 64 := fun zs r ys h1 h2 => hfew zs h1 h2
 have tsub : ∀ r, r < n.length → ∀ z, z ∈ ties (n.take r) ∨ z ∈ row n r → z ∈ ties n := fun r hr' z hz => by
  have e : ties n = ties (n.take (r + 1)) ++ ties (n.drop (r + 1)) := by
   unfold ties
   rw [← List.flatMap_append, List.take_append_drop]
  rw [e, ties_take hr']
  rcases hz with h | h <;> simp [h]
 let X : Cx := cxB NTs1 "ties_of" (j0c j2v) P w K mg base b0
 show Run X _ _ [some (.ref R)] H
 refine j0p (j0u (call_sorted_set rfl) T.sorted PyProof.Rows.boot_sorted (j0a (ev_compS2 (j0c j2v) NTs1 NTs2 3 (j1u j0y) (ev_v 0 ⟨R, rfl, ⟨_, SqL.of hR.lst⟩, fun D hD cl C s₀ H₀ ex => ?_⟩))))
 refine j1m (xs := as.map fun a => V.ref a.1) (fun r σ' H' => (∃ v1 v2 v3, σ' = [some (.ref R)] ++ [v1, v2, v3]) ∧ ∃ zs : List Str, Same H H' ∧ H' D = some (SetO P w D zs) ∧ zs.Nodup ∧ ∀ z, z ∈ zs ↔ z ∈ ties (n.take r)) ⟨⟨none, none, none, rfl⟩, [], j0g hD _, j0b, List.nodup_nil, fun z => Iff.rfl⟩ ?_ ?_ ?_
 ·rintro r σ' H' _ ⟨_, zs, sm, _⟩
  exact SqL.of (sm _ _ hR.lst)
 ·rintro r x σ' H' hx ⟨⟨v1, v2, v3, rfl⟩, zs, sm, eD, zn, zm⟩
  have hi : r < n.length := by
   have := (List.getElem?_eq_some_iff.mp hx).1
   rw [List.length_map] at this
   omega
  obtain ⟨a, ea, eat, et, el, er⟩ := (hR.same sm).at hi
  rw [List.getElem?_map, ea] at hx
  cases hx
  refine j2n rfl (SqT.of et) (j0l 1 nd_ts2 (j0l 2 nd_ts2 ?_))
  refine j2f ?_
  rw [if_pos rfl]
  refine ein_nextS rfl rfl (j1u j0y) (ev_v 2 ⟨a.2, rfl, ⟨_, SqL.of el⟩, ?_⟩)
  have naD : a.2 ≠ D := j1q el eD fun z => nomatch z
  refine j1m (xs := (row n r).map V.str) (fun p σ' H'' => (∃ v3, σ' = [some (.ref R)] ++ [some (.str n[r].1), some (.ref a.2), v3]) ∧ ∃ zs : List Str, (∀ b o, b ≠ D → H' b = some o → H'' b = some o) ∧ H'' D = some (SetO P w D zs) ∧ zs.Nodup ∧ ∀ z, z ∈ zs ↔ z ∈ ties (n.take r) ∨ z ∈ (row n r).take p)
   ⟨⟨_, rfl⟩, zs, fun b o _ h => h, eD, zn, fun z => by rw [zm z]; simp⟩ ?_ ?_ ?_
  ·rintro p σ' H'' _ ⟨_, zs, kb, _⟩
   exact SqL.of (kb _ _ naD el)
  ·rintro p x σ' H'' hx ⟨⟨v3, rfl⟩, zs, kb, eD6, zn6, zm6⟩
   rw [List.getElem?_map, Option.map_eq_some_iff] at hx
   obtain ⟨z, hz, rfl⟩ := hx
   refine j0l 3 nd_ts2 ?_
   refine j2f ?_
   rw [if_pos rfl]
   have hl : zs.length < 64 := hfew zs zn6 fun y hy => tsub r hi y (((zm6 y).mp hy).imp id fun h => List.mem_of_mem_take h)
   refine ein_emitS (ev_v 3 ⟨z, zs, rfl, eD6, by omega, ⟨_, rfl⟩, added zs z, fun b o hb h => by rw [j0d hb]; exact kb b o hb h, j0b, added_nodup zn6, fun y => ?_⟩)
   rw [added_iff, zm6 y, List.take_add_one, hz, or_assoc]
   simp
  ·rintro σ' H'' ⟨⟨v3, rfl⟩, zs, kb, eD6, zn6, zm6⟩
   refine ⟨⟨_, _, _, rfl⟩, zs, fun b o h => kb b o (j0f h hD) (sm _ _ h), eD6, zn6, fun z => ?_⟩
   rw [zm6 z, List.length_map, List.take_length, ties_take hi, List.mem_append]
 ·rintro σ' H' ⟨_, zs, sm, eD, zn, zm⟩
  rw [List.length_map, hal, List.take_length] at zm
  refine j0e ⟨D, zs, rfl, eD, hfew zs zn fun y hy => (zm y).mp hy, fun l ss hl hp hs => ?_⟩
  exact q l ss _ (sm.trans (j0g hl _)) (j06 sm hl) j0b (hp.nodup_iff.mpr zn) hs fun z => by rw [hp.mem_iff, zm z]
noncomputable abbrev NPt1 : List Str := ["rows"]
noncomputable abbrev NPt2 : List Str := ["rows", "point", "ties"]
theorem scPts : FnScope NPt1 ["rows"] (j0c j2e) := ⟨rfl, rfl, rfl, by decide +kernel, rfl, by decide +kernel, by decide +kernel⟩
theorem nd_pt2 : NPt2.Nodup := by decide +kernel
theorem ok_points {f : Addr} {fd : FuncData} (F : Fun K "points_of" "points_of" j2e f fd) (T : Txt mg) : FnOk P w K mg base CX0 1 f fd ["rows"] spPts := by
 refine F.gb scPts (fun vs H Q E h => ?_) (fun b0 H vs Q E hr h => ?_)
 ·obtain ⟨R, as, n, rfl, _⟩ := h
  rfl
 obtain ⟨R, as, n, rfl, hR, hn, q⟩ := h
 have hal := hR.len
 let X : Cx := cxB NPt1 "points_of" (j0c j2e) P w K mg base b0
 show Run X _ _ [some (.ref R)] H
 refine j0p (ev_comp (j0c j2e) NPt1 NPt2 2 (j1u j0y) (ev_v 0 ⟨R, rfl, ⟨_, SqL.of hR.lst⟩, fun D hD => ?_⟩))
 refine j15 (xs := as.map fun a => V.ref a.1) (fun i σ' H' => (∃ v1 v2, σ' = [some (.ref R)] ++ [v1, v2]) ∧ H' = upd H D (Ls ((n.take i).map (·.1)))) ⟨⟨none, none, rfl⟩, rfl⟩ ?_ ?_ ?_
 ·rintro i σ' H' _ ⟨_, rfl⟩
  exact SqL.of (j0g hD _ _ _ hR.lst)
 ·rintro i x σ' H' hx ⟨⟨v1, v2, rfl⟩, rfl⟩
  have hi : i < n.length := by
   have := (List.getElem?_eq_some_iff.mp hx).1
   rw [List.length_map] at this
   omega
  obtain ⟨a, ea, eat, et, el, er⟩ := (hR.same (j0g hD (Ls ((n.take i).map (·.1))))).at hi
  rw [List.getElem?_map, ea] at hx
  cases hx
  intro cl C' s₀ H₀ ex
  refine j2n rfl (SqT.of et) (j0l 1 nd_pt2 (j0l 2 nd_pt2 ?_))
  intro cl C' s₀ H₀ ex
  refine j2f ?_
  rw [if_pos rfl]
  intro cl C' s₀ H₀ ex
  refine ev_v 1 ⟨_, j0b, ?_, ⟨_, _, rfl⟩, ?_⟩
  ·rw [List.length_map, List.length_map, List.length_take]
   exact j00 (by omega)
  ·rw [upd_upd, List.take_add_one, List.getElem?_eq_getElem hi, List.map_append]
   exact ls_app
 ·rintro σ' H' ⟨_, rfl⟩
  rw [List.length_map, hal, List.take_length]
  exact q D _ (j0g hD _) hD j0b
noncomputable abbrev NHt : List Str := ["rows", "links"]
noncomputable abbrev NHt' : List Str := ["rows", "links", "tie", "one", "other"]
theorem scHt : FnScope NHt ["rows"] (j0c j1c) := ⟨rfl, rfl, rfl, by decide +kernel, rfl, by decide +kernel, by decide +kernel⟩
theorem nd_ht : NHt'.Nodup := by decide +kernel
theorem ok_ht {f : Addr} {fd : FuncData} (F : Fun K "hangs_together" "hangs_together" j1c f fd) (T : Txt mg) (GL : Has P w K mg base 1 "links_of" ["rows"] spLinks) (GS : Has P w K mg base 1 "spread" ["first", "links"] spSpread) :
  FnOk P w K mg base CX0 2 f fd ["rows"] spHt := by
 refine F.gb scHt (fun vs H Q E h => ?_) (fun b0 H vs Q E hr h => ?_)
 ·obtain ⟨R, as, n, rfl, _⟩ := h
  rfl
 obtain ⟨R, as, n, rfl, hR, hT, hN, h0, hn, hti, q⟩ := h
 have nd := scHt.nd
 have hal := hR.len
 let X : Cx := cxB NHt "hangs_together" (j0c j1c) P w K mg base b0
 show Run X _ _ [some (.ref R), none] H
 refine run_setC 1 (j0c j1c) NHt NHt' 3 nd (j1u j0y) (j0v GL hr (j0a (ev_v 0 (j0e ⟨R, as, n, rfl, hR, hT, by omega, hti, fun L us ls H1 s1 n1 eL hat hso hmem hlen => ?_⟩))))
 refine ⟨L, rfl, ⟨_, SqL.of eL⟩, fun D hD => ?_⟩
 have lus := hat.1
 refine j15 (xs := us.map V.ref) (fun i σ' H' => (∃ v1 v2 v3, σ' = [some (.ref R), none] ++ [v1, v2, v3]) ∧ ∃ ws : List Addr, Same H1 H' ∧ H' D = some (.lst (ws.map V.ref)) ∧ AtB H' ws (allL (ls.take i))) ⟨⟨_, _, _, rfl⟩, [], j0g hD _, j0b, rfl, fun j u x h => by simp at h⟩ ?_ ?_ ?_
 ·rintro i σ' H' _ ⟨_, ws, sm, _⟩
  exact SqL.of (sm _ _ eL)
 ·rintro i x σ' H' hx ⟨⟨v1, v2, v3, rfl⟩, ws, sm, eD, hatb⟩
  rw [List.getElem?_map, Option.map_eq_some_iff] at hx
  obtain ⟨u, hu1, rfl⟩ := hx
  have hi : i < ls.length := by
   have := (List.getElem?_eq_some_iff.mp hu1).1
   omega
  have hup := sm _ _ (hat.2 i u _ hu1 (List.getElem?_eq_getElem hi))
  rw [allL_take hi]
  have lw : ws.length ≤ i := by
   have := hatb.1
   unfold allL at this
   rw [List.length_map, List.length_take] at this
   omega
  generalize ls[i] = lx at hup
  obtain ⟨ti, on, ot⟩ := lx
  intro cl C' s₀ H₀ ex
  refine eg_triple rfl (SqT.of hup) (j0l 2 nd_ht (j0l 3 nd_ht (j0l 4 nd_ht ?_)))
  intro cl C' s₀ H₀ ex
  refine j2f (iteT ?_)
  intro cl C' s₀ H₀ ex
  refine j1f (j0a (ev_v 3 (j0a (ev_v 4 (j0a (j13 (j0e ⟨(by show 3 ≤ sizeLine; decide), fun t ht' => ?_⟩)))))))
  have ntD : t ≠ D := fun e => by rw [e, eD] at ht'; cases ht'
  have sT := j0g ht' (.tup [.str on, .str ot, .bl false])
  refine ⟨_, sT _ _ eD, by rw [List.length_map]; exact j00 (by omega), ⟨_, _, _, rfl⟩, ws ++ [t], j02 (sm.trans sT) hD, ?_, ?_⟩
  ·rw [j0b, List.map_append]
   rfl
  ·refine AtB.snoc ⟨hatb.1, fun j v y h1 h2 => ?_⟩ ?_
   ·have e := sT _ _ (hatb.2 j v y h1 h2)
    rw [j0d (j1q e (sT _ _ eD) fun z => nomatch z)]
    exact e
   ·rw [j0d ntD]
    exact j0b
 ·rintro σ' H2 ⟨_, ws, s2, eD, hatb⟩
  rw [List.length_map, lus, List.take_length] at hatb
  have sH2 : Same H H2 := s1.trans s2
  have hR2 := hR.same sH2
  obtain ⟨a0, ea0, eat0, et0, el0, er0⟩ := hR2.at h0
  rw [← nmA_eq h0] at et0
  show Run _ _ _ [some (.ref R), some (.ref D)] H2
  refine j0p (ev_cmp op_eq (j0u call_lenD T.len boot_len (j0a (j0v GS hr (j0a (j09 j1h (j09 j1k (ev_v 0 (j0h ⟨R, _, _, .ref a0.1, rfl, rfl, SqL.of hR2.lst, eat0, j0h ⟨a0.1, _, _, .str (nmA n 0), rfl, rfl, SqT.of et0, rfl, ?_⟩⟩)))))))))
  refine j0a (ev_v 1 (j0e ⟨fstN n, D, ws, allL ls, rfl, eD, hatb, by unfold allL; rw [List.length_map]; omega, fun d kvs H3 s3 nd3 ed3 I => j0e ⟨d, kvs, rfl, ed3, ?_⟩⟩))
  refine j0u j0n T.len boot_len (j0a (ev_v 0 (j0e ⟨R, _, rfl, .inl (SqL.of (s3 _ _ hR2.lst)), rfl, ?_⟩)))
  rw [List.length_map, hal]
  have k := spread_all hT hN h0 hmem I
  have e : decide (V.int (kvs.length : Int) = V.int (n.length : Int)) = decide (Whl n) := by
   rw [decide_eq_decide, ← k]
   constructor
   ·intro h
    have := V.int.inj h
    omega
   ·intro h
    rw [h]
  rw [e]
  exact q H3 (sH2.trans s3)
noncomputable abbrev NG1 : List Str := ["rows", "points"]
noncomputable abbrev NG2 : List Str := ["rows", "points", "point"]
theorem scGp : FnScope NG1 ["rows"] (j0c j0r) := ⟨rfl, rfl, rfl, by decide +kernel, rfl, by decide +kernel, by decide +kernel⟩
theorem nd_g2 : NG2.Nodup := by decide +kernel
theorem ok_gp {f : Addr} {fd : FuncData} (F : Fun K "has_good_points" "has_good_points" j0r f fd) (T : Txt mg) (GP : Has P w K mg base 1 "points_of" ["rows"] spPts) (GI : Has P w K mg base 1 "is_name" ["thing"] (spIs K)) :
  FnOk P w K mg base CX0 2 f fd ["rows"] spGood := by
 refine F.gb scGp (fun vs H Q E h => ?_) (fun b0 H vs Q E hr h => ?_)
 ·obtain ⟨R, as, n, rfl, _⟩ := h
  rfl
 obtain ⟨R, as, n, rfl, hR, g, q⟩ := h
 have nd := scGp.nd
 have hn := g.few
 have h0 := g.pos
 let X : Cx := cxB NG1 "has_good_points" (j0c j0r) P w K mg base b0
 show Run X _ _ [some (.ref R), none] H
 refine j0k 1 nd (j0v GP hr (j0a (ev_v 0 (j0e ⟨R, as, n, rfl, hR, by omega, fun L H1 s1 n1 e1 => ?_⟩))))
 show Run _ _ _ [some (.ref R), some (.ref L)] H1
 have hne : ((n.map (·.1)).map V.str).isEmpty = false := by
  cases n with
  | nil => exact absurd h0 (Nat.lt_irrefl _)
  | cons a r => rfl
 refine j1n (et_bool (ew_or (et_not (et_truth (ev_v 1 (v := .ref L) ⟨!((n.map (·.1)).map V.str).isEmpty, Or.inl ⟨_, SqL.of e1, rfl⟩, ?_⟩)))))
 rw [hne]
 refine iteF (ew_or1 (j14 op_lt (j0u call_lenS T.len boot_len (j0a (ev_typ (call_set_strs rfl) T.tset PyProof.Rows.boot_set (j0a (ev_v 1 (j0e ⟨L, _, rfl, SqL.of e1, by rw [List.length_map]; omega, fun a ha => j0e ⟨a, _, rfl, j0b, ?_⟩⟩))))))))
 have s2 := j0g ha (SetO (cxB NG1 "has_good_points" (j0c j0r) P w K mg base b0).prog (cxB NG1 "has_good_points" (j0c j0r) P w K mg base b0).w a (made (n.map (·.1))))
 have e2 := s2 _ _ e1
 generalize upd H1 a (SetO (cxB NG1 "has_good_points" (j0c j0r) P w K mg base b0).prog (cxB NG1 "has_good_points" (j0c j0r) P w K mg base b0).w a (made (n.map (·.1)))) = H2 at s2 e2 ⊢
 refine j0u j0n T.len boot_len (j0a (ev_v 1 (j0e ⟨L, _, rfl, .inl (SqL.of e2), _, _, rfl, rfl, _, rfl, ?_⟩)))
 rw [made_nd g.names, List.length_map, List.length_map, List.length_map, decide_eq_false (Int.lt_irrefl _)]
 refine iteF (j0i (j0p (j0u (call_allB rfl) T.all PyProof.Rows.boot_all (j0a (ev_comp (j0c j0r) NG1 NG2 1 (j1u j0y) (ev_v 1 ⟨L, rfl, ⟨_, SqL.of e2⟩, fun D hD => ?_⟩))))))
 refine j15 (xs := (n.map (·.1)).map V.str) (fun i σ' H' => (∃ v, σ' = [some (.ref R), some (.ref L)] ++ [v]) ∧ Same H2 H' ∧ H' D = some (.lst ((List.replicate i true).map V.bl))) ⟨⟨none, rfl⟩, j0g hD _, j0b⟩ ?_ ?_ ?_
 ·rintro i σ' H' _ ⟨_, sm, _⟩
  exact SqL.of (sm _ _ e2)
 ·rintro i x σ' H' hx ⟨⟨v, rfl⟩, sm, eD⟩
  have hi := (List.getElem?_eq_some_iff.mp hx).1
  rw [List.length_map, List.length_map] at hi
  rw [List.getElem?_map, Option.map_eq_some_iff] at hx
  obtain ⟨z, hz, rfl⟩ := hx
  have gz := g.pnm z (List.mem_of_getElem? hz)
  intro cl' C' s₀ H₀ ex
  refine j0l 2 nd_g2 ?_
  intro cl' C' s₀ H₀ ex
  refine j2f (iteT ?_)
  intro cl' C' s₀ H₀ ex
  refine j0v GI hr (j0a (ev_v 2 (j0e ⟨_, rfl, .inl ⟨z, rfl, by omega, fun H3 s3 => ⟨_, s3 _ _ eD, ?_, ⟨_, rfl⟩, j02 (sm.trans s3) hD, ?_⟩⟩⟩)))
  ·rw [List.length_map, List.length_replicate]
   exact j00 (by omega)
  ·rw [j0b, gz.1, List.replicate_succ', List.map_append]
   rfl
 rintro σ' H3 ⟨_, s3, eD⟩
 refine j0e ⟨D, _, rfl, SqL.of eD, ?_⟩
 rw [show (List.replicate ((n.map (·.1)).map V.str).length true).all id = true by rw [List.all_eq_true]; intro b hb; rw [List.eq_of_mem_replicate hb]; rfl]
 exact q H3 (s1.trans (s2.trans s3))
noncomputable abbrev NGt1 : List Str := ["rows", "names"]
noncomputable abbrev NGt2 : List Str := ["rows", "names", "point", "ties", "tie"]
noncomputable abbrev NGt3 : List Str := ["rows", "names", "tie"]
theorem scGt : FnScope NGt1 ["rows"] (j0c j05) := ⟨rfl, rfl, rfl, by decide +kernel, rfl, by decide +kernel, by decide +kernel⟩
theorem nd_gt2 : NGt2.Nodup := by decide +kernel
theorem nd_gt3 : NGt3.Nodup := by decide +kernel
theorem ok_gt {f : Addr} {fd : FuncData} (F : Fun K "has_good_ties" "has_good_ties" j05 f fd) (T : Txt mg) (GI : Has P w K mg base 1 "is_name" ["thing"] (spIs K)) :
  FnOk P w K mg base CX0 2 f fd ["rows"] spGood := by
 refine F.gb scGt (fun vs H Q E h => ?_) (fun b0 H vs Q E hr h => ?_)
 ·obtain ⟨R, as, n, rfl, _⟩ := h
  rfl
 obtain ⟨R, as, n, rfl, hR, g, q⟩ := h
 have nd := scGt.nd
 have hal := hR.len
 have hn := g.few
 have hti := g.less
 let X : Cx := cxB NGt1 "has_good_ties" (j0c j05) P w K mg base b0
 show Run X _ _ [some (.ref R), none] H
 refine j0k 1 nd (ev_comp2 (j0c j05) NGt1 NGt2 3 (j1u j0y) (ev_v 0 ⟨R, rfl, ⟨_, SqL.of hR.lst⟩, fun D hD cl C s₀ H₀ ex => ?_⟩))
 refine j1m (xs := as.map fun a => V.ref a.1) (fun r σ' H' => (∃ v1 v2 v3, σ' = [some (.ref R), none] ++ [v1, v2, v3]) ∧ Same H H' ∧ H' D = some (Ls (ties (n.take r)))) ⟨⟨none, none, none, rfl⟩, j0g hD _, j0b⟩ ?_ ?_ ?_
 ·rintro r σ' H' _ ⟨_, sm, _⟩
  exact SqL.of (sm _ _ hR.lst)
 ·rintro r x σ' H' hx ⟨⟨v1, v2, v3, rfl⟩, sm, eD⟩
  have hi : r < n.length := by
   have := (List.getElem?_eq_some_iff.mp hx).1
   rw [List.length_map] at this
   omega
  obtain ⟨a, ea, eat, et, el, er⟩ := (hR.same sm).at hi
  rw [List.getElem?_map, ea] at hx
  cases hx
  have naD : a.2 ≠ D := fun e => by
   have := (hR.tup r a n[r] ea (List.getElem?_eq_getElem hi)).2
   rw [e, hD] at this
   cases this
  refine j2n rfl (SqT.of et) (j0l 2 nd_gt2 (j0l 3 nd_gt2 (j2f (iteT ?_))))
  refine ein_next rfl rfl (j1u j0y) (ev_v 3 ⟨a.2, rfl, ⟨_, SqL.of el⟩, ?_⟩)
  refine j1m (xs := (row n r).map V.str) (fun p σ' H'' => (∃ v3, σ' = [some (.ref R), none] ++ [some (.str n[r].1), some (.ref a.2), v3]) ∧ (∀ b o, b ≠ D → H' b = some o → H'' b = some o) ∧ H'' D = some (Ls (ties (n.take r) ++ (row n r).take p))) ⟨⟨_, rfl⟩, fun b o _ h => h, by rw [eD]; simp⟩ ?_ ?_ ?_
  ·rintro p σ' H'' _ ⟨_, kb, _⟩
   exact SqL.of (kb _ _ naD el)
  ·rintro p x σ' H'' hx ⟨⟨v3, rfl⟩, kb, eD6⟩
   rw [List.getElem?_map, Option.map_eq_some_iff] at hx
   obtain ⟨z, hz, rfl⟩ := hx
   refine j0l 4 nd_gt2 (j2f (iteT ?_))
   refine ein_emit (ev_v 4 ⟨_, eD6, ?_, ⟨_, rfl⟩, fun b o hb h => by rw [j0d hb]; exact kb b o hb h, ?_⟩)
   ·have h1 := j2r n r
    have h2 := j3c n r
    rw [List.length_map, List.length_append, List.length_take]
    exact j00 (by omega)
   ·rw [j0b, List.take_add_one, hz]
    show _ = some (HO.lst (List.map V.str (_ ++ (_ ++ [z]))))
    rw [← List.append_assoc, List.map_append (l₂ := [z])]
    rfl
  ·rintro σ' H'' ⟨⟨v3, rfl⟩, kb, eD6⟩
   refine ⟨⟨_, _, _, rfl⟩, fun b o h => kb b o (j0f h hD) (sm _ _ h), ?_⟩
   rw [eD6, List.length_map, List.take_length, ties_k hi]
 rintro σ' H2 ⟨_, s2, eD⟩
 rw [List.length_map, hal, List.take_length] at eD
 show Run _ _ _ [some (.ref R), some (.ref D)] H2
 refine j0p (j0u (call_allB rfl) T.all PyProof.Rows.boot_all (j0a (ev_comp (j0c j05) NGt1 NGt3 1 (j1u j0y) (ev_v 1 ⟨D, rfl, ⟨_, SqL.of eD⟩, fun D2 hD2 => ?_⟩))))
 refine j15 (xs := (ties n).map V.str) (fun i σ' H' => (∃ v, σ' = [some (.ref R), some (.ref D)] ++ [v]) ∧ Same H2 H' ∧ H' D2 = some (.lst ((List.replicate i true).map V.bl))) ⟨⟨none, rfl⟩, j0g hD2 _, j0b⟩ ?_ ?_ ?_
 ·rintro i σ' H' _ ⟨_, sm, _⟩
  exact SqL.of (sm _ _ eD)
 ·rintro i x σ' H' hx ⟨⟨v, rfl⟩, sm, eD2⟩
  have hi := (List.getElem?_eq_some_iff.mp hx).1
  rw [List.length_map] at hi
  rw [List.getElem?_map, Option.map_eq_some_iff] at hx
  obtain ⟨z, hz, rfl⟩ := hx
  have hzt := List.mem_of_getElem? hz
  have gz := g.tnm z hzt
  intro cl' C' s₀ H₀ ex
  refine j0l 2 nd_gt3 ?_
  intro cl' C' s₀ H₀ ex
  refine j2f (iteT ?_)
  intro cl' C' s₀ H₀ ex
  refine ev_and (j0v GI hr (j0a (ev_v 2 (j0e ⟨_, rfl, .inl ⟨z, rfl, by omega, fun H3 s3 => ⟨_, rfl, ?_⟩⟩⟩))))
  rw [gz.1]
  refine iteT (ev_last (ev_cmp op_eq (ev_m1 PySem.F.plainAttrs_list PySem.F.slot_list_count PySem.F.type_list_count mt_count (ev_v 1 (v := .ref D) ⟨Or.inl ⟨rfl, _, SqL.of (s3 _ _ (sm _ _ eD))⟩, ev_v 2 ⟨D, ties n, z, rfl, rfl, SqL.of (s3 _ _ (sm _ _ eD)), j0h ⟨rfl, ?_⟩⟩⟩))))
  rw [g.twice z hzt]
  refine ⟨_, s3 _ _ eD2, ?_, ⟨_, rfl⟩, j02 (sm.trans s3) hD2, ?_⟩
  ·rw [List.length_map, List.length_replicate]
   exact j00 (by omega)
  ·rw [j0b, List.replicate_succ', List.map_append]
   rfl
 rintro σ' H3 ⟨_, s3, eD2⟩
 refine j0e ⟨D2, _, rfl, SqL.of eD2, ?_⟩
 rw [show (List.replicate ((ties n).map V.str).length true).all id = true by rw [List.all_eq_true]; intro b hb; rw [List.eq_of_mem_replicate hb]; rfl]
 exact q H3 (s2.trans s3)
noncomputable abbrev NPl : List Str := ["rows"]
theorem scPl : FnScope NPl ["rows"] (j0c j29) := ⟨rfl, rfl, rfl, by decide +kernel, rfl, by decide +kernel, by decide +kernel⟩
theorem ok_plane {f : Addr} {fd : FuncData} (F : Fun K "is_plane" "is_plane" j29 f fd) (T : Txt mg) (GT : Has P w K mg base 4 "ties_of" ["rows"] spTs) (GF : Has P w K mg base 4 "faces_of" ["rows"] spFaces) :
  FnOk P w K mg base CX0 5 f fd ["rows"] spPlane := by
 refine F.gb scPl (fun vs H Q E h => ?_) (fun b0 H vs Q E hr h => ?_)
 ·obtain ⟨R, as, n, rfl, _⟩ := h
  rfl
 obtain ⟨R, as, n, rfl, hR, g, q⟩ := h
 have nd := scPl.nd
 have hal := hR.len
 have hn := g.few
 have hti := g.less
 let X : Cx := cxB NPl "is_plane" (j0c j29) P w K mg base b0
 show Run X _ _ [some (.ref R)] H
 refine j0p (ev_cmp op_eq (j0t j2b (j0t op_sub (j0u j0n T.len boot_len (j0a (ev_v 0 (j0e ⟨R, _, rfl, .inl (SqL.of hR.lst), ?_⟩)))))))
 refine j0u j0n T.len boot_len (j0a (j0v GT hr (j0a (ev_v 0 (j0e ⟨R, as, n, rfl, hR, by omega, by omega, fun zs h1 h2 => by have := nodup_le h1 h2; omega, fun L ss H1 s1 n1 e1 snd so mem => j0e ⟨L, _, rfl, .inl (SqL.of e1), ?_⟩⟩)))))
 refine ⟨_, _, rfl, rfl, j0u j0n T.len boot_len (j0a (j0v GF hr (j0a (ev_v 0 (j0e ⟨R, as, n, rfl, hR.same s1, g.names, g.twice, by omega, by omega, fun M ls H2 s2 n2 hW fW => j0e ⟨M, _, rfl, .inl (SqL.of hW.lst), ?_⟩⟩)))))⟩
 refine ⟨_, _, rfl, rfl, j0h ⟨rfl, ?_⟩⟩
 rw [List.length_map, List.length_map, List.length_map, hal, hW.len]
 have e : decide (V.int ((n.length : Int) - (ss.length : Int) + ((fac n).length : Int)) = V.int 2) = decide (Flt n ss) := decide_eq_decide.mpr ⟨fun h => V.int.inj h, fun h => congrArg V.int h⟩
 rw [e]
 exact q ss H2 (s1.trans s2) snd mem
noncomputable abbrev NVt : List Str := ["rows"]
theorem scVt : FnScope NVt ["rows"] (j0c s_vet) := ⟨rfl, rfl, rfl, by decide +kernel, rfl, by decide +kernel, by decide +kernel⟩
theorem ok_vet {f : Addr} {fd : FuncData} {c : Str → Addr} (F : Fun K "vet" "vet" s_vet f fd) (T : Txt mg) (cl : Cl K mg c) (GP : Has P w K mg base 5 "has_good_points" ["rows"] spGood) (GT : Has P w K mg base 5 "has_good_ties" ["rows"] spGood) (GH : Has P w K mg base 5 "hangs_together" ["rows"] spHt) (GF : Has P w K mg base 5 "is_plane" ["rows"] spPlane) :
  FnOk P w K mg base (XF P w) 6 f fd ["rows"] (spVet c) := by
 refine F.gx scVt (fun vs H Q E h => ?_) (fun b0 H vs Q hr h => ?_)
 ·obtain ⟨R, as, n, rfl, _⟩ := h
  rfl
 obtain ⟨R, as, n, rfl, hR, g, qB, qQ⟩ := h
 have nd := scVt.nd
 have mB : ("Broken" : Str) ∈ xNames := by decide
 have mP : ("NoPlane" : Str) ∈ xNames := by decide
 show Run _ _ _ [some (.ref R)] H
 refine j1n (et_not (et_val (j0v GP hr (j0a (ev_v 0 (j0e ⟨R, as, n, rfl, hR, g, fun H1 s1 => ⟨_, rfl, iteF (j0i ?_)⟩⟩))))))
 refine j1n (et_not (et_val (j0v GT hr (j0a (ev_v 0 (j0e ⟨R, as, n, rfl, hR.same s1, g, fun H2 s2 => ⟨_, rfl, iteF (j0i ?_)⟩⟩))))))
 have s12 := s1.trans s2
 refine j1n (et_not (et_val (j0v GH hr (j0a (ev_v 0 (j0e ⟨R, as, n, rfl, hR.same s12, g.twice, g.names, g.pos, g.few, g.less, fun H3 s3 => ⟨_, rfl, ?_⟩⟩))))))
 have s13 := s12.trans s3
 by_cases hw : Whl n
 ·rw [decide_eq_true hw]
  refine iteF (j0i (j1n (et_not (et_val (j0v GF hr (j0a (ev_v 0 (j0e ⟨R, as, n, rfl, hR.same s13, g, fun ss H4 s4 snd mem => ⟨_, rfl, ?_⟩⟩))))))))
  have s14 := s13.trans s4
  by_cases hf : Flt n ss
  ·rw [decide_eq_true hf]
   exact iteF (j0i (j0p (j13 ((qQ ss snd mem).2 hw hf _ s14))))
  ·rw [decide_eq_false hf]
   exact iteT (run_raise rzX (cl.at' _ mP).1 (cl.at' _ mP).2.1 rfl (j0a (ev_str (j0e ⟨(by show 1 ≤ sizeLine; decide), (qQ ss snd mem).1 hw hf _ s14⟩))))
 ·rw [decide_eq_false hw]
  exact iteT (run_raise rzX (cl.at' _ mB).1 (cl.at' _ mB).2.1 rfl (j0a (ev_str (j0e ⟨(by show 1 ≤ sizeLine; decide), qB hw _ s13⟩))))
end
end V5
namespace V5
open PySem L2 Nt Sort2 SetT
open PyProof.Rows (sortedS)
open Classical
theorem sgn_ok (i : Int) : okc (sgn i) = true := by
 unfold okc
 refine decide_eq_true ?_
 have h := sgn_at i
 have z0 : 0 ≤ i % 36 := Int.emod_nonneg _ (by decide)
 have z1 : i % 36 < 36 := Int.emod_lt_of_pos _ (by decide)
 obtain ⟨k, hk⟩ : ∃ k : Nat, i % 36 = k := ⟨(i % 36).toNat, by omega⟩
 have hl := lets_len
 rw [hk, atI_nat (List.getElem?_eq_getElem (show k < lets.cps.toList.length by omega))] at h
 rw [← Option.some.inj h]
 exact List.getElem_mem _
theorem name_ok (b : Int) (v : Nat) : isNm (nameOf b v) = true ∧ (nameOf b v).length ≤ 8 := by
 have s0 : 0 ≤ b % 8 := Int.emod_nonneg _ (by decide)
 have s1 : b % 8 < 8 := Int.emod_lt_of_pos _ (by decide)
 have v0 : 0 ≤ (v : Int) % 8 := Int.emod_nonneg _ (by decide)
 have v1 : (v : Int) % 8 < 8 := Int.emod_lt_of_pos _ (by decide)
 have key : ∀ l : List Nat, (nameOf b v).cps.toList = l → 1 ≤ l.length → l.length ≤ 8 → (∀ c ∈ l, okc c = true) → isNm (nameOf b v) = true ∧ (nameOf b v).length ≤ 8 := fun l e h1 h2 h3 => by
  have hl : (nameOf b v).length = l.length := by rw [← e]; exact (Array.length_toList ..).symm
  refine ⟨?_, by omega⟩
  unfold isNm
  rw [decide_eq_true (by omega), Bool.true_and, e, List.all_eq_true]
  exact h3
 unfold nameOf at key ⊢
 by_cases c : b % 3 = 2
 ·rw [if_pos c] at key ⊢
  refine key _ (mul_list _ (by omega)) ?_ ?_ fun x hx => ?_
  ·rw [List.length_replicate]; omega
  ·rw [List.length_replicate]; omega
  ·rw [List.eq_of_mem_replicate hx]
   exact sgn_ok _
 ·rw [if_neg c] at key ⊢
  refine key _ (nm_list _ _ _ _) ?_ ?_ fun x hx => ?_
  ·rw [List.length_map, List.length_range]; omega
  ·rw [List.length_map, List.length_range]; omega
  ·obtain ⟨j, _, rfl⟩ := List.mem_map.mp hx
   exact sgn_ok _
noncomputable def spRows : Sp := fun vs H Q _ => ∃ b : Int, vs = [.int b] ∧ ∀ R as n H', Same H H' → H R = none → RowsAt H' R as n → Good n → Q (.ref R) H'
noncomputable def spLh : Sp := fun vs H Q _ => ∃ (R ds : Addr) (as : List (Addr × Addr)) (n : Net) (ks : List Str), vs = [.ref R, .ref ds] ∧ RowsAt H R as n ∧ SeatsAt H ds n ks ∧ Good n ∧ ∀ H', Same H H' → Q (.bl (decide (Whl n))) H'
noncomputable def spLf : Sp := fun vs H Q _ => ∃ (R ds : Addr) (as : List (Addr × Addr)) (n : Net) (ks : List Str), vs = [.ref R, .ref ds] ∧ RowsAt H R as n ∧ SeatsAt H ds n ks ∧ Good n ∧ ∀ H', Same H H' → Q (.int ((fac n).length : Int)) H'
section
variable {P : Program} {w : World} {K : PySem.W.Frag} {mg : Str → Option Value} {base : Heap}
noncomputable abbrev NRb : List Str := ["_law_big_here", "_law_points", "_law_ties", "_law_rows", "_law_tie", "_law_r"]
noncomputable abbrev NRb' : List Str := ["_law_big_here", "_law_points", "_law_ties", "_law_rows", "_law_tie", "_law_r", "_law_point"]
theorem scRb : FnScope NRb ["_law_big_here"] (j0c j2a) := ⟨rfl, rfl, rfl, by decide +kernel, rfl, by decide +kernel, by decide +kernel⟩
theorem nd_rb : NRb'.Nodup := by decide +kernel
noncomputable def bare (pts : List Str) : Net := pts.map fun p => (p, [])
theorem bare_ties (pts : List Str) : ties (bare pts) = [] := by
 unfold ties bare
 rw [List.flatMap_map]
 exact List.flatMap_eq_nil_iff.mpr fun _ _ => rfl
theorem bare_names (pts : List Str) : (bare pts).map (·.1) = pts := by
 unfold bare
 rw [List.map_map]
 exact List.map_id _
theorem ok_rowsBy {f : Addr} {fd : FuncData} (F : Fun K "_law_rows_by" "_law_rows_by" j2a f fd) (T : Txt mg) (GN : Has P w K mg base 1 "_law_names" ["_law_stem", "_law_many"] spNames) : FnOk P w K mg base CX0 2 f fd ["_law_big_here"] spRows := by
 refine F.gb scRb (fun vs H Q E h => ?_) (fun b0 H vs Q E hr h => ?_)
 ·obtain ⟨b, rfl, _⟩ := h
  rfl
 obtain ⟨b, rfl, q⟩ := h
 have nd := scRb.nd
 have p0 : 0 ≤ b / 1009 % 5 := Int.emod_nonneg _ (by decide)
 have p1 : b / 1009 % 5 < 5 := Int.emod_lt_of_pos _ (by decide)
 have t0 : 0 ≤ b / 5029865 % 11 := Int.emod_nonneg _ (by decide)
 have t1 : b / 5029865 % 11 < 11 := Int.emod_lt_of_pos _ (by decide)
 let X : Cx := cxB NRb "_law_rows_by" (j0c j2a) P w K mg base b0
 show Run X _ _ [some (.int b), none, none, none, none, none] H
 refine j0k 1 nd (j0v GN hr (j0a (j0t j1i (ev_v 0 (j0h ⟨_, _, rfl, rfl, (by show (0 : Int) < 1009; decide), ?_⟩)))))
 refine j0a (j0t j2b (j0h (j0t j1i (j0t j12 (ev_v 0 (j0h ⟨_, _, rfl, rfl, ⟨by decide, by decide⟩, j0h ⟨_, _, rfl, rfl, (by show (0 : Int) < 5; decide), _, _, rfl, rfl, ?_⟩⟩))))))
 refine j0e ⟨_, _, rfl, by omega, by omega, fun lp H1 s1 n1 e1 => ?_⟩
 refine j0k 2 nd (j0v GN hr (j0a (j0t j1i (j0t j12 (ev_v 0 (j0h ⟨_, _, rfl, rfl, ⟨by decide, by decide⟩, j0h ⟨_, _, rfl, rfl, (by show (0 : Int) < 997; decide), ?_⟩⟩))))))
 refine j0a (j0t j1i (j0t j12 (ev_v 0 (j0h ⟨_, _, rfl, rfl, ⟨by decide, by decide⟩, j0h ⟨_, _, rfl, rfl, (by show (0 : Int) < 11; decide), ?_⟩⟩))))
 refine j0e ⟨_, _, rfl, by omega, by omega, fun lt H2 s2 n2 e2 => ?_⟩
 refine j0k 0 nd (j0t j12 (ev_v 0 (j0h ⟨_, _, rfl, rfl, ⟨by decide, by decide⟩, ?_⟩)))
 show Run _ _ _ [some (.int (b / 55328515)), some (.ref lp), some (.ref lt), none, none, none] H2
 generalize b / 55328515 = b2
 have lpn := j3e (b % 1009) (1 + b / 1009 % 5).toNat
 have ltn := j3e (b / 5045 % 997) (b / 5029865 % 11).toNat
 have ndp : (namesOf (b % 1009) (1 + b / 1009 % 5).toNat).Nodup := namesOf_nodup (by omega)
 have ndt : (namesOf (b / 5045 % 997) (b / 5029865 % 11).toNat).Nodup := namesOf_nodup (by omega)
 have gp : ∀ x ∈ namesOf (b % 1009) (1 + b / 1009 % 5).toNat, isNm x = true ∧ x.length ≤ 8 := fun x hx => by
  obtain ⟨v, _, rfl⟩ := List.mem_map.mp hx
  exact name_ok _ _
 have gt : ∀ x ∈ namesOf (b / 5045 % 997) (b / 5029865 % 11).toNat, isNm x = true ∧ x.length ≤ 8 := fun x hx => by
  obtain ⟨v, _, rfl⟩ := List.mem_map.mp hx
  exact name_ok _ _
 generalize hpt : namesOf (b % 1009) (1 + b / 1009 % 5).toNat = pts at e1 lpn ndp gp
 generalize hts : namesOf (b / 5045 % 997) (b / 5029865 % 11).toNat = ts at e2 ltn ndt gt
 have e1' := s2 _ _ e1
 have s12 := s1.trans s2
 refine run_setC 3 (j0c j2a) NRb NRb' 1 nd (j1u j0y) (ev_v 1 ⟨lp, rfl, ⟨_, SqL.of e1'⟩, fun R hRn => ?_⟩)
 have hR0 := j06 s12 hRn
 refine j15 (xs := pts.map V.str) (fun i σ' H' => (∃ v, σ' = [some (.int b2), some (.ref lp), some (.ref lt), none, none, none] ++ [v]) ∧ Same H2 H' ∧ ∃ bs, Bld H H' R bs (bare (pts.take i))) ⟨⟨none, rfl⟩, j0g hRn _, [], Bld.nil j0b⟩ ?_ ?_ ?_
 ·rintro i σ' H' _ ⟨_, sm, _⟩
  exact SqL.of (sm _ _ e1')
 ·rintro i x σ' H' hx ⟨⟨v, rfl⟩, sm, bs, hB⟩
  rw [List.getElem?_map, Option.map_eq_some_iff] at hx
  obtain ⟨z, hz, rfl⟩ := hx
  have hi := (List.getElem?_eq_some_iff.mp hz).1
  have bl := hB.rows.len
  unfold bare at bl
  rw [List.length_map, List.length_take] at bl
  have et : bare (pts.take (i + 1)) = bare (pts.take i) ++ [(z, [])] := by
   unfold bare
   rw [List.take_add_one, hz, List.map_append]
   rfl
  rw [et]
  intro cl' C' s₀ H₀ ex
  refine j0l 6 nd_rb ?_
  intro cl' C' s₀ H₀ ex
  refine j2f (iteT ?_)
  intro cl' C' s₀ H₀ ex
  refine j1f (j0a (ev_v 6 (j0a (j2p (j0e ⟨(by show 0 ≤ sizeLine; decide), fun l hl => j0e ⟨(by show 2 ≤ sizeLine; decide), fun t ht => ?_⟩⟩)))))
  have s5 := j0g hl (Ls [])
  have hB5 := hB.same s5
  refine ⟨bs.map fun a => V.ref a.1, ?_, ?_, ⟨_, rfl⟩, ?_, bs ++ [(t, l)], ?_⟩
  ·rw [j0d (fun e => by rw [← e] at ht; exact absurd (hB5.rows.lst.symm.trans ht) (by simp))]
   exact hB5.rows.lst
  ·rw [List.length_map]
   exact j00 (by omega)
  ·exact j02 (sm.trans (s5.trans (j0g ht _))) hRn
  ·exact hB5.add (p := z) (zs := []) j0b (j06 (s12.trans sm) hl) (fun k => by
    obtain ⟨a', ha', e'⟩ := List.mem_map.mp k
    have := (hB.in_heap ha').2
    rw [e', hl] at this
    exact this rfl) (fun e => by rw [e, hB.rows.lst] at hl; cases hl) ht (j06 (s12.trans (sm.trans s5)) ht)
 rintro σ' H3 ⟨_, s3, as, hB⟩
 rw [List.length_map, List.take_length] at hB
 have e2' := s3 _ _ e2
 show Run _ _ _ [some (.int b2), some (.ref lp), some (.ref lt), some (.ref R), none, none] H3
 have nR := hB.rows
 have fresh := hB.new
 have ltR : lt ≠ R := fun e => by rw [e] at e2; rw [hRn] at e2; cases e2
 refine j2g (j0t op_cat (ev_v 2 (ev_v 2 (cat_strs e2' e2' (by omega) fun p hp => ⟨p, rfl, ⟨_, SqL.of j0b⟩, ?_⟩))))
 have s4 := j0g hp (Ls (ts ++ ts))
 have hp0 := hp
 have pR : p ≠ R := fun e => by rw [e, nR.lst] at hp; cases hp
 have pA : ∀ a ∈ as, p ≠ a.2 := fun a ha e => (hB.in_heap ha).2 (by rw [← e]; exact hp)
 have sAll : Same H H3 := s12.trans s3
 refine j1x (xs := (ts ++ ts).map V.str) (fun i σ H' => ∃ (n : Net) (b : Int) (u4 u5 : Option V), Same H H' ∧ H' p = some (Ls (ts ++ ts)) ∧ RowsAt H' R as n ∧ n.map (·.1) = pts ∧ (ties n).Perm ((ts ++ ts).take i) ∧ σ = [some (.int b), some (.ref lp), some (.ref lt), some (.ref R), u4, u5])
  ⟨_, b2, _, _, sAll.trans s4, j0b, nR.same s4, bare_names pts, by rw [bare_ties]; exact .refl _, rfl⟩ ?_ ?_ ?_
 ·rintro i σ H' _ ⟨_, _, _, _, _, ep, _⟩
  exact SqL.of ep
 ·rintro i x σ H' hx ⟨n, b, u4, u5, sm, ep, hR, hnm, hpm, rfl⟩
  rw [List.getElem?_map, Option.map_eq_some_iff] at hx
  obtain ⟨z, hz, rfl⟩ := hx
  have hil := (List.getElem?_eq_some_iff.mp hz).1
  rw [List.length_append] at hil
  have hal := hR.len
  have hnl : n.length = pts.length := by rw [← hnm, List.length_map]
  have tl := hpm.length_eq
  rw [List.length_take, List.length_append] at tl
  have hpos : (0 : Int) < (n.length : Int) := by omega
  have z0 : 0 ≤ b % (n.length : Int) := Int.emod_nonneg _ (by omega)
  have z1 : b % (n.length : Int) < (n.length : Int) := Int.emod_lt_of_pos _ hpos
  obtain ⟨r, hr'⟩ : ∃ k : Nat, b % (n.length : Int) = k := ⟨(b % (n.length : Int)).toNat, by omega⟩
  have hrl : r < n.length := by omega
  obtain ⟨a, ea, eat, et, el, er⟩ := hR.at hrl
  have rl := j3c n r
  have ma := List.mem_of_getElem? ea
  refine j0l 4 nd ?_
  refine j0k 5 nd (j0t j1i (ev_v 0 (j0u j0n T.len boot_len (j0a (ev_v 3 (j0e ⟨R, _, rfl, .inl (SqL.of hR.lst), ?_⟩))))))
  rw [List.length_map, hal]
  refine ⟨_, _, rfl, rfl, hpos, ?_⟩
  show Run _ _ _ [some (.int b), some (.ref lp), some (.ref lt), some (.ref R), some (.str z), some (.int (b % (n.length : Int)))] H'
  rw [hr']
  refine j0k 0 nd (j0t j12 (ev_v 0 (j0u j0n T.len boot_len (j0a (ev_v 3 (j0e ⟨R, _, rfl, .inl (SqL.of hR.lst), ?_⟩))))))
  rw [List.length_map, hal]
  refine ⟨_, _, rfl, rfl, ⟨hpos, by omega⟩, ?_⟩
  show Run _ _ _ [some (.int (b / (n.length : Int))), some (.ref lp), some (.ref lt), some (.ref R), some (.str z), some (.int (r : Int))] H'
  generalize b / (n.length : Int) = b3
  show Run _ _ _ [some (.int b3), some (.ref lp), some (.ref lt), some (.ref R), some (.str z), some (.int (r : Int))] H'
  refine j1w (ev_m2 PySem.F.plainAttrs_list PySem.F.slot_list_insert PySem.F.type_list_insert mt_insert (j09 j1h (j09 j1k (ev_v 3 (ev_v 5 ⟨R, _, _, .ref a.1, rfl, rfl, SqL.of hR.lst, eat, j0h ⟨a.1, _, _, .ref a.2, rfl, rfl, SqT.of et, rfl, Or.inl ⟨rfl, _, SqL.of el⟩, ?_⟩⟩)))))
  refine j0t j1i (ev_v 0 (j0t j2b (j0u j0n T.len boot_len (j0a (j09 j1h (j09 j1k (ev_v 3 (ev_v 5 ⟨R, _, _, .ref a.1, rfl, rfl, SqL.of hR.lst, eat, j0h ⟨a.1, _, _, .ref a.2, rfl, rfl, SqT.of et, rfl, j0e ⟨a.2, _, rfl, .inl (SqL.of el), j0h ⟨_, _, rfl, rfl, ?_⟩⟩⟩⟩))))))))
  rw [List.length_map]
  have hq : (0 : Int) < ((row n r).length : Int) + 1 := by omega
  have y0 : 0 ≤ b3 % (((row n r).length : Int) + 1) := Int.emod_nonneg _ (by omega)
  have y1 : b3 % (((row n r).length : Int) + 1) < ((row n r).length : Int) + 1 := Int.emod_lt_of_pos _ hq
  obtain ⟨k, hk⟩ : ∃ k : Nat, b3 % (((row n r).length : Int) + 1) = k := ⟨(b3 % (((row n r).length : Int) + 1)).toNat, by omega⟩
  refine ⟨_, _, rfl, rfl, hq, ?_⟩
  refine ev_v 4 ⟨a.2, _, b3 % (((row n r).length : Int) + 1), _, rfl, rfl, el, by omega, by rw [hk, Int.toNat_natCast, List.length_map]; omega, by rw [List.length_map]; exact j00 (by omega), ?_⟩
  rw [hk, Int.toNat_natCast, ls_ins]
  have R4 := hR.ins (c := (r, k)) (z := z) ea hrl
  have na := (fresh a ma).2
  have s5 : Same H (upd H' a.2 (Ls ((row n r).take k ++ z :: (row n r).drop k))) := j02 sm na
  have ep5 : (upd H' a.2 (Ls ((row n r).take k ++ z :: (row n r).drop k))) p = some (Ls (ts ++ ts)) := by rw [j0d (pA a ma)]; exact ep
  have R4 : RowsAt (upd H' a.2 (Ls ((row n r).take k ++ z :: (row n r).drop k))) R as (ins n (r, k) z) := R4
  generalize upd H' a.2 (Ls ((row n r).take k ++ z :: (row n r).drop k)) = H5 at s5 ep5 R4
  have hrl2 : r < (ins n (r, k) z).length := by rw [ins_len]; exact hrl
  obtain ⟨a2, ea2, eat2, et2, el2, er2⟩ := R4.at hrl2
  have rl2 : 0 < (row (ins n (r, k) z) r).length := by
   rw [er2]
   have := ins_at n (r, k) z r
   rw [List.getElem?_eq_getElem hrl2, List.getElem?_eq_getElem hrl] at this
   have := Option.some.inj this
   rw [this]
   simp
   omega
  have rl3 := j3c (ins n (r, k) z) r
  have tl3 := (ties_ins n (r, k) z hrl).length_eq
  rw [List.length_cons] at tl3
  refine j0k 0 nd (j0t j12 (ev_v 0 (j0u j0n T.len boot_len (j0a (j09 j1h (j09 j1k (ev_v 3 (ev_v 5 ⟨R, _, _, .ref a2.1, rfl, rfl, SqL.of R4.lst, eat2, j0h ⟨a2.1, _, _, .ref a2.2, rfl, rfl, SqT.of et2, rfl, j0e ⟨a2.2, _, rfl, .inl (SqL.of el2), ?_⟩⟩⟩))))))))
  rw [List.length_map]
  refine ⟨_, _, rfl, rfl, ⟨by omega, by omega⟩, j0i ⟨_, _, _, _, s5, ep5, R4, by rw [ins_names]; exact hnm, ?_, rfl⟩⟩
  refine (ties_ins n (r, k) z hrl).trans ?_
  rw [List.take_add_one, hz]
  exact (hpm.cons z).trans (List.perm_append_comm (l₁ := [z]))
 ·rintro σ H' ⟨n, b, u4, u5, sm, ep, hR, hnm, hpm, rfl⟩
  rw [List.length_map, List.take_length] at hpm
  have tl := hpm.length_eq
  rw [List.length_append] at tl
  have hnl : n.length = pts.length := by rw [← hnm, List.length_map]
  refine j0p (ev_v 3 (q R as n H' sm hR0 hR ⟨twice_of ndt (hpm.trans (List.perm_iff_count.mpr fun y => by rw [List.count_append, dbl_count]; omega)), by rw [hnm]; exact ndp, by omega, by omega, by omega, fun x hx => gp x (by rw [← hnm]; exact hx), fun z hz => gt z ?_⟩))
  ·have hz2 := hpm.mem_iff.mp hz
   rcases List.mem_append.mp hz2 with k | k <;> exact k
end
end V5
namespace V5
open PySem L2 Nt Sort2 SetT
open PyProof.Rows (sortedS)
open Classical
theorem last_int (lf : List Nat) (h : Nat) : (((lf ++ [h]).map fun (r : Nat) => V.int (r : Int))[((lf ++ [h]).map fun (r : Nat) => V.int (r : Int)).length - 1]? = some (.int (h : Int))) ∧ ((lf ++ [h]).map fun (r : Nat) => V.int (r : Int)).dropLast = lf.map fun (r : Nat) => V.int (r : Int) := by
 rw [List.map_append]
 constructor
 ·simp
 ·exact List.dropLast_concat
section
variable {P : Program} {w : World} {K : PySem.W.Frag} {mg : Str → Option Value} {base : Heap}
noncomputable abbrev NLh : List Str := ["_law_rows", "_law_seats_here", "_law_seen", "_law_left", "_law_r", "_law_place", "_law_there"]
theorem scLh : FnScope NLh ["_law_rows", "_law_seats_here"] (j0c s_l_hangs) := ⟨rfl, rfl, rfl, by decide +kernel, rfl, by decide +kernel, by decide +kernel⟩
theorem ok_lh {f : Addr} {fd : FuncData} (F : Fun K "_law_hangs" "_law_hangs" s_l_hangs f fd) (T : Txt mg) (GO : Has P w K mg base 2 "_law_other" ["_law_rows", "_law_seats_here", "_law_end"] spOther) :
  FnOk P w K mg base CX0 3 f fd ["_law_rows", "_law_seats_here"] spLh := by
 refine F.gb scLh (fun vs H Q E h => ?_) (fun b0 H1 vs Q E hr h => ?_)
 ·obtain ⟨R, ds, as, n, ks, rfl, _⟩ := h
  rfl
 obtain ⟨R, ds, as, n, ks, rfl, hR, S1, g, q⟩ := h
 have nd := scLh.nd
 have hu := hr.u100
 have hu1 := hr.u1
 have hal := hR.len
 have hT := g.twice
 have hnn := g.names
 have h0 := g.pos
 have hn := g.few
 have hti := g.less
 let X : Cx := cxB NLh "_law_hangs" (j0c s_l_hangs) P w K mg base b0
 show Run X _ _ [some (.ref R), some (.ref ds), none, none, none, none, none] H1
 refine j0k 2 nd (ev_dict1 hu1 fun d hd => j0h (j13 ⟨_, DPut.k (k := Sum.inl 0) j0b (j00 (Nat.zero_le _)), ?_⟩))
 rw [upd_upd]
 refine j0k 3 nd (j2p (j0a (j0h (j0e ⟨(by show 1 ≤ sizeLine; decide), fun M hM => ?_⟩))))
 have nMd : M ≠ d := fun e => by rw [e, j0b] at hM; cases hM
 have hM1 : H1 M = none := by rw [j0d nMd] at hM; exact hM
 have s0 : Same H1 (upd (upd H1 d (.dK (putK [] (Sum.inl 0) (.bl true)))) M (.lst [.int 0])) := (j0g hd _).trans (j0g hM _)
 have ed0 : (upd (upd H1 d (.dK (putK [] (Sum.inl 0) (.bl true)))) M (.lst [.int 0])) d = some (.dK (putK [] (Sum.inl 0) (.bl true))) := by rw [j0d (Ne.symm nMd), j0b]
 have eM0 : (upd (upd H1 d (.dK (putK [] (Sum.inl 0) (.bl true)))) M (.lst [.int 0])) M = some (Lr [0]) := j0b
 show Run _ _ _ [some (.ref R), some (.ref ds), some (.ref d), some (.ref M), none, none, none] (upd (upd H1 d (.dK (putK [] (Sum.inl 0) (.bl true)))) M (.lst [.int 0]))
 generalize upd (upd H1 d (.dK (putK [] (Sum.inl 0) (.bl true)))) M (.lst [.int 0]) = H0 at s0 ed0 eM0
 refine run_while (fun m σ H' => m ≤ 1000 ∧ ∃ (kvs : List (Key × V)) (lf : List Nat) (u5 u6 u7 : Option V), Same H1 H' ∧ H' d = some (.dK kvs) ∧ H' M = some (Lr lf) ∧ JoI n (ties n) none kvs lf ∧ m = 2 * (n.length - kvs.length) + lf.length ∧ σ = [some (.ref R), some (.ref ds), some (.ref d), some (.ref M), u5, u6, u7]) (m0 := 2 * (n.length - 1) + 1) ⟨by omega, _, [0], _, _, _, s0, ed0, eM0, JoI.start h0, rfl, rfl⟩ ?_
 rintro m σ H2 ⟨hm, kvs, lf, u5, u6, u7, s2, ed2, eM2, I, em, rfl⟩
 refine j14 (op_neD hu) (ev_v 3 (j2p (j0e ⟨(by show 0 ≤ sizeLine; decide), fun pe hpe => ?_⟩)))
 have se := j0g hpe (.lst [])
 have s2 := s2.trans se
 have ed2 := se _ _ ed2
 have eM2 := se _ _ eM2
 have epe : (upd H2 pe (.lst [])) pe = some (.lst []) := j0b
 generalize upd H2 pe (.lst []) = H3 at s2 ed2 eM2 epe ⊢
 rcases List.eq_nil_or_concat lf with e | ⟨lf', hh, e⟩
 ·subst e
  refine ⟨1, _, by decide, rnD_list (k := 0) (xs := []) (ys := []) (fun _ => true) (SqL.of eM2) (SqL.of epe) rfl (fun j x y hx _ => by simp at hx), _, rfl, iteF ?_⟩
  refine j0p (ev_cmp op_eq (j0u call_lenD T.len boot_len (j0a (ev_v 2 (j0e ⟨d, kvs, rfl, ed2, j0u j0n T.len boot_len (j0a (ev_v 0 (j0e ⟨R, _, rfl, .inl (SqL.of (s2 _ _ hR.lst)), rfl, ?_⟩)))⟩)))))
  rw [List.length_map, hal]
  have e : decide (V.int (kvs.length : Int) = V.int (n.length : Int)) = decide (Whl n) := by
   rw [decide_eq_decide]
   refine Iff.trans ?_ (I.whole hT h0 hnn)
   constructor
   ·intro h
    have h := V.int.inj h
    omega
   ·intro h
    rw [h]
  rw [e]
  exact q H3 s2
 rw [List.concat_eq_append] at e
 subst e
 have lw : (lf' ++ [hh]).length = lf'.length + 1 := by rw [List.length_append]; rfl
 refine ⟨1, _, by decide, rnD_lens (k := 1) (SqL.of eM2) (SqL.of (xs := []) epe) (by rw [List.length_map, lw]; exact Nat.succ_ne_zero _), _, rfl, iteT ?_⟩
 obtain ⟨hy, hdl⟩ := last_int lf' hh
 refine j0k 4 nd (ev_m0 PySem.F.plainAttrs_list PySem.F.slot_list_pop PySem.F.type_list_pop mt_pop (ev_v 3 (v := .ref M) ⟨Or.inl ⟨rfl, _, SqL.of eM2⟩, M, _, .int (hh : Int), rfl, rfl, eM2, hy, ?_⟩))
 rw [hdl]
 have I1 := I.pop
 rw [lw] at em
 have sA : Same H1 (upd H3 M (Lr lf')) := j02 s2 hM1
 have edA : (upd H3 M (Lr lf')) d = some (.dK kvs) := by rw [j0d (Ne.symm nMd)]; exact ed2
 have eMA : (upd H3 M (Lr lf')) M = some (Lr lf') := j0b
 show Run _ _ _ [some (.ref R), some (.ref ds), some (.ref d), some (.ref M), some (.int (hh : Int)), u6, u7] (upd H3 M (Lr lf'))
 generalize upd H3 M (Lr lf') = HA at sA edA eMA
 have hhl := I1.lt (I1.hrh hh 0 rfl)
 have hRA := hR.same sA
 obtain ⟨a, ea, eat, et, el, er⟩ := hRA.at hhl
 have rle := j3c n hh
 refine j1z T.range (j0u j0n T.len boot_len (j0a (j09 j1h (j09 j1k (ev_v 0 (ev_v 4 ⟨R, _, _, .ref a.1, rfl, rfl, SqL.of hRA.lst, eat, j0h ⟨a.1, _, _, .ref a.2, rfl, rfl, SqT.of et, rfl, j0e ⟨a.2, _, rfl, .inl (SqL.of el), _, rfl, by omega, by rw [List.length_map]; omega, ?_⟩⟩⟩))))))
 rw [List.length_map, Int.toNat_natCast]
 refine j1l (fun i σ H' => ∃ (kvs : List (Key × V)) (lf : List Nat) (u6 u7 : Option V), Same H1 H' ∧ H' d = some (.dK kvs) ∧ H' M = some (Lr lf) ∧ JoI n (ties n) (some (hh, i)) kvs lf ∧ 2 * (n.length - kvs.length) + lf.length < m ∧ σ = [some (.ref R), some (.ref ds), some (.ref d), some (.ref M), some (.int (hh : Int)), u6, u7]) ⟨kvs, lf', _, _, sA, edA, eMA, I1, by omega, rfl⟩ ?_ ?_
 ·rintro i σ HB hi ⟨kvs, lf, u6, u7, sB, ed, eM, I, hlt, rfl⟩
  rw [Int.zero_add]
  have hz : j01 n (hh, i) = some (row n hh)[i] := List.getElem?_eq_getElem hi
  generalize (row n hh)[i] = z at hz
  have he : ((hh, i) : Nt.End) ∈ ends n := mem_ends.mpr ⟨z, hz⟩
  refine j0l 5 nd ?_
  refine j0k 6 nd (j09 j1h (j0v GO hr (j0a (ev_v 0 (j0a (ev_v 1 (j0a (j1f (j0a (ev_v 4 (j0a (ev_v 5 (j0e ⟨(by show 2 ≤ sizeLine; decide), fun t ht => ?_⟩)))))))))))))
  have sT := j0g ht (Tp (hh, i))
  have sC := sB.trans sT
  have hRC := hR.same sC
  refine j0e ⟨R, ds, t, as, n, ks, (hh, i), rfl, hRC, S1.same sC, hT, j0b, he, fun u hu2 => j0h ⟨u, _, _, .int ((other n (hh, i)).1 : Int), rfl, rfl, SqT.of hu2, rfl, ?_⟩⟩
  have ed := sT _ _ ed
  have eM := sT _ _ eM
  show Run _ _ _ [some (.ref R), some (.ref ds), some (.ref d), some (.ref M), some (.int (hh : Int)), some (.int (i : Int)), some (.int ((other n (hh, i)).1 : Int))] (upd HB t (Tp (hh, i)))
  clear hu2
  generalize upd HB t (Tp (hh, i)) = HC at sC hRC ed eM
  refine j1n (et_dnotin hu1 (ev_v 6 (ev_v 2 ⟨d, _, rfl, DGet.k (k := Sum.inl ((other n (hh, i)).1 : Int)) ed, ?_⟩)))
  cases hg : valV kvs (Sum.inl ((other n (hh, i)).1 : Int)) with
  | none =>
   refine iteT ?_
   have I' := I.new hT hz (j2s hz) hg
   have lk := I.len
   have lk' := I'.len
   have hkl : (putK kvs (Sum.inl ((other n (hh, i)).1 : Int)) (.bl true)).length = kvs.length + 1 := by
    have := congrArg List.length (keysP kvs (Sum.inl ((other n (hh, i)).1 : Int)) (.bl true))
    rw [if_neg (val_none hg), List.length_append, List.length_map, List.length_map] at this
    exact this
   refine j2o hu1 (j13 (ev_v 2 (ev_v 6 ⟨d, _, rfl, DPut.k (k := Sum.inl ((other n (hh, i)).1 : Int)) ed (j00 (by omega)), ?_⟩)))
   have eM' : (upd HC d (.dK (putK kvs (Sum.inl ((other n (hh, i)).1 : Int)) (.bl true)))) M = some (Lr lf) := by rw [j0d nMd]; exact eM
   refine j1w (j1y (ev_v 3 ⟨M, rfl, ⟨_, eM'⟩, ev_v 6 ⟨_, eM', by rw [List.length_map]; exact j00 (by omega), ?_⟩⟩))
   refine j0i (j0i ⟨_, lf ++ [(other n (hh, i)).1], _, _, j02 (j02 sC hd) hM1, ?_, ?_, I', ?_, rfl⟩)
   ·rw [j0d (Ne.symm nMd)]
    exact j0b
   ·rw [j0b]
    show some (HO.lst ((lf.map fun (r : Nat) => V.int (r : Int)) ++ [.int ((other n (hh, i)).1 : Int)])) = some (HO.lst ((lf ++ [(other n (hh, i)).1]).map fun (r : Nat) => V.int (r : Int)))
    rw [List.map_append]
    rfl
   ·rw [hkl, List.length_append]
    rw [hkl] at lk'
    show _ + (lf.length + 1) < m
    omega
  | some v =>
   refine iteF (j0i (j0i ⟨kvs, lf, _, _, sC, ed, eM, I.step hz fun _ => ?_, hlt, rfl⟩))
   have e := (I.val _ v hg).1
   rw [e] at hg
   exact hg
 ·rintro σ HB ⟨kvs, lf, u6, u7, sB, ed, eM, I, hlt, rfl⟩
  exact j0i ⟨_, hlt, by omega, kvs, lf, _, _, _, sB, ed, eM, I.close (Nat.le_refl _), rfl, rfl⟩
end
end V5
namespace V5
open PySem L2 Nt Sort2 SetT
open PyProof.Rows (sortedS)
open Classical
noncomputable abbrev kE (e : Nt.End) : List Key := [Sum.inl (e.1 : Int), Sum.inl (e.2 : Int)]
theorem kE_inj {a b : Nt.End} (h : kE a = kE b) : a = b := by
 injection h with h1 h2
 injection h2 with h2 _
 have h1 := Sum.inl.inj h1
 have h2 := Sum.inl.inj h2
 exact Prod.ext (by omega) (by omega)
structure SnI (n : Net) (kvs : List (List Key × V)) (tl : List Nt.End) : Prop where
 nod : (kvs.map (·.1)).Nodup
 ks : ∀ k ∈ kvs.map (·.1), ∃ e ∈ ends n, k = kE e
 mem : ∀ e ∈ ends n, (valV kvs (kE e)).isSome = true ↔ e ∈ tl
theorem SnI.len {n : Net} {kvs : List (List Key × V)} {tl : List Nt.End} (I : SnI n kvs tl) : kvs.length ≤ (ends n).length := by
 have := nodup_le I.nod (b := (ends n).map kE) fun k hk => by
  obtain ⟨e, he, h⟩ := I.ks k hk
  exact List.mem_map.mpr ⟨e, he, h.symm⟩
 rw [List.length_map, List.length_map] at this
 exact this
theorem SnI.put {n : Net} {kvs : List (List Key × V)} {tl : List Nt.End} (I : SnI n kvs tl) {c : Nt.End} (hc : c ∈ ends n) : SnI n (putK kvs (kE c) (.bl true)) (tl ++ [c]) := by
 refine ⟨nodup_putK I.nod, fun k hk => ?_, fun e he => ?_⟩
 ·rcases mem_putK.mp hk with h | h
  ·exact I.ks k h
  ·exact ⟨c, hc, h⟩
 ·rw [j0q, List.mem_append, List.mem_singleton]
  by_cases h : e = c
  ·subst h
   rw [if_pos rfl]
   exact ⟨fun _ => .inr rfl, fun _ => rfl⟩
  ·rw [if_neg (fun k => h (kE_inj k)), I.mem e he]
   exact ⟨.inl, fun k => k.elim id fun k => absurd k h⟩
noncomputable def rem (n : Net) (k : Nat) : List Nt.End := (ends n).drop k
section
variable {P : Program} {w : World} {K : PySem.W.Frag} {mg : Str → Option Value} {base : Heap}
noncomputable abbrev NLf : List Str := ["_law_rows", "_law_seats_here", "_law_seen", "_law_many", "_law_r", "_law_place", "_law_end"]
theorem scLf : FnScope NLf ["_law_rows", "_law_seats_here"] (j0c s_l_faces) := ⟨rfl, rfl, rfl, by decide +kernel, rfl, by decide +kernel, by decide +kernel⟩
theorem ok_lf {f : Addr} {fd : FuncData} (F : Fun K "_law_faces" "_law_faces" s_l_faces f fd) (T : Txt mg) (GF : Has P w K mg base 3 "_law_face" ["_law_rows", "_law_seats_here", "_law_end"] spFace) :
  FnOk P w K mg base CX0 4 f fd ["_law_rows", "_law_seats_here"] spLf := by
 refine F.gb scLf (fun vs H Q E h => ?_) (fun b0 H1 vs Q E hr h => ?_)
 ·obtain ⟨R, ds, as, n, ks, rfl, _⟩ := h
  rfl
 obtain ⟨R, ds, as, n, ks, rfl, hR, S1, g, q⟩ := h
 have nd := scLf.nd
 have hu1 := hr.u1
 have hal := hR.len
 have hT := g.twice
 have hn := g.few
 have hti := g.less
 have hel := ends_len n
 let X : Cx := cxB NLf "_law_faces" (j0c s_l_faces) P w K mg base b0
 show Run X _ _ [some (.ref R), some (.ref ds), none, none, none, none, none] H1
 refine j0k 2 nd (ev_dnewT fun d hd => ?_)
 have s0 := j0g hd (.dT [])
 refine j0k 3 nd (j0h ?_)
 show Run _ _ _ [some (.ref R), some (.ref ds), some (.ref d), some (.int 0), none, none, none] (upd H1 d (.dT []))
 refine j1z T.range (j0u j0n T.len boot_len (j0a (ev_v 0 (j0e ⟨R, _, rfl, .inl (SqL.of (s0 _ _ hR.lst)), _, rfl, by omega, by rw [List.length_map]; omega, ?_⟩))))
 rw [List.length_map, hal, Int.toNat_natCast]
 refine j1l (fun r σ H' => ∃ (kvs : List (List Key × V)) (tl : List Nt.End) (m : Nat) (u4 u5 u6 : Option V), Same H1 H' ∧ H' d = some (.dT kvs) ∧ SnI n kvs tl ∧ (fcs n (ends n) []).length = m + (fcs n (rem n (j0s (n.take r)).length) tl).length ∧ σ = [some (.ref R), some (.ref ds), some (.ref d), some (.int (m : Int)), u4, u5, u6])
  ⟨[], [], 0, _, _, _, s0, j0b, ⟨List.nodup_nil, fun k h => (by simp at h), fun e _ => ⟨fun h => (nomatch h), fun h => (nomatch h)⟩⟩, by show _ = 0 + _; rw [Nat.zero_add]; rfl, rfl⟩ ?_ ?_
 ·rintro r σ H2 hi ⟨kvs, tl, m, u4, u5, u6, s2, ed, I, hm, rfl⟩
  rw [Int.zero_add]
  obtain ⟨a, ea, eat, et, el, er⟩ := (hR.same s2).at hi
  have rle := j3c n r
  refine j0l 4 nd ?_
  refine j1z T.range (j0u j0n T.len boot_len (j0a (j09 j1h (j09 j1k (ev_v 0 (ev_v 4 ⟨R, _, _, .ref a.1, rfl, rfl, SqL.of (s2 _ _ hR.lst), eat, j0h ⟨a.1, _, _, .ref a.2, rfl, rfl, SqT.of et, rfl, j0e ⟨a.2, _, rfl, .inl (SqL.of el), _, rfl, by omega, by rw [List.length_map]; omega, ?_⟩⟩⟩))))))
  rw [List.length_map, Int.toNat_natCast]
  refine j1l (fun p σ H' => ∃ (kvs : List (List Key × V)) (tl : List Nt.End) (m : Nat) (u5 u6 : Option V), Same H1 H' ∧ H' d = some (.dT kvs) ∧ SnI n kvs tl ∧ (fcs n (ends n) []).length = m + (fcs n (rem n ((j0s (n.take r)).length + p)) tl).length ∧ σ = [some (.ref R), some (.ref ds), some (.ref d), some (.int (m : Int)), some (.int (r : Int)), u5, u6]) ⟨kvs, tl, m, _, _, s2, ed, I, hm, rfl⟩ ?_ ?_
  ·rintro p σ H3 hp ⟨kvs, tl, m, u5, u6, s3, ed, I, hm, rfl⟩
   rw [Int.zero_add]
   have hz : (row n r)[p]? = some (row n r)[p] := List.getElem?_eq_getElem hp
   generalize (row n r)[p] = z at hz
   have he : ((r, p) : Nt.End) ∈ ends n := mem_ends.mpr ⟨z, hz⟩
   obtain ⟨rest, hsp⟩ := j19 hi hz
   have hrem : rem n ((j0s (n.take r)).length + p) = (r, p) :: rem n ((j0s (n.take r)).length + (p + 1)) := by
    have lrs : (j0j r ((row n r).take p) 0).length = p := by
     unfold j0j
     rw [List.length_map, List.length_zipIdx, List.length_take]
     omega
    have hl : (j0s (n.take r) ++ j0j r ((row n r).take p) 0).length = (j0s (n.take r)).length + p := by rw [List.length_append, lrs]
    unfold rem ends
    rw [hsp, List.map_append, List.drop_append_of_le_length (by rw [List.length_map, hl]; exact Nat.le_refl _), List.drop_of_length_le (by rw [List.length_map, hl]; exact Nat.le_refl _), ← Nat.add_assoc, List.nil_append, List.drop_append, List.drop_of_length_le (by rw [List.length_map, hl]; omega), List.length_map, hl, List.nil_append]
    rw [show (j0s (n.take r)).length + p + 1 - ((j0s (n.take r)).length + p) = 1 by omega]
    rfl
   refine j0l 5 nd ?_
   refine j1n (et_dnotin hu1 (j1f (j0a (ev_v 4 (j0a (ev_v 5 (j0e ⟨(by show 2 ≤ sizeLine; decide), fun t ht => ?_⟩)))))))
   have sT := j0g ht (Tp (r, p))
   have s4 := s3.trans sT
   have ed4 := sT _ _ ed
   have eT : (upd H3 t (Tp (r, p))) t = some (.tup ((kE (r, p)).map kV)) := j0b
   refine ev_v 2 ⟨d, _, rfl, DGet.t (k := kE (r, p)) ed4 eT, ?_⟩
   have fc : fcs n (rem n ((j0s (n.take r)).length + p)) tl = if (r, p) ∈ tl then fcs n (rem n ((j0s (n.take r)).length + (p + 1))) tl else face n (r, p) :: fcs n (rem n ((j0s (n.take r)).length + (p + 1))) (tl ++ face n (r, p)) := by
    rw [hrem]
    rfl
   rw [fc] at hm
   have im := I.mem (r, p) he
   have sH : ∀ b, (valV kvs (kE (r, p))).isSome = b → b = decide ((r, p) ∈ tl) := fun b hb => by
    rw [← hb, Bool.eq_iff_iff, im, decide_eq_true_iff]
   rw [sH _ rfl]
   generalize upd H3 t (Tp (r, p)) = H4 at s4 ed4
   by_cases c : (r, p) ∈ tl
   ·rw [decide_eq_true c]
    rw [if_pos c] at hm
    exact iteF (j0i (j0i ⟨kvs, tl, m, _, _, s4, ed4, I, hm, rfl⟩))
   rw [decide_eq_false c]
   rw [if_neg c, List.length_cons] at hm
   refine iteT ?_
   refine j1j (ps_aug nd (i := 3) rfl (Or.inl rfl) j0y ip_add) ⟨.int (m : Int), rfl, j0h ⟨_, _, rfl, rfl, ?_⟩⟩
   show Run _ _ _ [some (.ref R), some (.ref ds), some (.ref d), some (.int ((m : Int) + 1)), some (.int (r : Int)), some (.int (p : Int)), u6] H4
   refine j2g (j0v GF hr (j0a (ev_v 0 (j0a (ev_v 1 (j0a (j1f (j0a (ev_v 4 (j0a (ev_v 5 (j0e ⟨(by show 2 ≤ sizeLine; decide), fun t2 ht2 => ?_⟩))))))))))))
   have sT2 := j0g ht2 (Tp (r, p))
   have s5 := s4.trans sT2
   refine j0e ⟨R, ds, t2, as, n, ks, (r, p), rfl, hR.same s5, S1.same s5, hT, j0b, he, by omega, fun l ts fs H5 s6 nl el5 pd isf => ?_⟩
   have ed5 := s6 _ _ (sT2 _ _ ed4)
   have s15 := s5.trans s6
   have fe := isf.eq
   have fin := isf.ends hT he
   have ltf := pd.length
   refine ⟨l, rfl, ⟨_, SqL.of el5⟩, ?_⟩
   have nld : l ≠ d := fun e => by rw [e, ed5] at el5; cases el5
   refine j1x (xs := ts.map V.ref) (fun j σ H' => ∃ (kvs : List (List Key × V)) (u6 : Option V), (∀ b o, b ≠ d → H5 b = some o → H' b = some o) ∧ H' d = some (.dT kvs) ∧ SnI n kvs (tl ++ fs.take j) ∧ σ = [some (.ref R), some (.ref ds), some (.ref d), some (.int ((m : Int) + 1)), some (.int (r : Int)), some (.int (p : Int)), u6]) ⟨kvs, _, fun b o _ h => h, ed5, by rw [List.take_zero, List.append_nil]; exact I, rfl⟩ ?_ ?_ ?_
   ·rintro j σ H' _ ⟨_, _, kb, _⟩
    exact SqL.of (kb _ _ nld el5)
   ·rintro j x σ H' hx ⟨kvs, u6, kb, edj, Ij, rfl⟩
    rw [List.getElem?_map, Option.map_eq_some_iff] at hx
    obtain ⟨tj, htj, rfl⟩ := hx
    have hj := (List.getElem?_eq_some_iff.mp htj).1
    have hfj : fs[j]? = some (fs[j]'(by omega)) := List.getElem?_eq_getElem (by omega)
    obtain ⟨t', ht', et'⟩ := pd.at hfj
    rw [htj] at ht'
    cases ht'
    have hc := fin _ (List.mem_of_getElem? hfj)
    generalize fs[j]'(by omega) = c at hfj et' hc
    have ntd : tj ≠ d := fun e => by rw [e, ed5] at et'; cases et'
    have etj := kb _ _ ntd et'
    have lk := Ij.len
    refine j0l 6 nd ?_
    refine j2o hu1 (j13 (ev_v 2 (ev_v 6 ⟨d, _, rfl, DPut.t (k := kE c) edj etj (j00 (by omega)), j0i ⟨_, _, fun b o hb h => by rw [j0d hb]; exact kb b o hb h, j0b, ?_, rfl⟩⟩)))
    rw [List.take_add_one, hfj, ← List.append_assoc]
    exact Ij.put hc
   ·rintro σ H' ⟨kvs, u6, kb, edj, Ij, rfl⟩
    rw [List.length_map, ltf, List.take_length, fe] at Ij
    refine j0i (j0i ⟨kvs, _, m + 1, _, _, fun b o h => kb b o (fun e => by rw [e, hd] at h; cases h) (s15 _ _ h), edj, Ij, by omega, rfl⟩)
  ·rintro σ H3 ⟨kvs, tl, m, u5, u6, s3, ed, I, hm, rfl⟩
   refine j0i ⟨kvs, tl, m, _, _, _, s3, ed, I, ?_, rfl⟩
   have lrs : (j0j r (row n r) 0).length = (row n r).length := by
    unfold j0j
    rw [List.length_map, List.length_zipIdx]
   rw [j16 hi, List.length_append, lrs]
   exact hm
 ·rintro σ H' ⟨kvs, tl, m, u4, u5, u6, sm, ed, I, hm, rfl⟩
  have hr0 : rem n (j0s (n.take n.length)).length = [] := by
   rw [List.take_length]
   unfold rem ends
   exact List.drop_of_length_le (by rw [List.length_map]; exact Nat.le_refl _)
  rw [hr0] at hm
  have hm : (fcs n (ends n) []).length = m := hm
  refine j0p (j0u (call_max2 rfl) T.max PyProof.Rows.boot_max (j0a (j0h (j0a (ev_v 3 (j0e ⟨_, _, rfl, ?_⟩))))))
  have e : (if (m : Int) > 1 then (m : Int) else 1) = ((fac n).length : Int) := by
   unfold fac
   by_cases hb : ends n = []
   ·rw [if_pos hb]
    rw [hb] at hm
    have : m = 0 := hm.symm
    rw [this]
    rfl
   ·rw [if_neg hb, hm]
    have : 0 < m := by
     rw [← hm]
     cases h : ends n with
     | nil => exact absurd h hb
     | cons e rs =>
      unfold fcs
      rw [if_neg (List.not_mem_nil)]
      exact Nat.succ_pos _
    split <;> omega
  rw [e]
  exact q H' sm
noncomputable def spDue : Sp := fun vs H Q _ => ∃ (R : Addr) (as : List (Addr × Addr)) (n : Net), vs = [.ref R] ∧ RowsAt H R as n ∧ Good n ∧ ∀ t ss H', Same H H' → H t = none → ss.Nodup → (∀ z, z ∈ ss ↔ z ∈ ties n) → H' t = some (.tup [.bl false, .bl (decide (¬ Whl n)), .bl (decide (Whl n ∧ ¬ Flt n ss))]) → Q (.ref t) H'
noncomputable abbrev NDu : List Str := ["_law_rows", "_law_seats_here"]
theorem scDu : FnScope NDu ["_law_rows"] (j0c s_l_due) := ⟨rfl, rfl, rfl, by decide +kernel, rfl, by decide +kernel, by decide +kernel⟩
theorem ok_due {f : Addr} {fd : FuncData} (F : Fun K "_law_due" "_law_due" s_l_due f fd) (T : Txt mg) (GS : Has P w K mg base 4 "_law_seats" ["_law_rows"] spSeats) (GH : Has P w K mg base 4 "_law_hangs" ["_law_rows", "_law_seats_here"] spLh) (GF : Has P w K mg base 4 "_law_faces" ["_law_rows", "_law_seats_here"] spLf) :
  FnOk P w K mg base CX0 5 f fd ["_law_rows"] spDue := by
 refine F.gb scDu (fun vs H Q E h => ?_) (fun b0 H vs Q E hr h => ?_)
 ·obtain ⟨R, as, n, rfl, _⟩ := h
  rfl
 obtain ⟨R, as, n, rfl, hR, g, q⟩ := h
 have nd := scDu.nd
 have hal := hR.len
 have hn := g.few
 have hti := g.less
 let X : Cx := cxB NDu "_law_due" (j0c s_l_due) P w K mg base b0
 show Run X _ _ [some (.ref R), none] H
 refine j0k 1 nd (j0v GS hr (j0a (ev_v 0 (j0e ⟨R, as, n, rfl, hR, by omega, by omega, fun ds ks H1 s1 n1 S => ?_⟩))))
 show Run _ _ _ [some (.ref R), some (.ref ds)] H1
 have hR1 := hR.same s1
 refine j1n (et_not (et_val (j0v GH hr (j0a (ev_v 0 (j0a (ev_v 1 (j0e ⟨R, ds, as, n, ks, rfl, hR1, S, g, fun H2 s2 => ⟨_, rfl, ?_⟩⟩))))))))
 have s12 := s1.trans s2
 have ret : ∀ (x y : Bool) (H' : Hp), Same H H' → x = decide (¬ Whl n) → y = decide (Whl n ∧ ¬ Flt n ks) → ∀ t, H' t = none → Q (.ref t) (upd H' t (.tup [.bl false, .bl x, .bl y])) := fun x y H' s hx hy t ht => by
  subst hx hy
  exact q t ks _ (s.trans (j0g ht _)) (j06 s ht) S.nodup S.mem j0b
 by_cases hw : Whl n
 ·rw [decide_eq_true hw]
  refine iteF (j0i ?_)
  obtain ⟨kvs, k1, k2, _⟩ := S.dict
  have kl : kvs.length = ks.length := by have := congrArg List.length k2; simpa using this
  refine j1n (j14 op_ne (j0t j2b (j0t op_sub (j0u j0n T.len boot_len (j0a (ev_v 0 (j0e ⟨R, _, rfl, .inl (SqL.of (s12 _ _ hR.lst)), ?_⟩)))))))
  refine j0u call_lenD T.len boot_len (j0a (ev_v 1 (j0e ⟨ds, kvs, rfl, s2 _ _ k1, ⟨_, _, rfl, rfl, ?_⟩⟩)))
  refine j0v GF hr (j0a (ev_v 0 (j0a (ev_v 1 (j0e ⟨R, ds, as, n, ks, rfl, hR1.same s2, S.same s2, g, fun H3 s3 => ⟨_, _, rfl, rfl, j0h ⟨rfl, _, rfl, ?_⟩⟩⟩)))))
  have s13 := s12.trans s3
  rw [List.length_map, hal, kl]
  have e : decide (V.int ((n.length : Int) - (ks.length : Int) + ((fac n).length : Int)) = V.int 2) = decide (Flt n ks) := decide_eq_decide.mpr ⟨fun h => V.int.inj h, fun h => congrArg V.int h⟩
  show if (!decide (V.int ((n.length : Int) - (ks.length : Int) + ((fac n).length : Int)) = V.int 2)) = true then _ else _
  rw [e]
  by_cases hf : Flt n ks
  ·rw [decide_eq_true hf]
   refine iteF (j0i (j0p (j1f (j0a (j13 (j0a (j13 (j0a (j13 (j0e ⟨(by show 3 ≤ sizeLine; decide), fun t ht => ret _ _ _ s13 ?_ ?_ t ht⟩))))))))))
   ·exact (decide_eq_false fun k => k hw).symm
   ·exact (decide_eq_false fun k => k.2 hf).symm
  ·rw [decide_eq_false hf]
   refine iteT (j0p (j1f (j0a (j13 (j0a (j13 (j0a (j13 (j0e ⟨(by show 3 ≤ sizeLine; decide), fun t ht => ret _ _ _ s13 ?_ ?_ t ht⟩)))))))))
   ·exact (decide_eq_false fun k => k hw).symm
   ·exact (decide_eq_true ⟨hw, hf⟩).symm
 ·rw [decide_eq_false hw]
  refine iteT (j0p (j1f (j0a (j13 (j0a (j13 (j0a (j13 (j0e ⟨(by show 3 ≤ sizeLine; decide), fun t ht => ret _ _ _ s12 ?_ ?_ t ht⟩)))))))))
  ·exact (decide_eq_true hw).symm
  ·exact (decide_eq_false fun k => hw k.1).symm
end
end V5
namespace V5
open PySem L2 Nt Sort2 SetT
open PyProof.Rows (sortedS)
open Classical
noncomputable def spLaw (K : PySem.W.Frag) : Sp := fun vs H Q _ => ∃ (a : Addr) (ns : List Int), vs = [.ref a] ∧ SqL K H a (ns.map V.int) ∧ ns.length ≤ 63 ∧ ∀ H', Q (.bl true) H'
theorem eqD_bl {X : Cx} {H : Hp} {k : Nat} (x y : Bool) : EqD X H k (.bl x) (.bl y) (x == y) := by
 have h := j27 (X := X) (H := H) (k := k) (x := .bl x) (y := .bl y) rfl rfl
 have e : eqV (.bl x) (.bl y) = (x == y) := by cases x <;> cases y <;> rfl
 rw [e] at h
 exact h
theorem rn3 {X : Cx} {H : Hp} {s t : Addr} {a b c a' b' c' : Bool} (hs : H s = some (.tup [.bl a, .bl b, .bl c])) (ht : H t = some (.tup [.bl a', .bl b', .bl c'])) : RnD X H 1 (.ref s) (.ref t) ((a == a') && ((b == b') && (c == c'))) := by
 have q := rnD_tup (X := X) (k := 0) (fun j => match j with | 0 => a == a' | 1 => b == b' | _ => c == c') (SqT.of (K := X.K) hs) (SqT.of (K := X.K) ht) rfl fun j x y hx hy => by
  match j with
  | 0 => cases hx; cases hy; exact eqD_bl _ _
  | 1 => cases hx; cases hy; exact eqD_bl _ _
  | 2 => cases hx; cases hy; exact eqD_bl _ _
  | j + 3 => simp at hx
 have e : (List.range [V.bl a, V.bl b, V.bl c].length).all (fun j => match j with | 0 => a == a' | 1 => b == b' | _ => c == c') = ((a == a') && ((b == b') && (c == c'))) := by
  show (List.range 3).all _ = _
  rw [show List.range 3 = [0, 1, 2] from rfl]
  simp
 rw [e] at q
 exact q
section
variable {P : Program} {w : World} {K : PySem.W.Frag} {mg : Str → Option Value} {base : Heap}
noncomputable abbrev NW : List Str := ["_law_script", "_law_rows", "_law_handed", "_law_due_here", "_law_told", "_law_kinds", "e"]
theorem scLaw : FnScope NW ["_law_script"] (j0c sLaw) := ⟨rfl, rfl, rfl, by decide +kernel, rfl, by decide +kernel, by decide +kernel⟩
theorem boot_vale : bootBuiltins "ValueError" = some (.type "ValueError") := by decide +kernel
theorem ok_law {f : Addr} {fd : FuncData} {c : Str → Addr} (F : Fun K "law" "law" sLaw f fd) (T : Txt mg) (cl : Cl K mg c)
  (GB : Has P w K mg base 6 "_law_big" ["_law_script", "_law_at"] (spBig K)) (GR : Has P w K mg base 6 "_law_rows_by" ["_law_big_here"] spRows) (GY : Has P w K mg base 6 "_law_copy" ["_law_rows"] spCopy)
  (GD : Has P w K mg base 6 "_law_due" ["_law_rows"] spDue) (GV : HasX P w K mg base 6 "vet" ["rows"] (spVet c)) :
  FnOk P w K mg base CX0 7 f fd ["_law_script"] (spLaw K) := by
 refine F.gb scLaw (fun vs H Q E h => ?_) (fun b0 H vs Q E hr h => ?_)
 ·obtain ⟨a, ns, rfl, _⟩ := h
  rfl
 obtain ⟨a, ns, rfl, hS, h63, q⟩ := h
 have nd := scLaw.nd
 have un := hr.u100
 let X : Cx := cxB NW "law" (j0c sLaw) P w K mg base b0
 show Run X _ _ [some (.ref a), none, none, none, none, none, none] H
 refine j0k 1 nd (j0v GR hr (j0a (j0v GB hr (j0a (ev_v 0 (j0a (j0h (j0e ⟨a, ns, 0, rfl, hS, by decide, fun b H1 s1 => j0e ⟨b, rfl, fun R as n H2 s2 n2 hR g => ?_⟩⟩))))))))
 have hn := g.few
 refine j0k 2 nd (j0v GY hr (j0a (ev_v 1 (j0e ⟨R, as, n, rfl, hR, by omega, fun M cs H3 s3 n3 f3 hM => ?_⟩))))
 have hR3 := hR.same s3
 refine j0k 3 nd (j0v GD hr (j0a (ev_v 1 (j0e ⟨R, as, n, rfl, hR3, g, fun td ss H4 s4 n4 snd mem et => ?_⟩))))
 refine j0k 4 nd (ev_non ?_)
 refine j0k 5 nd (j1f (j0a (j13 (j0a (j13 (j0a (j13 (j0e ⟨(by show 3 ≤ sizeLine; decide), fun tk hk => ?_⟩))))))))
 have s5 := j0g hk (.tup [.bl false, .bl false, .bl false])
 have ek : (upd H4 tk (.tup [.bl false, .bl false, .bl false])) tk = some (.tup [.bl false, .bl false, .bl false]) := j0b
 have et5 := s5 _ _ et
 have hM5 := (hM.same s4).same s5
 have hR5 := (hR3.same s4).same s5
 show Run _ _ _ [some (.ref a), some (.ref R), some (.ref M), some (.ref td), some .non, some (.ref tk), none] (upd H4 tk (.tup [.bl false, .bl false, .bl false]))
 generalize upd H4 tk (.tup [.bl false, .bl false, .bl false]) = H5 at s5 ek et5 hM5 hR5
 have wf : (¬ Whl n) ∨ (Whl n ∧ ¬ Flt n ss) ∨ (Whl n ∧ Flt n ss) := by
  by_cases hw : Whl n
  ·by_cases hf : Flt n ss
   ·exact .inr (.inr ⟨hw, hf⟩)
   ·exact .inr (.inl ⟨hw, hf⟩)
  ·exact .inl hw
 have fin : ∀ (v : V) (ta : Addr) (H' : Hp), Same H5 H' → H' ta = some (.tup [.bl false, .bl (decide (¬ Whl n)), .bl (decide (Whl n ∧ ¬ Flt n ss))]) → ((Whl n ∧ Flt n ss) → v = .bl true) →
   Run (cxB NW "law" (j0c sLaw) P w K mg base b0) ((j1t sLaw).drop 6) (En Q) [some (.ref a), some (.ref R), some (.ref M), some (.ref td), some v, some (.ref ta), none] H' := fun v ta H' s ea hv => by
  have et' := s _ _ et5
  refine j1n (et_bool (ew_or (j14 (op_neD un) (ev_v 5 (ev_v 3 ⟨1, _, by decide, rn3 ea et', _, rfl, ?_⟩)))))
  rw [beq_self_eq_true, beq_self_eq_true, beq_self_eq_true]
  refine iteF (ew_or1 (j14 (op_neD un) (ev_v 2 (ev_v 1 ⟨3, true, by decide, rnD_rows (hM5.same s) (hR5.same s), _, rfl, iteF (j0i ?_)⟩))))
  refine j0p (ev_or (ev_cmp (op_neD un) (ev_v 3 (j1f (j0a (j13 (j0a (j13 (j0a (j13 (j0e ⟨(by show 3 ≤ sizeLine; decide), fun tz hz => ?_⟩)))))))))))
  have s6 := j0g hz (.tup [.bl false, .bl false, .bl false])
  refine ⟨1, _, by decide, rn3 (s6 _ _ et') j0b, _, rfl, ?_⟩
  rcases wf with hw | ⟨hw, hf⟩ | ⟨hw, hf⟩
  ·rw [show decide (¬ Whl n) = true from decide_eq_true hw]
   exact iteT (q _)
  ·rw [show decide (¬ Whl n) = false from decide_eq_false fun k => k hw, show decide (Whl n ∧ ¬ Flt n ss) = true from decide_eq_true ⟨hw, hf⟩]
   exact iteT (q _)
  ·rw [show decide (¬ Whl n) = false from decide_eq_false fun k => k hw, show decide (Whl n ∧ ¬ Flt n ss) = false from decide_eq_false fun k => k.2 hf]
   have hv := hv ⟨hw, hf⟩
   subst hv
   exact iteF (ev_last (ev_cmp op_isB (ev_v 4 (j13 ⟨true, true, rfl, rfl, q _⟩))))
 refine run_try 6 (fun C σ' H' => ∃ x, ((x = ("Broken" : Str) ∧ ¬ Whl n) ∨ (x = ("NoPlane" : Str) ∧ Whl n ∧ ¬ Flt n ss)) ∧ C = .ref (c x) ∧ σ' = [some (.ref a), some (.ref R), some (.ref M), some (.ref td), some .non, some (.ref tk), none] ∧ Same H5 H') cl.net cl.xnet nd (fun p => ?_) ?_
 ·refine j0k 4 nd (ev_hasS GV hr (passT rfl) (j0a (ev_v 2 (j0e ⟨M, cs, n, rfl, hM5, g, fun hw H' s' => ⟨_, .inl ⟨rfl, hw⟩, rfl, rfl, s'⟩, fun ss' snd' mem' => ?_⟩))))
  have fe : Flt n ss' ↔ Flt n ss := by
   have h1 := nodup_le snd' fun z hz => (mem z).mpr ((mem' z).mp hz)
   have h2 := nodup_le snd fun z hz => (mem' z).mpr ((mem z).mp hz)
   unfold Flt
   rw [show ss'.length = ss.length by omega]
  refine ⟨fun hw hf H' s' => ⟨_, .inr ⟨rfl, hw, fun k => hf (fe.mpr k)⟩, rfl, rfl, s'⟩, fun hw hf H' s' => j0i ?_⟩
  refine fin (.bl true) tk H' s' ?_ fun _ => rfl
  rw [s' _ _ ek, decide_eq_false (fun k => k hw), decide_eq_false (fun k => k.2 (fe.mp hf))]
 ·rintro C σ' H' ⟨x, hx, rfl, rfl, s'⟩
  have mx : x ∈ xNames := by rcases hx with ⟨rfl, _⟩ | ⟨rfl, _⟩ <;> decide
  refine ⟨c x, rfl, (cl.at' x mx).2.1, (cl.at' x mx).2.2.1, fun p ea oe ix nea => ?_⟩
  have s1 := j0g nea (XO oe)
  have hE : (upd H' ea (XO oe)) ea = some (XO oe) := j0b
  show Run _ _ _ [some (.ref a), some (.ref R), some (.ref M), some (.ref td), some .non, some (.ref tk), some (.ref ea)] (upd H' ea (XO oe))
  have sE := s'.trans s1
  generalize upd H' ea (XO oe) = H6 at s1 hE sE
  refine j0k 5 nd (j1f (j0a (j0u j2x T.isi PyProof.Rows.boot_isinstance (j0a (ev_v 6 (j0a (ev_glob (cl.at' "NoNet" (by decide)).1 (v := .ref (c "NoNet")) rfl (j0e ⟨ea, c x, oe, .ref (c "NoNet"), .ref (c "NoNet"), _, rfl, fun u r => r, hE, ix, (cl.at' x mx).2.2.2.1, cl.kit x mx "NoNet" (by decide), ?_⟩))))))))
  refine j0a (j0u j2x T.isi PyProof.Rows.boot_isinstance (j0a (ev_v 6 (j0a (ev_glob (cl.at' "Broken" (by decide)).1 (v := .ref (c "Broken")) rfl (j0e ⟨ea, c x, oe, .ref (c "Broken"), .ref (c "Broken"), _, rfl, fun u r => r, hE, ix, (cl.at' x mx).2.2.2.1, cl.kit x mx "Broken" (by decide), ?_⟩))))))
  refine j0a (j0u j2x T.isi PyProof.Rows.boot_isinstance (j0a (ev_v 6 (j0a (ev_glob (cl.at' "NoPlane" (by decide)).1 (v := .ref (c "NoPlane")) rfl (j0e ⟨ea, c x, oe, .ref (c "NoPlane"), .ref (c "NoPlane"), _, rfl, fun u r => r, hE, ix, (cl.at' x mx).2.2.2.1, cl.kit x mx "NoPlane" (by decide), ?_⟩))))))
  refine j0e ⟨(by show 3 ≤ sizeLine; decide), fun t2 ht2 => ?_⟩
  have s2 := j0g ht2 (.tup [.bl (decide (x = "NoNet")), .bl (decide (x = "Broken")), .bl (decide (x = "NoPlane"))])
  have e2 : (upd H6 t2 (.tup [.bl (decide (x = "NoNet")), .bl (decide (x = "Broken")), .bl (decide (x = "NoPlane"))])) t2 = some (.tup [.bl (decide (x = "NoNet")), .bl (decide (x = "Broken")), .bl (decide (x = "NoPlane"))]) := j0b
  have hE2 := s2 _ _ hE
  show Run _ _ _ [some (.ref a), some (.ref R), some (.ref M), some (.ref td), some .non, some (.ref t2), some (.ref ea)] (upd H6 t2 (.tup [.bl (decide (x = "NoNet")), .bl (decide (x = "Broken")), .bl (decide (x = "NoPlane"))]))
  generalize upd H6 t2 (.tup [.bl (decide (x = "NoNet")), .bl (decide (x = "Broken")), .bl (decide (x = "NoPlane"))]) = H7 at s2 e2 hE2
  refine j1n (et_bool (ew_or (et_not (et_val (j0u j2x T.isi PyProof.Rows.boot_isinstance (j0a (ev_v 6 (j0a (ev_bltn (.ty "ValueError") T.vale boot_vale rfl (j0e ⟨ea, c x, oe, .type "ValueError", .ty "ValueError", true, rfl, fun u r => r, hE2, ix, (cl.at' x mx).2.2.2.1, (cl.at' x mx).2.2.2.2, true, rfl, iteF ?_⟩))))))))))
  refine ew_or1 (et_val (j0u j2x T.isi PyProof.Rows.boot_isinstance (j0a (ev_v 6 (j0a (ev_glob (cl.at' "Bridge" (by decide)).1 (v := .ref (c "Bridge")) rfl (j0e ⟨ea, c x, oe, .ref (c "Bridge"), .ref (c "Bridge"), _, rfl, fun u r => r, hE2, ix, (cl.at' x mx).2.2.2.1, cl.kit x mx "Bridge" (by decide), ⟨_, rfl, ?_⟩⟩)))))))
  have nb : decide (x = ("Bridge" : Str)) = false := decide_eq_false (by rcases hx with ⟨rfl, _⟩ | ⟨rfl, _⟩ <;> decide)
  rw [nb]
  refine iteF (j0i (j0i ?_))
  refine fin .non t2 H7 (sE.trans s2) ?_ fun k => ?_
  ·rw [e2]
   rcases hx with ⟨rfl, hw⟩ | ⟨rfl, hw, hf⟩
   ·rw [decide_eq_true hw, decide_eq_false (fun k : Whl n ∧ ¬ Flt n ss => hw k.1)]
    rfl
   ·rw [decide_eq_false (fun k : ¬ Whl n => k hw), decide_eq_true (⟨hw, hf⟩ : Whl n ∧ ¬ Flt n ss)]
    rfl
  ·rcases hx with ⟨rfl, hw⟩ | ⟨rfl, hw, hf⟩
   ·exact absurd k.1 hw
   ·exact absurd k.2 hf
end
end V5
namespace V5
open PySem L2 Nt
theorem all_mk {l : PySem.W.OpenLaw} {w : World} {K : PySem.W.Frag} {h : Heap} {mg : Str → Option Value} {fa : Addr} (X : K.In h) (G : h.Ns mainGlobals mg) (hfa : mg "law" = some (.ref fa))
  (h1 : Df K "ends_round" sEnds) (h2 : Df K "ends_in_order" sOrder) (h3 : Df K "turned_left" sLeft) (h4 : Df K "other_ends" sOthers) (h5 : Df K "left_steps" sLS) (h6 : Df K "faces_of" sFaces) (h7 : Df K "face_from" sFaceF) (h8 : Df K "is_name" j2u) (h9 : Df K "vet" s_vet) (h10 : Df K "has_good_points" j0r) (h11 : Df K "has_good_ties" j05) (h12 : Df K "hangs_together" j1c) (h13 : Df K "is_plane" j29) (h14 : Df K "points_of" j2e) (h15 : Df K "ties_of" j2v) (h16 : Df K "links_of" sLinks) (h17 : Df K "spread" sSpread) (h18 : Df K "_law_cell_at" sCell) (h19 : Df K "_law_big" sBig) (h20 : Df K "_law_names" sNames) (h21 : Df K "_law_seats" sSeats) (h22 : Df K "_law_other" sOther) (h23 : Df K "_law_step" sStep) (h24 : Df K "_law_face" sFace) (h25 : Df K "_law_copy" sCopy) (h26 : Df K "_law_rows_by" j2a) (h27 : Df K "_law_hangs" s_l_hangs) (h28 : Df K "_law_faces" s_l_faces) (h29 : Df K "_law_due" s_l_due) (hl : Df K "law" sLaw)
  {tk1 tk2 : Tok} (s1 : PySem.W.nsIn K mainGlobals "SIGNS" = some (some (.str lets tk1))) (s2 : PySem.W.nsIn K mainGlobals "LONGEST" = some (some (.int 8 tk2)))
  (qc : clB K = true)
  (z : ∀ x ∈ (["isinstance", "tuple", "str", "int", "bool", "list", "dict", "set", "enumerate", "zip", "len", "range", "sorted", "max", "all", "ValueError"] : List Str), PySem.W.nsIn K mainGlobals x = some none) :
  ∃ fd : FuncData, (∀ (s : Shared) (v : Value), BindsTo s fd ⟨[v], []⟩ [("_law_script", v)]) ∧ ∀ base : Heap, K.In base → base.Ns mainGlobals mg → FnOk l.prog w K mg base CX0 7 fa fd ["_law_script"] (spLaw K) := by
 have T : Txt mg := ⟨PySem.W.mg_none_of X G (z _ (by simp)), PySem.W.mg_none_of X G (z _ (by simp)), PySem.W.mg_none_of X G (z _ (by simp)), PySem.W.mg_none_of X G (z _ (by simp)), PySem.W.mg_none_of X G (z _ (by simp)), PySem.W.mg_none_of X G (z _ (by simp)), PySem.W.mg_none_of X G (z _ (by simp)), PySem.W.mg_none_of X G (z _ (by simp)), PySem.W.mg_none_of X G (z _ (by simp)), PySem.W.mg_none_of X G (z _ (by simp)), PySem.W.mg_none_of X G (z _ (by simp)), PySem.W.mg_none_of X G (z _ (by simp)), PySem.W.mg_none_of X G (z _ (by simp)), PySem.W.mg_none_of X G (z _ (by simp)), PySem.W.mg_none_of X G (z _ (by simp)), PySem.W.mg_none_of X G (z _ (by simp)), ⟨_, PySem.W.mg_of X G s1, _, rfl⟩, ⟨_, PySem.W.mg_of X G s2, _, rfl⟩⟩
 have cl := cl_of X G qc
 refine hl.law X G hfa (fun _ _ _ _ _ _ s v => .of_eq rfl) fun base f fd F => ?_
 have G1 : Has l.prog w K mg base 1 "ends_round" ["row"] spEnds := h1.has X G (fun _ _ _ _ _ _ => bd1 fun _ => rfl) fun F => ok_ends F T
 have G2 : Has l.prog w K mg base 2 "ends_in_order" ["rows"] spOrd := h2.has X G (fun _ _ _ _ _ _ => bd1 fun _ => rfl) fun F => ok_order F T (G1.mono (by decide))
 have G3 : Has l.prog w K mg base 1 "turned_left" ["end", "many"] (spTL fun j => j + 1) := h3.has X G (fun _ _ _ _ _ _ => bd2 fun _ _ => rfl) fun F => ok_left F T
 have G4 : Has l.prog w K mg base 2 "other_ends" ["rows"] spOE := h4.has X G (fun _ _ _ _ _ _ => bd1 fun _ => rfl) fun F => ok_OE F T (G1.mono (by decide))
 have G5 : Has l.prog w K mg base 3 "left_steps" ["rows"] (spLS 1) := h5.has X G (fun _ _ _ _ _ _ => bd1 fun _ => rfl) fun F => ok_LS F T (G4.mono (by decide)) (G3.mono (by decide))
 have G7 : Has l.prog w K mg base 1 "face_from" ["steps", "first"] spFF := h7.has X G (fun _ _ _ _ _ _ => bd2 fun _ _ => rfl) fun F => ok_FF F T
 have G6 : Has l.prog w K mg base 4 "faces_of" ["rows"] spFaces := h6.has X G (fun _ _ _ _ _ _ => bd1 fun _ => rfl) fun F => ok_faces F T (G2.mono (by decide)) (G5.mono (by decide)) (G7.mono (by decide))
 have G8 : Has l.prog w K mg base 1 "is_name" ["thing"] (spIs K) := h8.has X G (fun _ _ _ _ _ _ => bd1 fun _ => rfl) fun F => ok_is F T
 have G14 : Has l.prog w K mg base 1 "points_of" ["rows"] spPts := h14.has X G (fun _ _ _ _ _ _ => bd1 fun _ => rfl) fun F => ok_points F T
 have G15 : Has l.prog w K mg base 1 "ties_of" ["rows"] spTs := h15.has X G (fun _ _ _ _ _ _ => bd1 fun _ => rfl) fun F => ok_ties F T
 have G16 : Has l.prog w K mg base 1 "links_of" ["rows"] spLinks := h16.has X G (fun _ _ _ _ _ _ => bd1 fun _ => rfl) fun F => ok_links F T
 have G17 : Has l.prog w K mg base 1 "spread" ["first", "links"] spSpread := h17.has X G (fun _ _ _ _ _ _ => bd2 fun _ _ => rfl) fun F => ok_spread F T
 have G12 : Has l.prog w K mg base 2 "hangs_together" ["rows"] spHt := h12.has X G (fun _ _ _ _ _ _ => bd1 fun _ => rfl) fun F => ok_ht F T (G16.mono (by decide)) (G17.mono (by decide))
 have G10 : Has l.prog w K mg base 2 "has_good_points" ["rows"] spGood := h10.has X G (fun _ _ _ _ _ _ => bd1 fun _ => rfl) fun F => ok_gp F T (G14.mono (by decide)) (G8.mono (by decide))
 have G11 : Has l.prog w K mg base 2 "has_good_ties" ["rows"] spGood := h11.has X G (fun _ _ _ _ _ _ => bd1 fun _ => rfl) fun F => ok_gt F T (G8.mono (by decide))
 have G13 : Has l.prog w K mg base 5 "is_plane" ["rows"] spPlane := h13.has X G (fun _ _ _ _ _ _ => bd1 fun _ => rfl) fun F => ok_plane F T (G15.mono (by decide)) (G6.mono (by decide))
 have G9 : HasX l.prog w K mg base 6 "vet" ["rows"] (spVet (cAd K)) := h9.hasX X G (fun _ _ _ _ _ _ => bd1 fun _ => rfl) fun F => ok_vet F T cl (G10.mono (by decide)) (G11.mono (by decide)) (G12.mono (by decide)) (G13.mono (by decide))
 have G18 : Has l.prog w K mg base 1 "_law_cell_at" ["_law_script", "_law_k"] (spCell K) := h18.has X G (fun _ _ _ _ _ _ => bd2 fun _ _ => rfl) fun F => ok_cell F T
 have G19 : Has l.prog w K mg base 2 "_law_big" ["_law_script", "_law_at"] (spBig K) := h19.has X G (fun _ _ _ _ _ _ => bd2 fun _ _ => rfl) fun F => ok_big F T (G18.mono (by decide))
 have G20 : Has l.prog w K mg base 1 "_law_names" ["_law_stem", "_law_many"] spNames := h20.has X G (fun _ _ _ _ _ _ => bd2 fun _ _ => rfl) fun F => ok_names F T
 have G21 : Has l.prog w K mg base 1 "_law_seats" ["_law_rows"] spSeats := h21.has X G (fun _ _ _ _ _ _ => bd1 fun _ => rfl) fun F => ok_seats F T
 have G22 : Has l.prog w K mg base 1 "_law_other" ["_law_rows", "_law_seats_here", "_law_end"] spOther := h22.has X G (fun _ _ _ _ _ _ => bd3 fun _ _ _ => rfl) fun F => ok_other F T
 have G23 : Has l.prog w K mg base 2 "_law_step" ["_law_rows", "_law_seats_here", "_law_end", "_law_turn"] spStep := h23.has X G (fun _ _ _ _ _ _ => bd4 fun _ _ _ _ => rfl) fun F => ok_step F T (G22.mono (by decide))
 have G24 : Has l.prog w K mg base 3 "_law_face" ["_law_rows", "_law_seats_here", "_law_end"] spFace := h24.has X G (fun _ _ _ _ _ _ => bd3 fun _ _ _ => rfl) fun F => ok_face F T (G23.mono (by decide))
 have G25 : Has l.prog w K mg base 1 "_law_copy" ["_law_rows"] spCopy := h25.has X G (fun _ _ _ _ _ _ => bd1 fun _ => rfl) fun F => ok_copy F T
 have G26 : Has l.prog w K mg base 2 "_law_rows_by" ["_law_big_here"] spRows := h26.has X G (fun _ _ _ _ _ _ => bd1 fun _ => rfl) fun F => ok_rowsBy F T (G20.mono (by decide))
 have G27 : Has l.prog w K mg base 3 "_law_hangs" ["_law_rows", "_law_seats_here"] spLh := h27.has X G (fun _ _ _ _ _ _ => bd2 fun _ _ => rfl) fun F => ok_lh F T (G22.mono (by decide))
 have G28 : Has l.prog w K mg base 4 "_law_faces" ["_law_rows", "_law_seats_here"] spLf := h28.has X G (fun _ _ _ _ _ _ => bd2 fun _ _ => rfl) fun F => ok_lf F T (G24.mono (by decide))
 have G29 : Has l.prog w K mg base 5 "_law_due" ["_law_rows"] spDue := h29.has X G (fun _ _ _ _ _ _ => bd1 fun _ => rfl) fun F => ok_due F T (G21.mono (by decide)) (G27.mono (by decide)) (G28.mono (by decide))
 exact ok_law F T cl (G19.mono (by decide)) (G26.mono (by decide)) (G25.mono (by decide)) (G29.mono (by decide)) (G9.mono (by decide))
theorem walk {l : PySem.W.OpenLaw} {q : Program} {loose : List Str} {XP : (Str → Option Value) → Heap → Prop} {YP : World → Heap → Prop} {d : DefRec} {K : Params → PySem.W.Frag} (hn : l.most = some 63) (hdf : d.params.defaults = [])
  (hY : ∀ (w : World) (h : Heap), YP w h → (K w.params).In h)
  (F : ∀ (w : World) (mg : Str → Option Value) (fa : Addr) (h : Heap), (K w.params).In h → h.Ns mainGlobals mg → mg d.name = some (.ref fa) →
   ∃ fd : FuncData, (∀ (s : Shared) (u : Value), BindsTo s fd ⟨[u], []⟩ [("_law_script", u)]) ∧ ∀ base : Heap, (K w.params).In base → base.Ns mainGlobals mg → FnOk l.prog w (K w.params) mg base CX0 7 fa fd ["_law_script"] (spLaw (K w.params))) :
  PySem.W.WalkO q loose XP YP l.row.toRowW d [] (fun f vs => PySem.call f vs) :=
 L2.walk_of (n := 63) (k := 7) (x := "_law_script") (CX := fun _ => CX0) (sp := fun w => spLaw (K w.params)) hn (by decide) hdf ⟨rfl, by decide, by decide⟩ hY F (fun _ _ a ns hl _ hS => ⟨a, ns, rfl, hS, hl, fun _ => rfl⟩) fun _ _ _ _ _ z => z
end V5
-- taken names: the head leaves its twins of these out, so that the compiled file stays small (NOTE.md)
namespace PySem.W.Fast
def tw1645913573844080373 : Unit := ()
def tw1172985875509729815 : Unit := ()
def tw7806364153211106928 : Unit := ()
def tw3183968122821396245 : Unit := ()
def tw10050847886006898923 : Unit := ()
def tw6588558311267972360 : Unit := ()
def tw16861164977282687104 : Unit := ()
def tw11419601766138914673 : Unit := ()
def tw16141908837357786969 : Unit := ()
def tw5965280368312177974 : Unit := ()
def tw8014150790118597017 : Unit := ()
def tw8753333890590334739 : Unit := ()
def tw17344067433274460784 : Unit := ()
def tw2408162013439613256 : Unit := ()
def tw163880664913373069 : Unit := ()
def tw3393429285213921437 : Unit := ()
def tw4886399218736053390 : Unit := ()
def tw14334255212773914042 : Unit := ()
def tw12569840363442519804 : Unit := ()
def tw9628696129742075456 : Unit := ()
def tw7955885280501648879 : Unit := ()
def tw15602445764939151054 : Unit := ()
end PySem.W.Fast
open PySem PySem.W PyProof.Rows
set_option maxRecDepth 100000 in
set_option maxHeartbeats 0 in
theorem PySem.Challenge.cw_threewebs_k05_rows_that_hang_and_lie_holds : PySem.Challenge.rw_threewebs_k05_rows_that_hang_and_lie.Holds := by
 w_on; o_law; k_head; (case hw => w_witness2)
 k_fill
 refine V5.walk (l := PySem.Challenge.rw_threewebs_k05_rows_that_hang_and_lie) rfl rfl (fun w h Y => PySem.W.kIn_of Y) ?F
 case F =>
  intro w mg fa h KX G hmg
  refine' V5.all_mk KX G hmg ?h1 ?h2 ?h3 ?h4 ?h5 ?h6 ?h7 ?h8 ?h9 ?h10 ?h11 ?h12 ?h13 ?h14 ?h15 ?h16 ?h17 ?h18 ?h19 ?h20 ?h21 ?h22 ?h23 ?h24 ?h25 ?h26 ?h27 ?h28 ?h29 ?h0 ?s1 ?s2 ?qc ?zz
  case h1 => refine' L2.df_mk ?a ?l ?c ?k; (case a => k_is); (case l => k_is); (case c => k_is); (case k => k_is)
  case h2 => refine' L2.df_mk ?a ?l ?c ?k; (case a => k_is); (case l => k_is); (case c => k_is); (case k => k_is)
  case h3 => refine' L2.df_mk ?a ?l ?c ?k; (case a => k_is); (case l => k_is); (case c => k_is); (case k => k_is)
  case h4 => refine' L2.df_mk ?a ?l ?c ?k; (case a => k_is); (case l => k_is); (case c => k_is); (case k => k_is)
  case h5 => refine' L2.df_mk ?a ?l ?c ?k; (case a => k_is); (case l => k_is); (case c => k_is); (case k => k_is)
  case h6 => refine' L2.df_mk ?a ?l ?c ?k; (case a => k_is); (case l => k_is); (case c => k_is); (case k => k_is)
  case h7 => refine' L2.df_mk ?a ?l ?c ?k; (case a => k_is); (case l => k_is); (case c => k_is); (case k => k_is)
  case h8 => refine' L2.df_mk ?a ?l ?c ?k; (case a => k_is); (case l => k_is); (case c => k_is); (case k => k_is)
  case h9 => refine' L2.df_mk ?a ?l ?c ?k; (case a => k_is); (case l => k_is); (case c => k_is); (case k => k_is)
  case h10 => refine' L2.df_mk ?a ?l ?c ?k; (case a => k_is); (case l => k_is); (case c => k_is); (case k => k_is)
  case h11 => refine' L2.df_mk ?a ?l ?c ?k; (case a => k_is); (case l => k_is); (case c => k_is); (case k => k_is)
  case h12 => refine' L2.df_mk ?a ?l ?c ?k; (case a => k_is); (case l => k_is); (case c => k_is); (case k => k_is)
  case h13 => refine' L2.df_mk ?a ?l ?c ?k; (case a => k_is); (case l => k_is); (case c => k_is); (case k => k_is)
  case h14 => refine' L2.df_mk ?a ?l ?c ?k; (case a => k_is); (case l => k_is); (case c => k_is); (case k => k_is)
  case h15 => refine' L2.df_mk ?a ?l ?c ?k; (case a => k_is); (case l => k_is); (case c => k_is); (case k => k_is)
  case h16 => refine' L2.df_mk ?a ?l ?c ?k; (case a => k_is); (case l => k_is); (case c => k_is); (case k => k_is)
  case h17 => refine' L2.df_mk ?a ?l ?c ?k; (case a => k_is); (case l => k_is); (case c => k_is); (case k => k_is)
  case h18 => refine' L2.df_mk ?a ?l ?c ?k; (case a => k_is); (case l => k_is); (case c => k_is); (case k => k_is)
  case h19 => refine' L2.df_mk ?a ?l ?c ?k; (case a => k_is); (case l => k_is); (case c => k_is); (case k => k_is)
  case h20 => refine' L2.df_mk ?a ?l ?c ?k; (case a => k_is); (case l => k_is); (case c => k_is); (case k => k_is)
  case h21 => refine' L2.df_mk ?a ?l ?c ?k; (case a => k_is); (case l => k_is); (case c => k_is); (case k => k_is)
  case h22 => refine' L2.df_mk ?a ?l ?c ?k; (case a => k_is); (case l => k_is); (case c => k_is); (case k => k_is)
  case h23 => refine' L2.df_mk ?a ?l ?c ?k; (case a => k_is); (case l => k_is); (case c => k_is); (case k => k_is)
  case h24 => refine' L2.df_mk ?a ?l ?c ?k; (case a => k_is); (case l => k_is); (case c => k_is); (case k => k_is)
  case h25 => refine' L2.df_mk ?a ?l ?c ?k; (case a => k_is); (case l => k_is); (case c => k_is); (case k => k_is)
  case h26 => refine' L2.df_mk ?a ?l ?c ?k; (case a => k_is); (case l => k_is); (case c => k_is); (case k => k_is)
  case h27 => refine' L2.df_mk ?a ?l ?c ?k; (case a => k_is); (case l => k_is); (case c => k_is); (case k => k_is)
  case h28 => refine' L2.df_mk ?a ?l ?c ?k; (case a => k_is); (case l => k_is); (case c => k_is); (case k => k_is)
  case h29 => refine' L2.df_mk ?a ?l ?c ?k; (case a => k_is); (case l => k_is); (case c => k_is); (case k => k_is)
  case h0 => refine' L2.df_mk ?a ?l ?c ?k; (case a => k_is); (case l => k_is); (case c => k_is); (case k => k_is)
  case s1 => k_is
  case s2 => k_is
  case qc => kernel_rfl
  case zz =>
   refine' List.forall_mem_cons.mpr ⟨?_, ?_⟩; k_is
   refine' List.forall_mem_cons.mpr ⟨?_, ?_⟩; k_is
   refine' List.forall_mem_cons.mpr ⟨?_, ?_⟩; k_is
   refine' List.forall_mem_cons.mpr ⟨?_, ?_⟩; k_is
   refine' List.forall_mem_cons.mpr ⟨?_, ?_⟩; k_is
   refine' List.forall_mem_cons.mpr ⟨?_, ?_⟩; k_is
   refine' List.forall_mem_cons.mpr ⟨?_, ?_⟩; k_is
   refine' List.forall_mem_cons.mpr ⟨?_, ?_⟩; k_is
   refine' List.forall_mem_cons.mpr ⟨?_, ?_⟩; k_is
   refine' List.forall_mem_cons.mpr ⟨?_, ?_⟩; k_is
   refine' List.forall_mem_cons.mpr ⟨?_, ?_⟩; k_is
   refine' List.forall_mem_cons.mpr ⟨?_, ?_⟩; k_is
   refine' List.forall_mem_cons.mpr ⟨?_, ?_⟩; k_is
   refine' List.forall_mem_cons.mpr ⟨?_, ?_⟩; k_is
   refine' List.forall_mem_cons.mpr ⟨?_, ?_⟩; k_is
   refine' List.forall_mem_cons.mpr ⟨?_, ?_⟩; k_is
   exact fun x hx => nomatch hx

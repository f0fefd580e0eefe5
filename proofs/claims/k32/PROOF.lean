import PyProof.Rows.All
import Wide.All
import OpenK.AllK
import Wide.FinOn
import Lean
import PyProof.EqAt
import PyProof.EqKinds
import PyProof.TupleCall
import KE.KDictLaws
import KE.KDictList
import KE.KDictSum
import KE.KSortTup
import KE.KUnpackStar
import PyProof.AttrMissSeq
import PyProof.Conv_int_bool
import PyProof.DictItems
import PyProof.DictIter
import PyProof.DictList
import PyProof.EnumFor
import PyProof.EnumMake
import PyProof.EnumStmt
import PyProof.NeKinds
import PyProof.Rows.CountFlat
import PyProof.Rows.EnumRows
import PyProof.Rows.FStr
import PyProof.Rows.StrSplitJoin
import PyProof.Rows.StrWeight2
import PyProof.Rows.TupDisplay
import PyProof.SetNew
import PyProof.SetRoads
import PyProof.WalkInts
import PyProof.ZipIter
import PySem.Challenge.RW_threewebs_k32_cores
set_option Elab.async false
set_option linter.all false
set_option maxRecDepth 100000
namespace L2
open PySem PySem.Spec PyProof.Rows
noncomputable abbrev Key := Sum Int Str
noncomputable def keyIs : Key → Value → Bool
 | .inl k, v => Value.isInt k v
 | .inr x, v => Value.isStrOf x v
noncomputable def keyH (w : World) : Key → Int
 | .inl k => hashInt k
 | .inr x => hashStr w x
theorem keyIs_shape : ∀ {k : Key} {v : Value}, keyIs k v = true → (∃ i t, k = Sum.inl i ∧ v = Value.int i t) ∨ (∃ x t, k = Sum.inr x ∧ v = Value.str x t)
 | .inl i, v, h => by
  obtain ⟨t, e⟩ := Value.isInt_shape (k := i) (v := v) h
  exact .inl ⟨i, t, rfl, e⟩
 | .inr x, v, h => by
  obtain ⟨t, e⟩ := Value.isStrOf_shape (x := x) (v := v) h
  exact .inr ⟨x, t, rfl, e⟩
theorem keyIs_int (i : Int) (t : Tok) : keyIs (.inl i) (.int i t) = true := by simp [keyIs, Value.isInt]
theorem keyIs_str (x : Str) (t : Tok) : keyIs (.inr x) (.str x t) = true := by simp [keyIs, Value.isStrOf]
theorem key_ll (a b : Int) : decide ((Sum.inl a : Key) = Sum.inl b) = (a == b) := by
 by_cases e : a = b
 ·subst e; simp
 ·have h : ¬ (Sum.inl a : Key) = Sum.inl b := fun q => e (Sum.inl.inj q)
  rw [decide_eq_false h]
  exact (beq_eq_false_iff_ne.mpr e).symm
theorem key_rr (a b : Str) : decide ((Sum.inr a : Key) = Sum.inr b) = decide (a = b) := by
 by_cases e : a = b
 ·subst e; simp
 ·have h : ¬ (Sum.inr a : Key) = Sum.inr b := fun q => e (Sum.inr.inj q)
  rw [decide_eq_false h, decide_eq_false e]
theorem key_lr (a : Int) (b : Str) : decide ((Sum.inl a : Key) = Sum.inr b) = false := decide_eq_false (fun q => nomatch q)
theorem key_rl (a : Str) (b : Int) : decide ((Sum.inr a : Key) = Sum.inl b) = false := decide_eq_false (fun q => nomatch q)
noncomputable def mixKind (prog : Program) (w : World) : PySem.KeyKind prog w Key where
 is := keyIs
 hash := keyH w
 inj := fun v a b ha hb => by
  rcases keyIs_shape ha with ⟨i, t, rfl, rfl⟩ | ⟨x, t, rfl, rfl⟩
  ·rcases keyIs_shape hb with ⟨j, u, rfl, e⟩ | ⟨y, u, rfl, e⟩
   ·injection e with e1 _; rw [e1]
   ·exact nomatch e
  ·rcases keyIs_shape hb with ⟨j, u, rfl, e⟩ | ⟨y, u, rfl, e⟩
   ·exact nomatch e
   ·injection e with e1 _; rw [e1]
 byValue := fun k v h => by
  rcases keyIs_shape h with ⟨i, t, rfl, rfl⟩ | ⟨x, t, rfl, rfl⟩ <;> rfl
 pyHash := fun hv h => by
  rcases keyIs_shape hv with ⟨i, t, rfl, rfl⟩ | ⟨x, t, rfl, rfl⟩
  ·exact wpAny_pyHash_int h
  ·exact wpAny_pyHash_str h
 eqBool := fun hu hv h => by
  rcases keyIs_shape hu with ⟨i, t, rfl, rfl⟩ | ⟨x, t, rfl, rfl⟩
  ·rcases keyIs_shape hv with ⟨j, u, rfl, rfl⟩ | ⟨y, u, rfl, rfl⟩
   ·rw [key_ll] at h; exact wpAny_eqBool_int h
   ·rw [key_lr] at h; exact SeqAt.EqAt.int_str i t y u _ _ _ _ h
  ·rcases keyIs_shape hv with ⟨j, u, rfl, rfl⟩ | ⟨y, u, rfl, rfl⟩
   ·rw [key_rl] at h; exact SeqAt.EqAt.str_int x t j u _ _ _ _ h
   ·rw [key_rr] at h; exact wpAny_eqBool_str h
 «strs» := fun k x t v h => by
  rcases keyIs_shape h with ⟨i, u, rfl, e⟩ | ⟨y, u, rfl, e⟩
  ·exact nomatch e
  ·injection e with e1 _
   subst e1
   cases v <;> rfl
theorem mixKind_int (prog : Program) (w : World) (i : Int) (t : Tok) : (mixKind prog w).is (.inl i) (.int i t) = true := keyIs_int i t
theorem mixKind_str (prog : Program) (w : World) (x : Str) (t : Tok) : (mixKind prog w).is (.inr x) (.str x t) = true := keyIs_str x t
end L2
namespace L2
open PySem PySem.Spec PyProof.Rows
inductive V where
 | non | bl (b : Bool) | int (i : Int) | str (x : Str) | byt (b : Array UInt8) | flt (b : UInt64) | ref (a : Addr) | ty (n : String)
 deriving DecidableEq
noncomputable def RelV : V → Value → Prop
 | .non, u => u = Value.none
 | .bl b, u => u = Value.bool b
 | .int i, u => ∃ t, u = Value.int i t
 | .str x, u => ∃ t, u = Value.str x t
 | .byt b, u => ∃ t, u = Value.bytes b t
 | .flt b, u => ∃ t, u = Value.float b t
 | .ref a, u => u = Value.ref a
 | .ty n, u => u = Value.type n
noncomputable abbrev Vals : List V → List Value → Prop := Paired RelV
theorem Vals.length {xs : List V} {us : List Value} (r : Vals xs us) : xs.length = us.length := Paired.length r
theorem Vals.get : ∀ {xs : List V} {us : List Value} {i : Nat} {x : V}, Vals xs us → xs[i]? = some x → ∃ u, us[i]? = some u ∧ RelV x u
 | _, _, _, _, .nil, e => by simp at e
 | _, _, 0, _, .cons r _, e => by simp at e; subst e; exact ⟨_, rfl, r⟩
 | _, _, i + 1, x, .cons _ t, e => by
  obtain ⟨u, h1, h2⟩ := Vals.get (i := i) (x := x) t (by simpa using e)
  exact ⟨u, by simpa using h1, h2⟩
theorem Vals.set {x : V} {u : Value} (r : RelV x u) : ∀ {xs : List V} {us : List Value} (i : Nat), Vals xs us → Vals (xs.set i x) (us.set i u)
 | _, _, _, .nil => .nil
 | _, _, 0, .cons _ t => .cons r t
 | _, _, i + 1, .cons q t => .cons q (Vals.set r i t)
theorem Vals.append : ∀ {xs ys : List V} {us ws : List Value}, Vals xs us → Vals ys ws → Vals (xs ++ ys) (us ++ ws)
 | _, _, _, _, .nil, s => s
 | _, _, _, _, .cons r t, s => .cons r (Vals.append t s)
theorem Vals.take : ∀ {xs : List V} {us : List Value} (n : Nat), Vals xs us → Vals (xs.take n) (us.take n)
 | _, _, 0, _ => .nil
 | _, _, _ + 1, .nil => .nil
 | _, _, n + 1, .cons r t => .cons r (Vals.take n t)
theorem Vals.drop : ∀ {xs : List V} {us : List Value} (n : Nat), Vals xs us → Vals (xs.drop n) (us.drop n)
 | _, _, 0, r => r
 | _, _, _ + 1, .nil => .nil
 | _, _, n + 1, .cons _ t => Vals.drop n t
noncomputable def RelO : Option V → Option Value → Prop
 | some v, some u => RelV v u
 | none, none => True
 | _, _ => False
noncomputable def KV {κ : Type} : List (κ × V) → List (κ × Value) → Prop := Paired fun (p : κ × V) (q : κ × Value) => p.1 = q.1 ∧ RelV p.2 q.2
noncomputable def kV : Key → V
 | .inl i => .int i
 | .inr x => .str x
inductive HO where
 | lst (xs : List V)
 | tup (xs : List V)
 | dK (kvs : List (Key × V)) | dT (kvs : List (List Key × V))
 | set (S : Int → Bool) (n : Nat)
 | ins (C dx : Addr) (fs : List (Str × V))
 | own (x : Addr)
 | xd (fs : List (Str × V))
 | met (f x : Addr)
 | rng (lo hi : Int)
 | frz (o : Obj) (u : HO)
 | tbl (ps : Array Value)
 | ext (φ : Heap → Prop)
noncomputable abbrev Hp := Addr → Option HO
noncomputable def upd (H : Hp) (a : Addr) (o : HO) : Hp := fun b => if b = a then some o else H b
theorem upd_same {H : Hp} {a : Addr} {o : HO} : upd H a o a = some o := by unfold upd; rw [if_pos rfl]
theorem upd_ne {H : Hp} {a b : Addr} {o : HO} (h : b ≠ a) : upd H a o b = H b := by unfold upd; rw [if_neg h]
theorem upd_upd {H : Hp} {a : Addr} {o u : HO} : upd (upd H a o) a u = upd H a u := by
 funext b; unfold upd; split <;> rfl
theorem ne_of {H : Hp} {a b : Addr} {o u : HO} (h : H a = some o) (h' : H b = some u) (d : o ≠ u) : a ≠ b := by
 intro e; subst e; rw [h] at h'; exact d (Option.some.inj h')
theorem ne_of_none {H : Hp} {a b : Addr} {o : HO} (h : H a = some o) (h' : H b = none) : a ≠ b := by
 intro e; subst e; rw [h] at h'; cases h'
section
variable (P : Program) (w : World)
noncomputable def ObjOk (H : Hp) (h : Heap) (a : Addr) : HO → Prop
 | .lst xs => xs.length ≤ sizeLine ∧ ∃ (its : List Value) (n : Nat), Vals xs its ∧ h.get? a = some { cls := .type "list", data := .seq its.toArray n }
 | .tup xs => xs.length ≤ sizeLine ∧ ∃ its : List Value, Vals xs its ∧ IsTup h a its.toArray
 | .dK kvs => kvs.length ≤ sizeLine ∧ (a == sysModules) = false ∧ ∃ vs, KV kvs vs ∧ h.DictOf (mixKind P w) a vs
 | .dT kvs => kvs.length ≤ sizeLine ∧ (a == sysModules) = false ∧ ∃ xs : List (List Key × Addr × Value),
   Paired (fun (p : List Key × V) (q : List Key × Addr × Value) => p.1 = q.1 ∧ H q.2.1 = some (.tup (p.1.map kV)) ∧ RelV p.2 q.2.2) kvs xs ∧
   ∃ o es ep, h.get? a = some o ∧ o.ExactDict ∧ o.data = .dict es ep ∧ es.toList = xs.map (entryOfKey (tupleKind (mixKind P w))) ∧ (xs.map (·.1)).Nodup
 | .set S n => h.SetOf (intKind P w) a S n
 | .ins C dx fs => H dx = some (.own a) ∧ fs.length ≤ 1000 ∧ dx ≠ a ∧ h.get? a = some (PySem.W.instObj C dx) ∧
   ∃ mA, h.Ns1 dx mA ∧ (∀ f, RelO (fs.lookup f) (mA f)) ∧ PySem.Within mA (fs.map (·.1))
 | .own _ => ∃ o, h.get? a = some o
 | .xd fs => ∃ mA, h.Ns1 a mA ∧ ∀ f, RelO (fs.lookup f) (mA f)
 | .rng lo hi => ∃ t u v, h.get? a = some { cls := .type "range", data := .fields #[.int lo t, .int hi u, .int 1 v] }
 | .frz o u => h.get? a = some o ∧ ObjOk H h a u
 | .tbl ps => h.get? a = some { cls := .none, data := .fields ps }
 | .met f x => h.get? a = some (PySem.W.methodObj (.ref f) (.ref x))
 | .ext φ => φ h ∧ (∃ o, h.get? a = some o) ∧ ∀ h1 h2 : Heap, φ h1 → (∀ o, h1.get? a = some o → h2.get? a = some o) → φ h2
noncomputable def HOk (H : Hp) (h : Heap) : Prop := ∀ a o, H a = some o → ObjOk P w H h a o
end
section
variable {P : Program} {w : World} {H H' : Hp} {h h' : Heap} {a : Addr} {o : HO}
theorem ObjOk.lt (x : ObjOk P w H h a o) : a < h.objs.size := by
 cases o with
 | lst xs => obtain ⟨_, _, _, _, e⟩ := x; exact Heap.lt_size e
 | tup xs => obtain ⟨_, _, _, p⟩ := x; exact p.lt
 | dK kvs => obtain ⟨_, _, _, _, o, _, _, e, _⟩ := x; exact Heap.lt_size e
 | dT kvs => obtain ⟨_, _, _, _, o, _, _, e, _⟩ := x; exact Heap.lt_size e
 | set S n => obtain ⟨o, _, _, _, e, _⟩ := x; exact Heap.lt_size e
 | ins C dx fs => obtain ⟨_, _, _, e, _⟩ := x; exact Heap.lt_size e
 | own y => obtain ⟨_, e⟩ := x; exact Heap.lt_size e
 | xd fs => obtain ⟨_, ⟨_, _, _, e, _⟩, _⟩ := x; exact Heap.lt_size e
 | rng lo hi => obtain ⟨_, _, _, e⟩ := x; exact Heap.lt_size e
 | frz ob u => obtain ⟨e, _⟩ := x; exact Heap.lt_size e
 | tbl ps => exact Heap.lt_size (show h.get? a = some _ from x)
 | met f y => exact Heap.lt_size (show h.get? a = some _ from x)
 | ext φ => obtain ⟨_, ⟨_, e⟩, _⟩ := x; exact Heap.lt_size e
theorem Paired.mapP {α β : Type} {F G : α → β → Prop} : ∀ {l₁ : List α} {l₂ : List β}, Paired F l₁ l₂ → (∀ a b, F a b → G a b) → Paired G l₁ l₂
 | _, _, .nil, _ => .nil
 | _, _, .cons r t, f => .cons (f _ _ r) (Paired.mapP t f)
theorem ObjOk.stay (x : ObjOk P w H h a o) (k : ∀ b u, (b = a ∨ H b = some (.own a)) → h.get? b = some u → h'.get? b = some u)
  (ho : ∀ b, H b = some (.own a) → H' b = some (.own a)) (ht : ∀ b xs, H b = some (.tup xs) → H' b = some (.tup xs)) : ObjOk P w H' h' a o := by
 induction o with
 | lst xs => obtain ⟨z, its, n, r, e⟩ := x; exact ⟨z, its, n, r, k _ _ (.inl rfl) e⟩
 | tup xs => obtain ⟨z, its, r, ob, e, c⟩ := x; exact ⟨z, its, r, ob, k _ _ (.inl rfl) e, c⟩
 | dK kvs => obtain ⟨z, y, vs, r, ob, es, ep, e, c⟩ := x; exact ⟨z, y, vs, r, ob, es, ep, k _ _ (.inl rfl) e, c⟩
 | dT kvs =>
  obtain ⟨z, y, xs, r, ob, es, ep, e, c⟩ := x
  exact ⟨z, y, xs, Paired.mapP r fun p q z => ⟨z.1, ht _ _ z.2.1, z.2.2⟩, ob, es, ep, k _ _ (.inl rfl) e, c⟩
 | set S n => obtain ⟨ob, es, ep, t, e, c⟩ := x; exact ⟨ob, es, ep, t, k _ _ (.inl rfl) e, c⟩
 | ins C dx fs =>
  obtain ⟨d, z, ne, e, mA, ⟨od, es, ep, e2, c⟩, r⟩ := x
  exact ⟨ho _ d, z, ne, k _ _ (.inl rfl) e, mA, ⟨od, es, ep, k _ _ (.inr d) e2, c⟩, r⟩
 | own y => obtain ⟨ob, e⟩ := x; exact ⟨ob, k _ _ (.inl rfl) e⟩
 | xd fs => obtain ⟨mA, ⟨od, es, ep, e, c⟩, r⟩ := x; exact ⟨mA, ⟨od, es, ep, k _ _ (.inl rfl) e, c⟩, r⟩
 | rng lo hi => obtain ⟨t, u, v, e⟩ := x; exact ⟨t, u, v, k _ _ (.inl rfl) e⟩
 | frz ob u ih => obtain ⟨e, q⟩ := x; exact ⟨k _ _ (.inl rfl) e, ih q⟩
 | tbl ps =>
  have e : h.get? a = some { cls := .none, data := .fields ps } := x
  show h'.get? a = some { cls := .none, data := .fields ps }
  exact k a _ (.inl rfl) e
 | met f y =>
  have e : h.get? a = some (PySem.W.methodObj (.ref f) (.ref y)) := x
  show h'.get? a = some (PySem.W.methodObj (.ref f) (.ref y))
  exact k a _ (.inl rfl) e
 | ext φ => obtain ⟨p, ⟨o, e⟩, st⟩ := x; exact ⟨st _ _ p fun o q => k _ _ (.inl rfl) q, ⟨o, k _ _ (.inl rfl) e⟩, st⟩
theorem HOk.lt (x : HOk P w H h) (e : H a = some o) : a < h.objs.size := (x a o e).lt
theorem HOk.fresh (x : HOk P w H h) (e : h.objs.size ≤ a) : H a = none := by
 cases q : H a with
 | none => rfl
 | some u => exact absurd (Nat.lt_of_lt_of_le (x.lt q) e) (Nat.lt_irrefl _)
theorem HOk.kept (x : HOk P w H h) (k : ∀ b u, h.get? b = some u → h'.get? b = some u) : HOk P w H h' := fun a o e =>
 (x a o e).stay (fun b u _ q => k b u q) (fun _ q => q) fun _ _ q => q
theorem HOk.laid (x : HOk P w H h) (k : ∀ b u, h.get? b = some u → h'.get? b = some u) (hp : h.objs.size ≤ a) (new : ObjOk P w (upd H a o) h' a o) : HOk P w (upd H a o) h' := fun b u e => by
 have hn := x.fresh hp
 by_cases hb : b = a
 ·subst hb; rw [upd_same] at e; cases e; exact new
 ·rw [upd_ne hb] at e
  exact (x b u e).stay (fun c v _ q => k c v q) (fun c q => by rw [upd_ne (ne_of_none q hn)]; exact q) fun c xs q => by rw [upd_ne (ne_of_none q hn)]; exact q
end
noncomputable def Rd (H : Hp) (a : Addr) (u : HO) : Prop := H a = some u ∨ ∃ o, H a = some (.frz o u)
theorem Rd.ok {P : Program} {w : World} {H : Hp} {h : Heap} {a : Addr} {u : HO} (r : Rd H a u) (x : HOk P w H h) : ObjOk P w H h a u := by
 rcases r with r | ⟨o, r⟩
 ·exact x a u r
 ·obtain ⟨_, q⟩ := x a _ r
  exact q
noncomputable def Mut : Option HO → Prop
 | some (.lst _) => True
 | some (.dK _) => True
 | some (.dT _) => True
 | some (.set _ _) => True
 | some (.ins _ _ _) => True
 | some (.ext _) => True
 | _ => False
section
variable {P : Program} {w : World} {H : Hp} {h h' : Heap} {x e : Addr} {o' : HO}
theorem HOk.write (ok : HOk P w H h) (mu : Mut (H x)) (he : e = x ∨ H e = some (.own x)) (k : ∀ b u, b ≠ e → h.get? b = some u → h'.get? b = some u) (heo : ∃ u, h'.get? e = some u)
  (new : ObjOk P w (upd H x o') h' x o') : HOk P w (upd H x o') h' := fun b u q => by
 have nown : ∀ c y, H c = some (.own y) → c ≠ x := fun c y r z => by subst z; rw [r] at mu; exact mu
 have ntup : ∀ c xs, H c = some (.tup xs) → c ≠ x := fun c xs r z => by subst z; rw [r] at mu; exact mu
 by_cases hb : b = x
 ·subst hb; rw [upd_same] at q; cases q; exact new
 ·rw [upd_ne hb] at q
  by_cases hbe : b = e
  ·have q' : H b = some (.own x) := by
    rcases he with z | z
    ·exact absurd (hbe.trans z) hb
    ·rw [hbe]; exact z
   rw [q] at q'; cases q'
   obtain ⟨v, hv⟩ := heo
   exact ⟨v, by rw [hbe]; exact hv⟩
  ·refine (ok b u q).stay (fun c v hc r => k c v ?_ r) (fun c r => by rw [upd_ne (nown c b r)]; exact r) fun c xs r => by rw [upd_ne (ntup c xs r)]; exact r
   rcases hc with rfl | hc
   ·exact hbe
   ·rintro rfl
    rcases he with z | z
    ·exact nown c b hc z
    ·rw [hc] at z; cases z; exact hb rfl
end
structure Un (fs ex : List Addr) (H H' : Hp) (h h' : Heap) : Prop where
 keep : ∀ b o, h.get? b = some o → H b = none → b ∉ fs → b ∉ ex → h'.get? b = some o
 slot : ∀ b o, h.get? b = some o → H b = none → b ∈ fs → b ∉ ex → ∃ sl, h'.get? b = some { o with slots := sl }
 free : ∀ b o, h.get? b = some o → H b = none → b ∉ ex → H' b = none
 there : ∀ b o, h.get? b = some o → b ∉ ex → ∃ o', h'.get? b = some o'
 tups : ∀ b xs, H b = some (.tup xs) → H' b = some (.tup xs)
 frzs : ∀ b o u, H b = some (.frz o u) → H' b = some (.frz o u)
 tbls : ∀ b ps, H b = some (.tbl ps) → ∃ more, H' b = some (.tbl (ps ++ more))
section
variable {fs fs' ex ex' : List Addr} {H H1 H2 : Hp} {h h1 h2 h' : Heap} {a x e : Addr} {o : HO}
theorem Un.any (u : Un fs ex H H1 h h1) {b : Addr} {ob : Obj} (q : h.get? b = some ob) (n : H b = none) (hx : b ∉ ex) : ∃ sl, h1.get? b = some { ob with slots := sl } := by
 by_cases hb : b ∈ fs
 ·exact u.slot b ob q n hb hx
 ·exact ⟨ob.slots, u.keep b ob q n hb hx⟩
theorem Un.kept (k : ∀ b u, h.get? b = some u → h'.get? b = some u) : Un fs ex H H h h' :=
 ⟨fun b ob q _ _ _ => k b ob q, fun b ob q _ _ _ => ⟨ob.slots, k b ob q⟩, fun _ _ _ n _ => n, fun b ob q _ => ⟨ob, k b ob q⟩, fun _ _ q => q, fun _ _ _ q => q, fun _ ps q => ⟨#[], by rw [q]; simp⟩⟩
theorem Un.refl : Un fs ex H H h h := Un.kept fun _ _ q => q
theorem Un.laid (k : ∀ b u, h.get? b = some u → h'.get? b = some u) (hp : h.objs.size ≤ a) (hn : H a = none) : Un fs ex H (upd H a o) h h' where
 keep := fun b u q _ _ _ => k b u q
 slot := fun b u q _ _ _ => ⟨u.slots, k b u q⟩
 free := fun b u q n _ => by rw [upd_ne (Nat.ne_of_lt (Nat.lt_of_lt_of_le (Heap.lt_size q) hp))]; exact n
 there := fun b u q _ => ⟨u, k b u q⟩
 tups := fun b xs q => by rw [upd_ne (ne_of_none q hn)]; exact q
 frzs := fun b u xs q => by rw [upd_ne (ne_of_none q hn)]; exact q
 tbls := fun b ps q => ⟨#[], by rw [upd_ne (ne_of_none q hn), q]; simp⟩
theorem Un.write (mu : Mut (H x)) (he : e = x ∨ H e = some (.own x)) (k : ∀ b u, b ≠ e → h.get? b = some u → h'.get? b = some u) (heo : ∃ u, h'.get? e = some u) : Un fs ex H (upd H x o) h h' := by
 have hx : ∀ b, H b = none → b ≠ x := fun b n z => by subst z; rw [n] at mu; exact mu
 have hb : ∀ b, H b = none → b ≠ e := fun b n z => by
  subst z
  rcases he with r | r
  ·exact hx b n r
  ·rw [n] at r; cases r
 have hm : ∀ b u, H b = some u → ¬ Mut (some u) → b ≠ x := fun b u q nm z => by subst z; rw [q] at mu; exact nm mu
 refine ⟨fun b u q n _ _ => k b u (hb b n) q, fun b u q n _ _ => ⟨u.slots, k b u (hb b n) q⟩, fun b u q n _ => by rw [upd_ne (hx b n)]; exact n, fun b u q _ => ?_,
  fun b xs q => by rw [upd_ne (hm b _ q fun z => z)]; exact q, fun b u xs q => by rw [upd_ne (hm b _ q fun z => z)]; exact q, fun b ps q => ⟨#[], by rw [upd_ne (hm b _ q fun z => z), q]; simp⟩⟩
 by_cases hbe : b = e
 ·subst hbe; exact heo
 ·exact ⟨u, k b u hbe q⟩
end
noncomputable def trk (h : Heap) (H : Hp) : List Addr := (List.range h.objs.size).filter fun a => (H a).isSome
noncomputable def hidT (h : Heap) (H : Hp) : Heap := PySem.W.hideAll h (trk h H)
theorem hidT_size (h : Heap) (H : Hp) : (hidT h H).objs.size = h.objs.size := PySem.W.hideAll_size _ _
theorem hidT_get {h : Heap} {H : Hp} {b : Addr} {o : Obj} (e : h.get? b = some o) (n : H b = none) : (hidT h H).get? b = some o :=
 PySem.W.hideAll_get _ e fun hm => by
  have q : (H b).isSome = true := (List.mem_filter.mp hm).2
  rw [n] at q; simp at q
theorem of_hidT {h : Heap} {H : Hp} {b : Addr} {o : Obj} (e : (hidT h H).get? b = some o) : h.get? b = some o ∧ H b = none := by
 have e' : h.get? b = some o := PySem.W.of_hideAll (trk h H) e
 refine ⟨e', ?_⟩
 cases q : H b with
 | none => rfl
 | some x =>
  have hm : b ∈ trk h H := List.mem_filter.mpr ⟨List.mem_range.mpr (Heap.lt_size e'), by simp [q]⟩
  have z : (hidT h H).get? b = none := PySem.W.hideAll_none (trk h H) hm
  rw [z] at e; cases e
end L2
namespace L2
open PySem PySem.Spec PyProof.Rows
structure Mod (K : PySem.W.Frag) (mg : Str → Option Value) (base : Heap) : Prop where
 kin : K.In base
 glob : base.Ns mainGlobals mg
 blt : ∃ mb, base.Ns builtinsNs mb ∧ ∀ x : Str, x ≠ "__name__" → mb x = bootBuiltins x
 nolimit : base.NoLimit
structure Cx where
 prog : Program
 w : World
 K : PySem.W.Frag
 mg : Str → Option Value
 base : Heap
 A : Around
 N : List Str
 s₀ : Shared
 H₀ : Hp
 env : Env
 outer : List Env
 stack : List Env
 ex : List Addr
 fn : Str → Bool
 calm : Bool
 pn : List (Addr × Obj)
 xe : Value → Shared → Prop
noncomputable def frs (l : List Env) : List Addr := l.filterMap (·.frame)
noncomputable abbrev Cx.fs (X : Cx) : List Addr := frs X.outer
noncomputable def Vis (sc : Scope) (x : Str) : Prop := sc.names.lookup x = some .local ∨ sc.names.lookup x = some .cell ∨ sc.names.lookup x = some .free
noncomputable def Loc (sc : Scope) (x : Str) : Prop := sc.names.lookup x = some .local ∨ sc.names.lookup x = some .cell
noncomputable def Look (env : Env) (h : Heap) (m : Str → Option Value) (x : Str) (u : Value) : Prop :=
 (env.kindOf x = some .local ∧ m x = some u) ∨ ((env.kindOf x = some .cell ∨ env.kindOf x = some .free) ∧ ∃ c, env.cells.lookup x = some c ∧ h.IsCell c (some u))
structure Cx.Ok (X : Cx) : Prop where
 mod : Mod X.K X.mg X.base
 kind : X.env.scope.kind = .function
 glob : X.env.globals = mainGlobals
 blt : X.env.builtins = builtinsNs
 above : X.s₀.heap.objs.size ≤ X.env.locals
 inj : ∀ x y c, X.env.cells.lookup x = some c → X.env.cells.lookup y = some c → x = y
 has : ∀ x, (X.env.kindOf x = some .cell ∨ X.env.kindOf x = some .free) → ∃ c, X.env.cells.lookup x = some c
 cab : ∀ x c, X.fn x = true → X.env.cells.lookup x = some c → X.s₀.heap.objs.size ≤ c
 hd : X.calm = true → X.A.handled = none
 frames : X.A.frames = some X.stack
 stk : X.stack = X.outer ∨ (X.stack = X.env :: X.outer ∧ X.env.frame = some X.env.locals)
 exf : ∀ b ∈ X.ex, b ≠ X.env.locals ∧ ∀ x c, X.env.cells.lookup x = some c → c ≠ b
 bs : ∀ b o, X.base.get? b = some o → X.s₀.heap.get? b = some o ∧ X.H₀ b = none
 bsz : X.base.objs.size ≤ X.s₀.heap.objs.size
 noex : ∀ b o, X.base.get? b = some o → b ∉ X.ex
 exfs : ∀ b ∈ X.ex, b ∉ X.fs
 funs : X.s₀.heap.FunFrames X.base X.outer
 frf : ∀ b ∈ X.fs, X.H₀ b = none
structure Inv (X : Cx) (pins : List (Addr × Obj)) (σ : List (Option V)) (H : Hp) (s : Shared) : Prop where
 ok : X.Ok
 os : s.os = X.s₀.os
 bare : AllBare s.gens
 base : Un X.fs X.ex X.H₀ H X.s₀.heap s.heap
 loc : ∃ m, s.heap.Ns X.env.locals m ∧ ∀ (i : Nat) (x : Str) (v : V), X.N[i]? = some x → σ[i]? = some (some v) → Vis X.env.scope x → ∃ u, RelV v u ∧ Look X.env s.heap m x u
 cell : ∀ x c, X.env.cells.lookup x = some c → ∃ v, s.heap.IsCell c v
 free : H X.env.locals = none
 freeC : ∀ x c, X.env.cells.lookup x = some c → H c = none
 pin : ∀ p ∈ X.pn ++ pins, s.heap.get? p.1 = some p.2 ∧ H p.1 = none ∧ p.1 ≠ X.env.locals ∧ p.1 ∉ X.fs ∧ ∀ v, p.2.data ≠ .cell v
 hok : HOk X.prog X.w H s.heap
 len : σ.length = X.N.length
section
variable {X : Cx} {pins : List (Addr × Obj)} {σ : List (Option V)} {H H' : Hp} {s : Shared} {h' : Heap}
theorem Cx.Ok.nofr (ok : X.Ok) {b : Addr} {o : Obj} (e : X.base.get? b = some o) : b ∉ X.fs := fun hb => by
 have := (ok.funs.mem hb).1
 rw [e] at this; cases this
theorem Inv.bs (I : Inv X pins σ H s) : ∀ b o, X.base.get? b = some o → s.heap.get? b = some o ∧ H b = none := fun b o e =>
 ⟨I.base.keep b o (I.ok.bs b o e).1 (I.ok.bs b o e).2 (I.ok.nofr e) (I.ok.noex b o e), I.base.free b o (I.ok.bs b o e).1 (I.ok.bs b o e).2 (I.ok.noex b o e)⟩
theorem Inv.bk (I : Inv X pins σ H s) : ∀ b o, X.base.get? b = some o → s.heap.get? b = some o := fun b o e => (I.bs b o e).1
theorem Inv.mod (I : Inv X pins σ H s) : Mod X.K X.mg X.base := I.ok.mod
theorem Inv.kIn (I : Inv X pins σ H s) : X.K.In s.heap := I.ok.mod.kin.keeps I.bk
theorem Inv.lt (I : Inv X pins σ H s) : X.env.locals < s.heap.objs.size := let ⟨_, hn, _⟩ := I.loc; hn.lt
theorem Inv.sz (I : Inv X pins σ H s) : X.s₀.heap.objs.size ≤ s.heap.objs.size := Nat.le_trans I.ok.above (Nat.le_of_lt I.lt)
theorem Inv.nofs (I : Inv X pins σ H s) {a : Addr} (h : s.heap.objs.size ≤ a) : a ∉ X.fs := fun hb => by
 obtain ⟨_, o, ho, _⟩ := I.ok.funs.mem hb
 exact absurd (Nat.lt_of_lt_of_le (Heap.lt_size ho) (Nat.le_trans I.sz h)) (Nat.lt_irrefl _)
theorem Inv.cne (I : Inv X pins σ H s) : ∀ x c, X.env.cells.lookup x = some c → c ≠ X.env.locals := fun x c e z => by
 obtain ⟨v, o, ho, hd⟩ := I.cell x c e
 obtain ⟨m, ⟨o', es, ep, ho', hd', _⟩, _⟩ := I.loc
 rw [z, ho'] at ho; cases ho; rw [hd'] at hd; cases hd
theorem Inv.funs (I : Inv X pins σ H s) : s.heap.FunFrames X.base X.outer := by
 have all : ∀ (l : List Env), (∀ b ∈ frs l, b ∈ X.fs) → X.s₀.heap.FunFrames X.base l → s.heap.FunFrames X.base l := by
  intro l
  induction l with
  | nil => intro _ _; trivial
  | cons env r ih =>
   intro hs hl
   obtain ⟨hk, ⟨L, o, hf, hn, ho, hd⟩, hr⟩ := hl
   have hL : L ∈ X.fs := hs L (by unfold frs; rw [List.filterMap_cons, hf]; exact List.mem_cons_self)
   obtain ⟨sl, e⟩ := I.base.slot L o ho (I.ok.frf L hL) hL fun z => I.ok.exfs L z hL
   exact ⟨hk, ⟨L, _, hf, hn, e, hd⟩, ih (fun b hb => hs b (by unfold frs; rw [List.filterMap_cons, hf]; exact List.mem_cons_of_mem _ hb)) hr⟩
 exact all X.outer (fun _ hb => hb) I.ok.funs
theorem Inv.stack (I : Inv X pins σ H s) : s.heap.FunFrames X.base X.stack := by
 rcases I.ok.stk with e | ⟨e, hf⟩
 ·rw [e]; exact I.funs
 ·rw [e]
  obtain ⟨m, hn, _⟩ := I.loc
  refine .cons (by rw [I.ok.kind]; decide) hf hn ?_ I.funs
  exact Heap.get?_none_of_le (Nat.le_trans I.ok.bsz I.ok.above)
theorem Inv.stkSub (I : Inv X pins σ H s) : ∀ b ∈ frs X.stack, b ∈ X.env.locals :: X.fs := fun b hb => by
 rcases I.ok.stk with e | ⟨e, hf⟩
 ·rw [e] at hb; exact List.mem_cons_of_mem _ hb
 ·rw [e] at hb
  unfold frs at hb
  rw [List.filterMap_cons, hf] at hb
  exact hb
theorem Inv.stkFree (I : Inv X pins σ H s) : ∀ b ∈ frs X.stack, H b = none := fun b hb => by
 rcases List.mem_cons.mp (I.stkSub b hb) with e | hb
 ·rw [e]; exact I.free
 ·obtain ⟨_, o, ho, _⟩ := I.ok.funs.mem hb
  exact I.base.free b o ho (I.ok.frf b hb) fun z => I.ok.exfs b z hb
theorem Inv.step {g' : Array GenState} {t' : Nat} {d' : Drawn} {ch : List Addr} (I : Inv X pins σ H s)
  (hch : ∀ b ∈ ch, (b ∈ X.ex ∨ X.s₀.heap.objs.size ≤ b) ∧ b ≠ X.env.locals ∧ (∀ x c, X.env.cells.lookup x = some c → c ≠ b) ∧ ∀ p ∈ X.pn ++ pins, p.1 ≠ b)
  (keep : ∀ b o, b ≠ X.env.locals → b ∉ X.fs → b ∉ ch → s.heap.get? b = some o → H b = none → h'.get? b = some o)
  (slot : ∀ b o, b ≠ X.env.locals → b ∈ X.fs → b ∉ ch → s.heap.get? b = some o → H b = none → ∃ sl, h'.get? b = some { o with slots := sl }) (free : ∀ b o, b ∉ ch → s.heap.get? b = some o → H b = none → H' b = none)
  (there : ∀ b o, b ∉ ch → s.heap.get? b = some o → ∃ o', h'.get? b = some o')
  (tups : ∀ b xs, H b = some (.tup xs) → H' b = some (.tup xs)) (frzs : ∀ b o u, H b = some (.frz o u) → H' b = some (.frz o u)) (tbls : ∀ b ps, H b = some (.tbl ps) → ∃ more, H' b = some (.tbl (ps ++ more)))
  (ns : ∀ m, s.heap.Ns X.env.locals m → h'.Ns X.env.locals m) (hok : HOk X.prog X.w H' h') (hg : AllBare g') :
  Inv X pins σ H' { s with heap := h', gens := g', drawn := d', toks := t' } := by
 have neL : ∀ b o, X.s₀.heap.get? b = some o → b ≠ X.env.locals := fun b o e => Nat.ne_of_lt (Nat.lt_of_lt_of_le (Heap.lt_size e) I.ok.above)
 have neC : ∀ b o, X.s₀.heap.get? b = some o → b ∉ X.ex → b ∉ ch := fun b o e hx hb => by
  rcases (hch b hb).1 with z | z
  ·exact hx z
  ·exact absurd (Nat.lt_of_lt_of_le (Heap.lt_size e) z) (Nat.lt_irrefl _)
 have cellK : ∀ x c, X.env.cells.lookup x = some c → ∀ v, s.heap.IsCell c v → h'.IsCell c v := fun x c e v ⟨o, ho, hd⟩ => by
  have nch : c ∉ ch := fun z => (hch c z).2.2.1 x c e rfl
  by_cases hc : c ∈ X.fs
  ·obtain ⟨sl, q⟩ := slot c o (I.cne x c e) hc nch ho (I.freeC x c e)
   exact ⟨_, q, hd⟩
  ·exact ⟨o, keep c o (I.cne x c e) hc nch ho (I.freeC x c e), hd⟩
 refine ⟨I.ok, I.os, hg, ⟨fun b o e n hb hx => ?_, fun b o e n hb hx => ?_, fun b o e n hx => ?_, fun b o e hx => ?_, fun b xs e => tups b xs (I.base.tups b xs e), fun b o xs e => frzs b o xs (I.base.frzs b o xs e), fun b ps e => ?_⟩, ?_, fun x c e => ?_, ?_, fun x c e => ?_, fun p hp => ?_, hok, I.len⟩
 ·exact keep b o (neL b o e) hb (neC b o e hx) (I.base.keep b o e n hb hx) (I.base.free b o e n hx)
 ·obtain ⟨sl, e1⟩ := I.base.slot b o e n hb hx
  obtain ⟨sl', e2⟩ := slot b _ (neL b o e) hb (neC b o e hx) e1 (I.base.free b o e n hx)
  exact ⟨sl', e2⟩
 ·obtain ⟨o', e1⟩ := I.base.there b o e hx
  exact free b o' (neC b o e hx) e1 (I.base.free b o e n hx)
 ·obtain ⟨o', e1⟩ := I.base.there b o e hx
  exact there b o' (neC b o e hx) e1
 ·obtain ⟨m1, e1⟩ := I.base.tbls b ps e
  obtain ⟨m2, e2⟩ := tbls b _ e1
  exact ⟨m1 ++ m2, by rw [e2, Array.append_assoc]⟩
 ·obtain ⟨m, hn, hl⟩ := I.loc
  refine ⟨m, ns m hn, fun i x v e1 e2 e3 => ?_⟩
  obtain ⟨u, r, l⟩ := hl i x v e1 e2 e3
  refine ⟨u, r, ?_⟩
  rcases l with l | ⟨k, c, e, z⟩
  ·exact .inl l
  ·exact .inr ⟨k, c, e, cellK x c e _ z⟩
 ·obtain ⟨v, z⟩ := I.cell x c e
  exact ⟨v, cellK x c e v z⟩
 ·obtain ⟨m, ⟨o, _, _, ho, _⟩, _⟩ := I.loc
  exact free _ o (fun z => (hch _ z).2.1 rfl) ho I.free
 ·obtain ⟨v, o, ho, hd⟩ := I.cell x c e
  exact free c o (fun z => (hch c z).2.2.1 x c e rfl) ho (I.freeC x c e)
 ·obtain ⟨e, n, ne, nf, d⟩ := I.pin p hp
  have nch : p.1 ∉ ch := fun z => (hch p.1 z).2.2.2 p hp rfl
  exact ⟨keep p.1 p.2 ne nf nch e n, free p.1 p.2 nch e n, ne, nf, d⟩
theorem Inv.un {t' : Nat} (I : Inv X pins σ H s) (u : Un X.fs [] H H' s.heap h') (hok : HOk X.prog X.w H' h') : Inv X pins σ H' { s with heap := h', toks := t' } := by
 obtain ⟨m, ⟨o, es, ep, ho, r⟩, _⟩ := id I.loc
 obtain ⟨sl, hL⟩ := u.any ho I.free (by simp)
 exact I.step (g' := s.gens) (d' := s.drawn) (ch := []) (fun _ z => nomatch z) (fun b o _ hb _ e n => u.keep b o e n hb (by simp)) (fun b o _ hb _ e n => u.slot b o e n hb (by simp)) (fun b o _ e n => u.free b o e n (by simp)) (fun b o _ e => u.there b o e (by simp)) u.tups u.frzs u.tbls (fun m' hm => by
  obtain ⟨o', es', ep', ho', r'⟩ := hm
  rw [ho] at ho'; cases ho'
  exact ⟨_, es', ep', hL, r'⟩) hok I.bare
theorem Inv.call {g' : Array GenState} {t' : Nat} {d' : Drawn} {ch : List Addr} (I : Inv X pins σ H s) (u : Un (frs X.stack) ch H H' s.heap h') (hok : HOk X.prog X.w H' h') (hg : AllBare g')
  (hch : ∀ b ∈ ch, (b ∈ X.ex ∨ X.s₀.heap.objs.size ≤ b) ∧ b ≠ X.env.locals ∧ (∀ x c, X.env.cells.lookup x = some c → c ≠ b) ∧ ∀ p ∈ X.pn ++ pins, p.1 ≠ b) :
  Inv X pins σ H' { s with heap := h', gens := g', drawn := d', toks := t' } := by
 obtain ⟨m, ⟨o, es, ep, ho, r⟩, _⟩ := id I.loc
 obtain ⟨sl, hL⟩ := u.any ho I.free fun z => (hch _ z).2.1 rfl
 exact I.step (ch := ch) hch (fun b o hL hb hc e n => u.keep b o e n (fun z => (List.mem_cons.mp (I.stkSub b z)).elim hL hb) hc) (fun b o _ _ hc e n => u.any e n hc) (fun b o hc e n => u.free b o e n hc) (fun b o hc e => u.there b o e hc) u.tups u.frzs u.tbls (fun m' hm => by
  obtain ⟨o', es', ep', ho', r'⟩ := hm
  rw [ho] at ho'; cases ho'
  exact ⟨_, es', ep', hL, r'⟩) hok hg
theorem Inv.turned {t' : Nat} {it : Addr} (I : Inv X pins σ H s) (k : ∀ b o, b ≠ it → s.heap.get? b = some o → h'.get? b = some o) (hn : H it = none) (hL : it ≠ X.env.locals)
  (h1 : it ∈ X.ex ∨ X.s₀.heap.objs.size ≤ it) (h2 : ∀ x c, X.env.cells.lookup x = some c → c ≠ it) (h3 : ∀ p ∈ X.pn ++ pins, p.1 ≠ it) : Inv X pins σ H { s with heap := h', toks := t' } := by
 have nit : ∀ b u, H b = some u → b ≠ it := fun b u e z => by rw [z, hn] at e; cases e
 refine I.step (g' := s.gens) (d' := s.drawn) (ch := [it]) (fun b hb => ?_) (fun b o _ _ hc e _ => k b o (fun z => hc (by simp [z])) e) (fun b o _ _ hc e _ => ⟨o.slots, k b o (fun z => hc (by simp [z])) e⟩) (fun _ _ _ _ n => n)
  (fun b o hc e => ⟨o, k b o (fun z => hc (by simp [z])) e⟩) (fun _ _ e => e) (fun _ _ _ e => e) (fun b ps e => ⟨#[], by rw [e]; simp⟩) (fun m hm => ?_) (fun b u e => ?_) I.bare
 ·have e : b = it := by simpa using hb
  subst e
  exact ⟨h1, hL, h2, h3⟩
 ·obtain ⟨o, es, ep, ho, r⟩ := hm
  exact ⟨o, es, ep, k _ o (Ne.symm hL) ho, r⟩
 ·refine (I.hok b u e).stay (fun c v hc q => k c v ?_ q) (fun _ q => q) fun _ _ q => q
  rcases hc with z | z
  ·rw [z]; exact nit b u e
  ·exact nit c _ z
theorem Inv.tok (I : Inv X pins σ H s) (t : Nat) : Inv X pins σ H { s with toks := t } := I.un (h' := s.heap) (t' := t) Un.refl I.hok
theorem Inv.kept {t' : Nat} (I : Inv X pins σ H s) (k : ∀ b u, s.heap.get? b = some u → h'.get? b = some u) : Inv X pins σ H { s with heap := h', toks := t' } := I.un (Un.kept k) (I.hok.kept k)
theorem Inv.laid {a : Addr} {o : HO} {t' : Nat} (I : Inv X pins σ H s) (k : ∀ b u, s.heap.get? b = some u → h'.get? b = some u) (hp : s.heap.objs.size ≤ a) (new : ObjOk X.prog X.w (upd H a o) h' a o) :
  Inv X pins σ (upd H a o) { s with heap := h', toks := t' } := I.un (Un.laid k hp (I.hok.fresh hp)) (I.hok.laid k hp new)
theorem Inv.write {x e : Addr} {o : HO} {t' : Nat} (I : Inv X pins σ H s) (mu : Mut (H x)) (he : e = x ∨ H e = some (.own x)) (k : ∀ b u, b ≠ e → s.heap.get? b = some u → h'.get? b = some u) (heo : ∃ u, h'.get? e = some u)
  (new : ObjOk X.prog X.w (upd H x o) h' x o) : Inv X pins σ (upd H x o) { s with heap := h', toks := t' } := I.un (Un.write mu he k heo) (I.hok.write mu he k heo new)
theorem Inv.pins_of {pins' : List (Addr × Obj)} (I : Inv X pins σ H s) (h : ∀ p ∈ pins', s.heap.get? p.1 = some p.2 ∧ H p.1 = none ∧ p.1 ≠ X.env.locals ∧ p.1 ∉ X.fs ∧ ∀ v, p.2.data ≠ .cell v) : Inv X pins' σ H s :=
 ⟨I.ok, I.os, I.bare, I.base, I.loc, I.cell, I.free, I.freeC, fun p hp => (List.mem_append.mp hp).elim (fun z => I.pin p (List.mem_append_left _ z)) (h p), I.hok, I.len⟩
theorem nodup_ix {N : List Str} (hN : N.Nodup) {i j : Nat} {x : Str} (a : N[i]? = some x) (b : N[j]? = some x) : i = j := by
 obtain ⟨h1, e1⟩ := List.getElem?_eq_some_iff.mp a
 obtain ⟨h2, e2⟩ := List.getElem?_eq_some_iff.mp b
 exact (List.getElem_inj hN).mp (e1.trans e2.symm)
theorem store_ok2 {M : Model} {A : Around} {E : Value → Shared → Prop} {i : Nat} {x : Str} {v : V} {u : Value} {Q : Unit → Shared → Prop} (I : Inv X pins σ H s) (hN : X.N.Nodup) (hi : X.N[i]? = some x) (hx : Loc X.env.scope x) (r : RelV v u)
  (h : ∀ s', Inv X pins (σ.set i (some v)) H s' → (∃ a, Heap.SameBut a s.heap s'.heap ∧ (a = X.env.locals ∨ X.env.cells.lookup x = some a)) → Q () s') (hf : X.fn x = true ∨ X.env.scope.names.lookup x = some .local := by first | exact .inl rfl | exact .inr rfl | assumption) : wpAny M A (storeName X.env x u) Q E s := by
 obtain ⟨m, hn, hl⟩ := id I.loc
 have hcls : (X.env.scope.kind == .class || (X.env.scope.kind == .module && X.env.locals != X.env.globals)) = false := by rw [I.ok.kind]; rfl
 have hiσ : i < σ.length := by rw [I.len]; exact (List.getElem?_eq_some_iff.mp hi).1
 have cne := I.cne
 have tracked : ∀ {a : Addr} {h' : Heap}, (∃ o, s.heap.get? a = some o ∧ H a = none) → Heap.SameBut a s.heap h' → HOk X.prog X.w H h' := fun {a h'} ha hs b ob e => by
  obtain ⟨_, _, hfree⟩ := ha
  refine (I.hok b ob e).stay (fun c w' hc q => (hs.2 c ?_).trans q) (fun _ q => q) fun _ _ q => q
  rintro rfl
  rcases hc with rfl | hc
  ·rw [hfree] at e; cases e
  ·rw [hfree] at hc; cases hc
 rcases hx with hk | hk
 ·refine wpAny_storeName_local hk hn (fun h' hn' hs => ?_) hcls
  obtain ⟨oL, _, _, hoL, _⟩ := id hn
  refine h _ ⟨I.ok, I.os, I.bare, ⟨fun b o e n hb hx => ?_, fun b o e n hb hx => ?_, I.base.free, fun b o e hx => ?_, I.base.tups, I.base.frzs, I.base.tbls⟩, ⟨_, hn', fun j y v' e1 e2 e3 => ?_⟩, fun y c e => ?_, I.free, I.freeC, fun p hp => ?_, tracked ⟨oL, hoL, I.free⟩ hs, by simpa using I.len⟩ ⟨_, hs, .inl rfl⟩
  ·exact (hs.2 b (Nat.ne_of_lt (Nat.lt_of_lt_of_le (Heap.lt_size e) I.ok.above))).trans (I.base.keep b o e n hb hx)
  ·obtain ⟨sl, e1⟩ := I.base.slot b o e n hb hx
   exact ⟨sl, (hs.2 b (Nat.ne_of_lt (Nat.lt_of_lt_of_le (Heap.lt_size e) I.ok.above))).trans e1⟩
  ·obtain ⟨o', e1⟩ := I.base.there b o e hx
   exact ⟨o', (hs.2 b (Nat.ne_of_lt (Nat.lt_of_lt_of_le (Heap.lt_size e) I.ok.above))).trans e1⟩
  ·by_cases hj : j = i
   ·subst hj
    rw [hi] at e1; cases e1
    rw [List.getElem?_set_self hiσ] at e2
    cases e2
    exact ⟨u, r, .inl ⟨hk, by simp⟩⟩
   ·rw [List.getElem?_set_ne (Ne.symm hj)] at e2
    obtain ⟨u', r', q⟩ := hl j y v' e1 e2 e3
    refine ⟨u', r', ?_⟩
    rcases q with ⟨k, e⟩ | ⟨k, c, e, z⟩
    ·refine .inl ⟨k, ?_⟩
     have : y ≠ x := fun e => hj (nodup_ix hN e1 (e ▸ hi))
     simp [this, e]
    ·exact .inr ⟨k, c, e, z.sameBut hs (cne y c e)⟩
  ·obtain ⟨w', z⟩ := I.cell y c e
   exact ⟨w', z.sameBut hs (cne y c e)⟩
  ·obtain ⟨e, n, ne, nf, d⟩ := I.pin p hp
   exact ⟨(hs.2 p.1 ne).trans e, n, ne, nf, d⟩
 ·have hfn : X.fn x = true := by
   rcases hf with z | z
   ·exact z
   ·rw [z] at hk; cases hk
  obtain ⟨c, hc⟩ := I.ok.has x (.inl hk)
  obtain ⟨w', z⟩ := I.cell x c hc
  refine wpAny_storeName_cell I.ok.kind hk hc z (fun h' hc' hs => ?_)
  obtain ⟨oc, hoc, hocd⟩ := id z
  refine h { s with heap := h' } ⟨I.ok, I.os, I.bare, ⟨fun b o e n hb hx => ?_, fun b o e n hb hx => ?_, I.base.free, fun b o e hx => ?_, I.base.tups, I.base.frzs, I.base.tbls⟩, ⟨m, hn.sameBut hs (Ne.symm (cne x c hc)), fun j y v' e1 e2 e3 => ?_⟩, fun y c' e => ?_, I.free, I.freeC, fun p hp => ?_, tracked ⟨oc, hoc, I.freeC x c hc⟩ hs, by simpa using I.len⟩ ⟨c, hs, .inr hc⟩
  ·exact (hs.2 b (Nat.ne_of_lt (Nat.lt_of_lt_of_le (Heap.lt_size e) (I.ok.cab x c hfn hc)))).trans (I.base.keep b o e n hb hx)
  ·obtain ⟨sl, e1⟩ := I.base.slot b o e n hb hx
   exact ⟨sl, (hs.2 b (Nat.ne_of_lt (Nat.lt_of_lt_of_le (Heap.lt_size e) (I.ok.cab x c hfn hc)))).trans e1⟩
  ·obtain ⟨o', e1⟩ := I.base.there b o e hx
   exact ⟨o', (hs.2 b (Nat.ne_of_lt (Nat.lt_of_lt_of_le (Heap.lt_size e) (I.ok.cab x c hfn hc)))).trans e1⟩
  ·by_cases hj : j = i
   ·subst hj
    rw [hi] at e1; cases e1
    rw [List.getElem?_set_self hiσ] at e2
    cases e2
    exact ⟨u, r, .inr ⟨.inl hk, c, hc, hc'⟩⟩
   ·rw [List.getElem?_set_ne (Ne.symm hj)] at e2
    obtain ⟨u', r', q⟩ := hl j y v' e1 e2 e3
    refine ⟨u', r', ?_⟩
    rcases q with q | ⟨k, c', e, z'⟩
    ·exact .inl q
    ·refine .inr ⟨k, c', e, z'.sameBut hs ?_⟩
     rintro rfl
     exact hj (nodup_ix hN e1 (I.ok.inj _ _ _ e hc ▸ hi))
  ·by_cases hcc : c' = c
   ·subst hcc; exact ⟨_, hc'⟩
   ·obtain ⟨w2, z2⟩ := I.cell y c' e
    exact ⟨w2, z2.sameBut hs hcc⟩
  ·obtain ⟨e, n, ne, nf, d⟩ := I.pin p hp
   refine ⟨(hs.2 p.1 ?_).trans e, n, ne, nf, d⟩
   intro q
   rw [q, hoc] at e
   have q' : oc = p.2 := Option.some.inj e
   exact d w' (by rw [← q']; exact hocd)
theorem store_ok {M : Model} {A : Around} {E : Value → Shared → Prop} {i : Nat} {x : Str} {v : V} {u : Value} {Q : Unit → Shared → Prop} (I : Inv X pins σ H s) (hN : X.N.Nodup) (hi : X.N[i]? = some x) (hx : Loc X.env.scope x) (r : RelV v u)
  (h : ∀ s', Inv X pins (σ.set i (some v)) H s' → Q () s') (hf : X.fn x = true ∨ X.env.scope.names.lookup x = some .local := by first | exact .inl rfl | exact .inr rfl | assumption) : wpAny M A (storeName X.env x u) Q E s :=
 store_ok2 I hN hi hx r (fun s' I' _ => h s' I') hf
theorem Inv.call' {s' : Shared} {ch : List Addr} (I : Inv X pins σ H s) (ho : s'.os = s.os) (u : Un (frs X.stack) ch H H' s.heap s'.heap) (hok : HOk X.prog X.w H' s'.heap) (hg : AllBare s'.gens)
  (hch : ∀ b ∈ ch, (b ∈ X.ex ∨ X.s₀.heap.objs.size ≤ b) ∧ b ≠ X.env.locals ∧ (∀ x c, X.env.cells.lookup x = some c → c ≠ b) ∧ ∀ p ∈ X.pn ++ pins, p.1 ≠ b) : Inv X pins σ H' s' := by
 obtain ⟨h', g', d', t', o'⟩ := s'
 have e : o' = s.os := ho
 subst e
 exact I.call (g' := g') (t' := t') (d' := d') u hok hg hch
end
noncomputable abbrev XK := Value → Option Addr → Hp → Prop
noncomputable abbrev St := List (Option V)
noncomputable abbrev VK := V → Hp → Prop
noncomputable abbrev TE := St → Hp → VK → Prop
noncomputable abbrev TT := St → Hp → (Bool → Hp → Prop) → Prop
noncomputable abbrev TA := St → Hp → (List V → Hp → Prop) → Prop
structure Ends where
 nx : St → Hp → Prop
 rt : VK
 bk : St → Hp → Prop := fun _ _ => False
 ct : St → Hp → Prop := fun _ _ => False
noncomputable abbrev TS := Ends → St → Hp → Prop
noncomputable def EP (X : Cx) (pins : List (Addr × Obj)) (σ : St) (Q : VK) (u : Value) (s' : Shared) : Prop := ∃ v H', Inv X pins σ H' s' ∧ RelV v u ∧ Q v H'
noncomputable def TP (X : Cx) (pins : List (Addr × Obj)) (σ : St) (Q : Bool → Hp → Prop) (b : Bool) (s' : Shared) : Prop := ∃ H', Inv X pins σ H' s' ∧ Q b H'
noncomputable def AP (X : Cx) (pins : List (Addr × Obj)) (σ : St) (Q : List V → Hp → Prop) (us : List Value) (s' : Shared) : Prop := ∃ vs H', Inv X pins σ H' s' ∧ Vals vs us ∧ Q vs H'
noncomputable def SP (X : Cx) (pins : List (Addr × Obj)) (D : Ends) (f : Flow) (s' : Shared) : Prop :=
 match f with
 | .next => ∃ σ' H', Inv X pins σ' H' s' ∧ D.nx σ' H'
 | .brk => ∃ σ' H', Inv X pins σ' H' s' ∧ D.bk σ' H'
 | .cont => ∃ σ' H', Inv X pins σ' H' s' ∧ D.ct σ' H'
 | .ret u => ∃ v σ' H', Inv X pins σ' H' s' ∧ RelV v u ∧ D.rt v H'
noncomputable def PE (X : Cx) (e : Expr) (t : TE) : Prop :=
 ∀ (pins : List (Addr × Obj)) (s : Shared) (σ : St) (H : Hp) (Q : VK), Inv X pins σ H s → t σ H Q → wpAny (model X.prog X.w) X.A (eval e X.env) (EP X pins σ Q) X.xe s
noncomputable def PT (X : Cx) (e : Expr) (t : TT) : Prop :=
 ∀ (pins : List (Addr × Obj)) (s : Shared) (σ : St) (H : Hp) (Q : Bool → Hp → Prop), Inv X pins σ H s → t σ H Q → wpAny (model X.prog X.w) X.A (isTrue e X.env (eval e X.env)) (TP X pins σ Q) X.xe s
noncomputable def PW (X : Cx) (e : Expr) (t : TT) : Prop :=
 ∀ (whole : Sem Value) (pins : List (Addr × Obj)) (s : Shared) (σ : St) (H : Hp) (Q : Bool → Hp → Prop), Inv X pins σ H s → t σ H Q → wpAny (model X.prog X.w) X.A (isTrue e X.env whole) (TP X pins σ Q) X.xe s
noncomputable def PA (X : Cx) (es : List Expr) (t : TA) : Prop :=
 ∀ (pos : Pos) (pins : List (Addr × Obj)) (s : Shared) (σ : St) (H : Hp) (Q : List V → Hp → Prop), Inv X pins σ H s → t σ H Q → wpAny (model X.prog X.w) X.A (spliced (backTo pos (starEach es X.env))) (AP X pins σ Q) X.xe s
noncomputable def PS (X : Cx) (st : Stmt) (t : TS) : Prop :=
 ∀ (pins : List (Addr × Obj)) (s : Shared) (σ : St) (H : Hp) (D : Ends), Inv X pins σ H s → t D σ H → wpAny (model X.prog X.w) X.A (exec st X.env) (SP X pins D) X.xe s
noncomputable def PSs (X : Cx) (st : List Stmt) (t : TS) : Prop :=
 ∀ (pins : List (Addr × Obj)) (s : Shared) (σ : St) (H : Hp) (D : Ends), Inv X pins σ H s → t D σ H → wpAny (model X.prog X.w) X.A (execs st X.env) (SP X pins D) X.xe s
theorem thn {α : Type} {t : Sem α} {Q Q' : α → Shared → Prop} {M : Model} {A : Around} {E : Value → Shared → Prop} {s : Shared} (h : wpAny M A t Q E s) (hQ : ∀ a s, Q a s → Q' a s) : wpAny M A t Q' E s := wpAny_mono h hQ fun _ _ x => x
end L2
namespace L2
open PySem PySem.Spec PyProof.Rows
section
variable {X : Cx}
theorem bin {a b : Expr} {ta tb : TE} (ha : PE X a ta) (hb : PE X b tb) {pins : List (Addr × Obj)} {s : Shared} {σ : St} {H : Hp} {R : V → V → Hp → Prop} (I : Inv X pins σ H s) (h : ta σ H fun x H1 => tb σ H1 fun y H2 => R x y H2)
  {α : Type} {Q : α → Shared → Prop} {f : Value → Value → Sem α}
  (hf : ∀ v u s2 x y H2, Inv X pins σ H2 s2 → RelV x v → RelV y u → R x y H2 → wpAny (model X.prog X.w) X.A (f v u) Q X.xe s2) :
  wpAny (model X.prog X.w) X.A (eval a X.env) (fun v s₁ => wpAny (model X.prog X.w) X.A (eval b X.env) (fun u s₂ => wpAny (model X.prog X.w) X.A (f v u) Q X.xe s₂) X.xe s₁) X.xe s := by
 refine thn (ha pins s σ H _ I h) fun v s1 ⟨x, H1, I1, r1, q1⟩ => ?_
 refine thn (hb pins s1 σ H1 _ I1 q1) fun u s2 ⟨y, H2, I2, r2, q2⟩ => ?_
 exact hf v u s2 x y H2 I2 r1 r2 q2
noncomputable def tVar (i : Nat) : TE := fun σ H Q => ∃ v, σ[i]? = some (some v) ∧ Q v H
noncomputable def tC (v : V) : TE := fun _ H Q => Q v H
theorem pe_var {i : Nat} {x : Str} {pos : Pos} (hN : X.N[i]? = some x) (hv : Vis X.env.scope x) (hd : (x == ("__debug__" : Str)) = false := by decide) (hcd : (x == ("__classdict__" : Str)) = false := by decide) : PE X (.Name x pos) (tVar i) := by
 intro pins s σ H Q I h
 obtain ⟨v, e, h⟩ := h
 obtain ⟨m, hn, hl⟩ := I.loc
 obtain ⟨u, r, l⟩ := hl i x v hN e hv
 have fin : EP X pins σ Q u s := ⟨v, H, I, r, h⟩
 rcases l with ⟨hk, hm⟩ | ⟨hk, c, hc, hcell⟩
 ·exact wpAny_Name (wpAny_loadName_local I.ok.kind hk hn hm fin) hd
 ·rcases hk with hk | hk
  ·exact wpAny_Name (wpAny_loadName_cell I.ok.kind hk hc hcell fin) hd
  ·exact wpAny_Name (wpAny_loadName_free I.ok.kind hk hc hcell fin hcd) hd
theorem pe_int {i j pos} : PE X (.Constant (.int i) j pos) (tC (.int i)) := fun _ _ _ H _ I h => wpAny_Constant_int ⟨.int i, H, I.tok _, ⟨_, rfl⟩, h⟩
theorem pe_bl {b j pos} : PE X (.Constant (.bool b) j pos) (tC (.bl b)) := fun _ _ _ H _ I h => Constant_bool ⟨.bl b, H, I, rfl, h⟩
theorem pe_non {j pos} : PE X (.Constant .none j pos) (tC .non) := fun _ _ _ H _ I h => Constant_none ⟨.non, H, I, rfl, h⟩
theorem pe_str {x j pos} : PE X (.Constant (.str x) j pos) (tC (.str x)) := fun _ _ _ H _ I h => Calls.Constant_str ⟨.str x, H, I.tok _, ⟨_, rfl⟩, h⟩
noncomputable def Gl (X : Cx) (x : Str) : Prop := X.env.kindOf x = some .globalImplicit
theorem ld_glob {E : Value → Shared → Prop} {pins : List (Addr × Obj)} {s : Shared} {σ : St} {H : Hp} {x : Str} {u : Value} {pos : Pos} {Q : Value → Shared → Prop} (I : Inv X pins σ H s) (hg : Gl X x) (hm : X.mg x = some u) (h : Q u s)
  (hd : (x == ("__debug__" : Str)) = false := by decide) : wpAny (model X.prog X.w) X.A (eval (.Name x pos) X.env) Q E s :=
 Calls.Name_function_global I.ok.kind hg (Calls.loadGlobal_global (by rw [I.ok.glob]; exact I.mod.glob.keeps I.bk) hm h) hd
theorem ld_blt {E : Value → Shared → Prop} {pins : List (Addr × Obj)} {s : Shared} {σ : St} {H : Hp} {x : Str} {u : Value} {pos : Pos} {Q : Value → Shared → Prop} (I : Inv X pins σ H s) (hg : Gl X x) (hm : X.mg x = none) (hv : bootBuiltins x = some u) (h : Q u s)
  (hn : x ≠ "__name__" := by decide) (hd : (x == ("__debug__" : Str)) = false := by decide) : wpAny (model X.prog X.w) X.A (eval (.Name x pos) X.env) Q E s := by
 obtain ⟨mb, h1, h2⟩ := I.mod.blt
 exact Calls.Name_function_global I.ok.kind hg (Calls.loadGlobal_builtin (by rw [I.ok.glob]; exact I.mod.glob.keeps I.bk) hm (by rw [I.ok.blt]; exact h1.keeps I.bk) ((h2 x hn).trans hv) h) hd
theorem pe_bltn {x : Str} {v : V} {u : Value} {pos : Pos} (hg : Gl X x) (hm : X.mg x = none) (hv : bootBuiltins x = some u) (r : RelV v u) (hn : x ≠ "__name__" := by decide) (hd : (x == ("__debug__" : Str)) = false := by decide) : PE X (.Name x pos) (tC v) :=
 fun _ _ _ H _ I h => ld_blt I hg hm hv ⟨v, H, I, r, h⟩ hn hd
variable {a b : Expr} {ta tb : TE} {pos : Pos}
noncomputable def PC (X : Cx) (op : CmpOp) (a b : Expr) (t : TE) : Prop :=
 ∀ (pins : List (Addr × Obj)) (s : Shared) (σ : St) (H : Hp) (Q : VK), Inv X pins σ H s → t σ H Q →
  wpAny (model X.prog X.w) X.A (eval a X.env) (fun v s₁ => wpAny (model X.prog X.w) X.A (eval b X.env) (fun u s₂ => wpAny (model X.prog X.w) X.A (compareOp op v u) (EP X pins σ Q) X.xe s₂) X.xe s₁) X.xe s
noncomputable def tB (t : TE) : TT := fun σ H Q => t σ H fun x H1 => ∃ c, x = .bl c ∧ Q c H1
theorem pt_cmp {op : CmpOp} {t : TE} (h : PC X op a b t) (h1 : behindInMarks op b = false := by first | exact nobehind _ (by decide) (by decide) | rfl) : PT X (.Compare a [op] [b] pos) (tB t) := by
 intro pins s σ H Q I hw
 refine wpAny_isTrue_Compare1 (thn (h pins s σ H _ I hw) fun v s1 h1 => thn h1 fun u s2 h2 => thn h2 fun c s3 ⟨x, H1, I1, r1, q1⟩ => ?_) h1
 obtain ⟨d, rfl, q⟩ := q1
 cases r1
 exact wpAny_truthy_bool ⟨H1, I1, q⟩
theorem pt_val {e : Expr} {t : TE} (h : PE X e t) (he : ∀ whole, isTrue e X.env whole = (do let v ← whole; standAt e.pos; holding [v] (truthy v)) := by intro _; rfl) : PT X e (tB t) := by
 intro pins s σ H Q I hw
 refine isTrue_plain (thn (h pins s σ H _ I hw) fun v s1 ⟨x, H1, I1, r1, q1⟩ => ?_) (he _)
 obtain ⟨d, rfl, q⟩ := q1
 cases r1
 exact wpAny_truthy_bool ⟨H1, I1, q⟩
variable {tA tB' : TT} {rest : List Expr}
noncomputable def tAnd (t u : TT) : TT := fun σ H Q => t σ H fun c H1 => if c = true then u σ H1 Q else Q false H1
noncomputable def tOr (t u : TT) : TT := fun σ H Q => t σ H fun c H1 => if c = true then Q true H1 else u σ H1 Q
noncomputable def tNot (t : TT) : TT := fun σ H Q => t σ H fun c H1 => Q (!c) H1
theorem pw_and1 (ha : PT X a tA) : PW X (.BoolOp .And [a] pos) tA := by
 intro wh pins s σ H Q I h
 refine isTrue_and (thn (ha pins s σ H Q I h) fun c s1 e => ?_)
 cases c with
 | true => exact isTrue_and_nil e
 | false => exact e
theorem pw_or1 (ha : PT X a tA) : PW X (.BoolOp .Or [a] pos) tA := by
 intro wh pins s σ H Q I h
 refine isTrue_or (thn (ha pins s σ H Q I h) fun c s1 e => ?_)
 cases c with
 | false => exact isTrue_or_nil e
 | true => exact e
theorem pw_and (ha : PT X a tA) (hb : PW X (.BoolOp .And (b :: rest) pos) tB') : PW X (.BoolOp .And (a :: b :: rest) pos) (tAnd tA tB') := by
 intro wh pins s σ H Q I h
 refine isTrue_and (thn (ha pins s σ H _ I h) fun c s1 ⟨H1, I1, q1⟩ => ?_)
 cases c with
 | true => exact hb wh pins s1 σ H1 Q I1 q1
 | false => exact ⟨H1, I1, q1⟩
theorem pw_or (ha : PT X a tA) (hb : PW X (.BoolOp .Or (b :: rest) pos) tB') : PW X (.BoolOp .Or (a :: b :: rest) pos) (tOr tA tB') := by
 intro wh pins s σ H Q I h
 refine isTrue_or (thn (ha pins s σ H _ I h) fun c s1 ⟨H1, I1, q1⟩ => ?_)
 cases c with
 | true => exact ⟨H1, I1, q1⟩
 | false => exact hb wh pins s1 σ H1 Q I1 q1
theorem pt_not (ha : PT X a tA) : PT X (.UnaryOp .Not a pos) (tNot tA) := by
 intro pins s σ H Q I h
 exact isTrue_not (ha pins s σ H (fun c H1 => Q (!c) H1) I h)
noncomputable def tAndV (ta tb : TE) : TE := fun σ H Q => ta σ H fun x H1 => ∃ c, x = .bl c ∧ if c = true then tb σ H1 Q else Q (.bl false) H1
theorem pe_one {op} {t : TE} (h : PE X a t) : PE X (.BoolOp op [a] pos) t := fun pins s σ H Q I hw => BoolOp_one (h pins s σ H Q I hw)
theorem pe_and (ha : PE X a ta) (hb : PE X (.BoolOp .And (b :: rest) pos) tb) : PE X (.BoolOp .And (a :: b :: rest) pos) (tAndV ta tb) := by
 intro pins s σ H Q I h
 refine BoolOp_and (thn (ha pins s σ H _ I h) fun v s1 ⟨x, H1, I1, r1, q1⟩ => ?_)
 obtain ⟨c, rfl, q1⟩ := q1
 cases r1
 refine wpAny_truthy_bool ?_
 cases c with
 | true => exact hb pins s1 σ H1 Q I1 q1
 | false => exact ⟨.bl false, H1, I1, rfl, q1⟩
end
end L2
namespace L2
open PySem PySem.Spec PyProof.Rows
noncomputable def SqL (K : PySem.W.Frag) (H : Hp) (a : Addr) (xs : List V) : Prop :=
 Rd H a (.lst xs) ∨
  ∃ (o : Obj) (its : Array Value) (n : Nat), K.lookup a = some o ∧ o.cls = .type "list" ∧ o.dict = none ∧ o.data = .seq its n ∧ its.size ≤ sizeLine ∧ Vals xs its.toList
noncomputable def SqT (K : PySem.W.Frag) (H : Hp) (a : Addr) (xs : List V) : Prop :=
 Rd H a (.tup xs) ∨
  ∃ (o : Obj) (its : Array Value) (n : Nat), K.lookup a = some o ∧ o.cls = .type "tuple" ∧ o.data = .seq its n ∧ its.size ≤ sizeLine ∧ Vals xs its.toList
noncomputable def absV : Value → Option V
 | .none => some .non
 | .bool b => some (.bl b)
 | .int i _ => some (.int i)
 | .str x _ => some (.str x)
 | .bytes b _ => some (.byt b)
 | .float b _ => some (.flt b)
 | .ref a => some (.ref a)
 | .type n => some (.ty n)
 | _ => none
theorem RelV.abs {x : V} {u : Value} (r : RelV x u) : absV u = some x := by
 cases x with
 | non => cases r; rfl
 | bl _ => cases r; rfl
 | int _ => obtain ⟨t, rfl⟩ := r; rfl
 | str _ => obtain ⟨t, rfl⟩ := r; rfl
 | byt _ => obtain ⟨t, rfl⟩ := r; rfl
 | flt _ => obtain ⟨t, rfl⟩ := r; rfl
 | ref _ => cases r; rfl
 | ty _ => cases r; rfl
theorem RelV.inj {x y : V} {u : Value} (r : RelV x u) (q : RelV y u) : x = y := Option.some.inj (r.abs.symm.trans q.abs)
theorem Vals.inj : ∀ {xs ys : List V} {us : List Value}, Vals xs us → Vals ys us → xs = ys
 | _, _, _, .nil, .nil => rfl
 | _, _, _, .cons r t, .cons r' t' => by rw [r.inj r', Vals.inj t t']
section
variable {X : Cx} {pins : List (Addr × Obj)} {σ : St} {H : Hp} {s : Shared} {a : Addr} {xs ys : List V}
theorem SqL.of {K : PySem.W.Frag} (h : H a = some (.lst xs)) : SqL K H a xs := .inl (.inl h)
theorem SqT.of {K : PySem.W.Frag} (h : H a = some (.tup xs)) : SqT K H a xs := .inl (.inl h)
theorem Inv.list (I : Inv X pins σ H s) (h : SqL X.K H a xs) : ∃ its : List Value, Vals xs its ∧ PlainL s.heap a its.toArray ∧ xs.length ≤ sizeLine := by
 rcases h with h | ⟨o, its, n, hk, hc, hd, hs, hz, r⟩
 ·obtain ⟨z, its, n, r, e⟩ := h.ok I.hok
  exact ⟨its, r, ⟨_, n, e, rfl, rfl, rfl⟩, z⟩
 ·refine ⟨its.toList, r, ⟨o, n, I.kIn a o hk, hc, hd, by simpa using hs⟩, ?_⟩
  have e := r.length
  simp only [Array.length_toList] at e
  omega
theorem Inv.tuple (I : Inv X pins σ H s) (h : SqT X.K H a xs) : ∃ its : List Value, Vals xs its ∧ IsTup s.heap a its.toArray ∧ xs.length ≤ sizeLine := by
 rcases h with h | ⟨o, its, n, hk, hc, hs, hz, r⟩
 ·obtain ⟨z, its, r, p⟩ := h.ok I.hok
  exact ⟨its, r, p, z⟩
 ·refine ⟨its.toList, r, ⟨o, I.kIn a o hk, hc, n, by simpa using hs⟩, ?_⟩
  have e := r.length
  simp only [Array.length_toList] at e
  omega
theorem Inv.list_inj (I : Inv X pins σ H s) (h : SqL X.K H a xs) (h' : SqL X.K H a ys) : xs = ys := by
 obtain ⟨its, r, ⟨o, n, e, _, _, d⟩, _⟩ := I.list h
 obtain ⟨its', r', ⟨o', n', e', _, _, d'⟩, _⟩ := I.list h'
 rw [e] at e'; cases e'
 rw [d] at d'
 injection d' with d1 _
 have : its = its' := by simpa using congrArg Array.toList d1
 subst this
 exact r.inj r'
end
noncomputable abbrev Cx.wish (X : Cx) (E : Value → Shared → Prop) : Cx := { X with xe := E }
noncomputable abbrev Cx.nox (X : Cx) : Cx := X.wish fun _ _ => False
theorem Cx.Ok.wish {X : Cx} (ok : X.Ok) (E : Value → Shared → Prop) : (X.wish E).Ok :=
 ⟨ok.mod, ok.kind, ok.glob, ok.blt, ok.above, ok.inj, ok.has, ok.cab, ok.hd, ok.frames, ok.stk, ok.exf, ok.bs, ok.bsz, ok.noex, ok.exfs, ok.funs, ok.frf⟩
theorem Cx.Ok.unwish {X : Cx} {E : Value → Shared → Prop} (ok : (X.wish E).Ok) : X.Ok :=
 ⟨ok.mod, ok.kind, ok.glob, ok.blt, ok.above, ok.inj, ok.has, ok.cab, ok.hd, ok.frames, ok.stk, ok.exf, ok.bs, ok.bsz, ok.noex, ok.exfs, ok.funs, ok.frf⟩
section
variable {X : Cx} {pins : List (Addr × Obj)} {σ : St} {H : Hp} {s : Shared} {E : Value → Shared → Prop}
theorem Inv.wish (I : Inv X pins σ H s) (E : Value → Shared → Prop) : Inv (X.wish E) pins σ H s := ⟨I.ok.wish E, I.os, I.bare, I.base, I.loc, I.cell, I.free, I.freeC, I.pin, I.hok, I.len⟩
theorem Inv.unwish (I : Inv (X.wish E) pins σ H s) : Inv X pins σ H s := ⟨I.ok.unwish, I.os, I.bare, I.base, I.loc, I.cell, I.free, I.freeC, I.pin, I.hok, I.len⟩
theorem SP.unwish {D : Ends} {f : Flow} {s' : Shared} (h : SP (X.wish E) pins D f s') : SP X pins D f s' := by
 cases f with
 | next => obtain ⟨σ', H', I, q⟩ := h; exact ⟨σ', H', I.unwish, q⟩
 | brk => obtain ⟨σ', H', I, q⟩ := h; exact ⟨σ', H', I.unwish, q⟩
 | cont => obtain ⟨σ', H', I, q⟩ := h; exact ⟨σ', H', I.unwish, q⟩
 | ret u => obtain ⟨v, σ', H', I, r, q⟩ := h; exact ⟨v, σ', H', I.unwish, r, q⟩
theorem PSs.nox {st : List Stmt} {t : TS} (h : PSs X.nox st t) : PSs X st t := fun pins s σ H D I hw =>
 wpAny_mono (h pins s σ H D (I.wish _) hw) (fun _ _ q => q.unwish) fun _ _ z => False.elim z
end
section
variable {X : Cx} {st : Stmt} {rest : List Stmt} {t u : TS} {e : Expr} {te : TE} {pos : Pos}
noncomputable def tNext : TS := fun D σ H => D.nx σ H
noncomputable def tSeq (t u : TS) : TS := fun D σ H => t { D with nx := u D } σ H
theorem pss_nil : PSs X [] tNext := fun _ _ σ H _ I h => wpAny_execs_nil ⟨σ, H, I, h⟩
theorem pss_cons (h1 : PS X st t) (h2 : PSs X rest u) : PSs X (st :: rest) (tSeq t u) := by
 intro pins s σ H D I h
 refine wpAny_execs_cons (thn (h1 pins s σ H { D with nx := u D } I h) fun f s1 q => ?_)
 cases f with
 | next =>
  obtain ⟨σ', H', I', q⟩ := q
  exact h2 pins s1 σ' H' D I' q
 | ret v => exact q
 | brk => exact q
 | cont => exact q
theorem Inv.quiet {pins : List (Addr × Obj)} {σ : St} {H : Hp} {s : Shared} (I : Inv X pins σ H s) : interactive X.env = false := by simp [interactive, I.ok.kind]
noncomputable def tDrop (te : TE) : TS := fun D σ H => te σ H fun _ H1 => D.nx σ H1
theorem ps_expr (he : PE X e te) (hs : swapsWith e none pos.line X.env = pure false := by rfl) : PS X (.Expr e pos) (tDrop te) := by
 intro pins s σ H D I h
 exact wpAny_Expr_any (thn (he pins s σ H _ I h) fun v s1 ⟨x, H1, I1, r1, q1⟩ => ⟨σ, H1, I1, q1⟩) I.quiet hs
noncomputable def tRet (te : TE) : TS := fun D σ H => te σ H D.rt
theorem ps_ret (he : PE X e te) : PS X (.Return (some e) pos) (tRet te) := by
 intro pins s σ H D I h
 exact wpAny_Return_some (thn (he pins s σ H _ I h) fun v s1 ⟨x, H1, I1, r1, q1⟩ => ⟨x, σ, H1, I1, r1, q1⟩)
noncomputable def tIfS (c : TT) (t u : TS) : TS := fun D σ H => c σ H fun b H1 => if b = true then t D σ H1 else u D σ H1
theorem ps_if {c : Expr} {a b : List Stmt} {tc : TT} (hc : PT X c tc) (ha : PSs X a t) (hb : PSs X b u) : PS X (.If c a b pos) (tIfS tc t u) := by
 intro pins s σ H D I h
 refine wpAny_If (thn (hc pins s σ H _ I h) fun d s1 ⟨H1, I1, q1⟩ => ?_)
 cases d with
 | true => exact ha pins s1 σ H1 D I1 q1
 | false => exact hb pins s1 σ H1 D I1 q1
end
noncomputable abbrev TG := V → St → Hp → (St → Hp → Prop) → Prop
noncomputable abbrev TGs := List V → St → Hp → (St → Hp → Prop) → Prop
noncomputable def PG (X : Cx) (target : Expr) (t : TG) : Prop :=
 ∀ (pins : List (Addr × Obj)) (s : Shared) (σ : St) (H : Hp) (v : V) (u : Value) (Q : St → Hp → Prop), Inv X pins σ H s → RelV v u → t v σ H Q →
  wpAny (model X.prog X.w) X.A (assign target X.env u) (fun _ s' => ∃ σ' H', Inv X pins σ' H' s' ∧ Q σ' H') X.xe s
noncomputable def PGs (X : Cx) (ts : List Expr) (t : TGs) : Prop :=
 ∀ (pins : List (Addr × Obj)) (s : Shared) (σ : St) (H : Hp) (vs : List V) (us : List Value) (Q : St → Hp → Prop), Inv X pins σ H s → Vals vs us → t vs σ H Q →
  wpAny (model X.prog X.w) X.A (assignInOrder ((assignEach ts X.env).map (·.2)) us) (fun _ s' => ∃ σ' H', Inv X pins σ' H' s' ∧ Q σ' H') X.xe s
section
variable {X : Cx} {pos : Pos}
noncomputable def gName (i : Nat) : TG := fun v σ H Q => Q (σ.set i (some v)) H
theorem pg_name {i : Nat} {x : Str} (hN : X.N.Nodup) (hi : X.N[i]? = some x) (hx : Loc X.env.scope x) (hf : X.fn x = true ∨ X.env.scope.names.lookup x = some .local := by first | exact .inl rfl | exact .inr rfl | assumption) : PG X (.Name x pos) (gName i) := by
 intro pins s σ H v u Q I r h
 exact wpAny_assign_Name (store_ok I hN hi hx r (fun s' I' => ⟨_, H, I', h⟩) hf)
noncomputable def gNil : TGs := fun vs σ H Q => vs = [] ∧ Q σ H
noncomputable def gCons (t : TG) (u : TGs) : TGs := fun vs σ H Q => ∃ v r, vs = v :: r ∧ t v σ H fun σ' H' => u r σ' H' Q
theorem pgs_nil : PGs X [] gNil := by
 intro pins s σ H vs us Q I r h
 obtain ⟨e, h⟩ := h
 subst e
 cases r
 exact assignInOrder_nil ⟨σ, H, I, h⟩
theorem pgs_cons {e : Expr} {es : List Expr} {t : TG} {u : TGs} (h1 : PG X e t) (h2 : PGs X es u)
  (hs : (assignEach (e :: es) X.env).map (·.2) = assign e X.env :: (assignEach es X.env).map (·.2) := by rfl) : PGs X (e :: es) (gCons t u) := by
 intro pins s σ H vs us Q I r h
 obtain ⟨v, vr, e1, h⟩ := h
 subst e1
 cases r with
 | cons r rr =>
  rw [hs]
  refine assignInOrder_cons (thn (h1 pins s σ H _ _ _ I r h) fun _ s1 ⟨σ1, H1, I1, q1⟩ => ?_)
  exact h2 pins s1 σ1 H1 _ _ Q I1 rr q1
noncomputable def gTup (K : PySem.W.Frag) (n : Nat) (t : TGs) : TG := fun v σ H Q => ∃ a xs, v = .ref a ∧ SqT K H a xs ∧ xs.length = n ∧ t xs σ H Q
theorem pg_tup {es : List Expr} {k : Nat} {t : TGs} {n : Nat} (hc : X.calm = true) (h : PGs X es t)
  (hn : (assignEach es X.env).length = n := by rfl) (hst : (assignEach es X.env).findIdx? (·.1) = none := by rfl) : PG X (.Tuple es k pos) (gTup X.K n t) := by
 intro pins s σ H v u Q I r hw
 obtain ⟨a, xs, e1, hq, hl, hw⟩ := hw
 subst e1
 cases r
 obtain ⟨its, rv, ht, hz⟩ := I.tuple hq
 refine assign_Tuple_tuple (I.ok.hd hc) ht (by simp [hn, ← hl, rv.length]) hst fun h' hx => ?_
 have I1 : Inv X pins σ H { s with heap := h' } := I.kept (t' := s.toks) fun b o e => hx b o (Nat.ne_of_lt (Heap.lt_size e)) e
 exact h pins _ σ H xs _ Q I1 (by simpa using rv) hw
noncomputable def tAsg (te : TE) (g : TG) : TS := fun D σ H => te σ H fun x H1 => g x σ H1 D.nx
theorem ps_asg {tg e : Expr} {te : TE} {g : TG} (he : PE X e te) (hg : PG X tg g) (hs : swapsWithSole [tg] e pos.line X.env = pure false := by rfl) (hw : swappedStores [tg] e X.env = pure none := by rfl)
  (h1 : (assignEach [tg] X.env).map (·.2) = [assign tg X.env] := by rfl) : PS X (.Assign [tg] e pos) (tAsg te g) := by
 intro pins s σ H D I h
 refine wpAny_Assign_stores (thn (he pins s σ H _ I h) fun v s1 ⟨x, H1, I1, r1, q1⟩ => ?_) hs hw
 rw [h1]
 exact thn (hg pins s1 σ H1 x v _ I1 r1 q1) fun _ s2 q => q
theorem ps_set {i : Nat} {x : Str} {e : Expr} {te : TE} {pos' : Pos} (hN : X.N.Nodup) (hi : X.N[i]? = some x) (hx : Loc X.env.scope x) (he : PE X e te) (hs : swapsWith e (some (.Name x pos')) pos.line X.env = pure false := by rfl) (hf : X.fn x = true ∨ X.env.scope.names.lookup x = some .local := by first | exact .inl rfl | exact .inr rfl | assumption) :
  PS X (.Assign [.Name x pos'] e pos) (tAsg te (gName i)) := by
 intro pins s σ H D I h
 refine wpAny_Assign_Name (thn (he pins s σ H _ I h) fun v s1 ⟨y, H1, I1, r1, q1⟩ => ?_) hs
 exact store_ok I1 hN hi hx r1 (fun s2 I2 => ⟨_, H1, I2, q1⟩) hf
noncomputable def tPar (i j : Nat) (ta : TA) : TS := fun D σ H => ta σ H fun vs H1 => ∃ v w, vs = [v, w] ∧ D.nx ((σ.set i (some v)).set j (some w)) H1
theorem ps_par {i j : Nat} {x y : Str} {a b : Expr} {ta : TA} {px py pt : Pos} {kt k2 pt2} (hc : X.calm = true) (hN : X.N.Nodup) (hi : X.N[i]? = some x) (hj : X.N[j]? = some y) (hij : i ≠ j)
  (hx : X.env.scope.names.lookup x = some .local) (hy : X.env.scope.names.lookup y = some .local) (ha : PA X [a, b] ta)
  (hw : swappedStores [.Tuple [.Name x px, .Name y py] kt pt] (.Tuple [a, b] k2 pt2) X.env = pure (some [x, y]))
  (hs : swapsWithSole [.Tuple [.Name x px, .Name y py] kt pt] (.Tuple [a, b] k2 pt2) pos.line X.env = pure false := by rfl) :
  PS X (.Assign [.Tuple [.Name x px, .Name y py] kt pt] (.Tuple [a, b] k2 pt2) pos) (tPar i j ta) := by
 intro pins s σ H D I h
 rw [exec_Assign_arm]
 refine wpAny_bind (wpAny_standAt ?_)
 rw [hs]
 refine wpAny_bind (wpAny_pure ?_)
 rw [if_neg (by decide)]
 refine wpAny_bind (Tuple_ (thn (ha _ pins s σ H _ I h) fun us s1 ⟨vs, H1, I1, r1, q1⟩ => ?_))
 obtain ⟨v, w, e1, q1⟩ := q1
 subst e1
 obtain ⟨u1, u2, rfl, rv, rw'⟩ : ∃ u1 u2, us = [u1, u2] ∧ RelV v u1 ∧ RelV w u2 := by
  cases r1 with
  | cons p q =>
   cases q with
   | cons p' q' =>
    cases q'
    exact ⟨_, _, rfl, p, p'⟩
 refine wpAny_newObj_type ?_ (by show 2 ≤ sizeLine; decide)
 have I2 : Inv X pins σ H1 { s1 with heap := s1.heap.push { cls := .type "tuple", data := .seq [u1, u2].toArray } } := I1.kept (t' := s1.toks) fun b o e => Heap.get?_push_of_some _ e
 rw [hw]
 refine wpAny_bind (wpAny_pure ?_)
 show wpAny (model X.prog X.w) X.A (do rule "assign.swapped-stores"; let items ← unpackItems (.ref s1.heap.objs.size) 2 none; assignInOrder [fun v => bindName X.env y v, fun v => bindName X.env x v] items.reverse; pure Flow.next) _ _ _
 refine wpAny_bind (wpAny_rule (wpAny_bind (unpackItems_tuple (items := #[u1, u2]) (I.ok.hd hc) (IsTup.new s1.heap _) fun h' hx' => ?_)))
 have I3 := I2.kept (h' := h') (t' := s1.toks) fun b o e => hx' b o (Nat.ne_of_lt (Heap.lt_size e)) e
 show wpAny _ _ (assignInOrder [fun v => bindName X.env y v, fun v => bindName X.env x v] [u2, u1] >>= fun _ => pure Flow.next) _ _ _
 refine wpAny_bind (assignInOrder_cons (wpAny_bindName (store_ok I3 hN hj (.inl hy) rw' (fun s2 I4 => ?_) (.inr hy))))
 refine assignInOrder_cons (wpAny_bindName (store_ok I4 hN hi (.inl hx) rv (fun s3 I5 => assignInOrder_nil (wpAny_pure ?_)) (.inr hx)))
 rw [List.set_comm _ _ (Ne.symm hij)] at I5
 exact ⟨_, H1, I5, q1⟩
end
section
variable {X : Cx} {pos : Pos}
noncomputable def tWhile (c : TT) (tb : TS) : TS := fun D σ H => ∃ W : Nat → St → Hp → Prop, (∃ m, W m σ H) ∧ ∀ m σ H, W m σ H →
 c σ H fun b H1 => if b = true then ∃ N : St → Hp → Prop, (∀ σ' H', N σ' H' → ∃ m', m' < m ∧ W m' σ' H') ∧ tb { D with nx := N, ct := N, bk := D.nx } σ H1 else D.nx σ H1
theorem ps_while {c : Expr} {body : List Stmt} {tc : TT} {tb : TS} (hp : PassesOwn (model X.prog X.w) X.A X.env X.xe) (hc : PT X c tc) (hb : PSs X body tb) : PS X (.While c body [] pos) (tWhile tc tb) := by
 intro pins s σ H D I h
 obtain ⟨W, ⟨m0, w0⟩, turn⟩ := h
 refine wpAny_While (codeAny_whileLoop (fun n s' => ∃ σ' H', Inv X pins σ' H' s' ∧ W n σ' H') ?_ m0 ⟨σ, H, I, w0⟩)
 rintro n s1 ⟨σ1, H1, I1, w1⟩
 refine wpAny_passesOwn hp (thn (hc pins s1 σ1 H1 _ I1 (turn n σ1 H1 w1)) fun b s2 ⟨H2, I2, q2⟩ => ?_)
 cases b with
 | true =>
  obtain ⟨N, hN, q2⟩ := q2
  rw [if_pos rfl]
  refine wpAny_passesOwn hp (thn (hb pins s2 σ1 H2 _ I2 q2) fun f s3 q3 => ?_)
  cases f with
  | next =>
   obtain ⟨σ3, H3, I3, n3⟩ := q3
   obtain ⟨m', hm, w3⟩ := hN σ3 H3 n3
   exact ⟨m', hm, σ3, H3, I3, w3⟩
  | cont =>
   obtain ⟨σ3, H3, I3, n3⟩ := q3
   obtain ⟨m', hm, w3⟩ := hN σ3 H3 n3
   exact ⟨m', hm, σ3, H3, I3, w3⟩
  | brk => exact q3
  | ret v => exact q3
 | false =>
  rw [if_neg Bool.false_ne_true]
  exact wpAny_execs_nil ⟨σ1, H2, I2, q2⟩
end
structure It where
 go : Nat → Hp → Prop
 yld : Nat → Hp → V → Hp → Prop
 stop : Nat → Hp → Prop
noncomputable def FpOk (X : Cx) (pins : List (Addr × Obj)) (H : Hp) (b : Addr) : Prop :=
 H b = none ∧ b ≠ X.env.locals ∧ b ∉ X.fs ∧ (b ∈ X.ex ∨ X.s₀.heap.objs.size ≤ b) ∧ (∀ x c, X.env.cells.lookup x = some c → c ≠ b) ∧ ∀ p ∈ X.pn ++ pins, p.1 ≠ b
theorem Inv.fpOk {X : Cx} {pins : List (Addr × Obj)} {σ : St} {H H' : Hp} {s : Shared} {b : Addr} (I : Inv X pins σ H s) (hb : s.heap.objs.size ≤ b) (hn : H' b = none) : FpOk X pins H' b := by
 refine ⟨hn, Nat.ne_of_gt (Nat.lt_of_lt_of_le I.lt hb), I.nofs hb, .inr (Nat.le_trans I.sz hb), fun x c e z => ?_, fun p hp z => ?_⟩
 ·obtain ⟨v, q⟩ := I.cell x c e
  exact absurd (Nat.lt_of_lt_of_le q.lt (by rw [z]; exact hb)) (Nat.lt_irrefl _)
 ·exact absurd (Nat.lt_of_lt_of_le (Heap.lt_size (I.pin p hp).1) (by rw [z]; exact hb)) (Nat.lt_irrefl _)
structure Turn (P : Program) (w : World) (K : PySem.W.Frag) (tg : Expr) (J : It) (fp : List Addr) (it : Addr) (tn : Nat → Heap → Prop) : Prop where
 mem : it ∈ fp
 obj : ∀ i h, tn i h → ∀ b ∈ fp, ∃ o, h.get? b = some o ∧ ∀ v, o.data ≠ .cell v
 keep : ∀ i h h', tn i h → (∀ b ∈ fp, ∀ o, h.get? b = some o → h'.get? b = some o) → tn i h'
 item : ∀ (X : Cx), X.prog = P → X.w = w → X.K = K → X.calm = true → ∀ (i : Nat) (pins : List (Addr × Obj)) (s : Shared) (σ : St) (H : Hp) (E : Value → Shared → Prop), Inv X pins σ H s → (∀ b ∈ fp, FpOk X pins H b) → tn i s.heap → J.go i H →
  wpAny (model P w) X.A (pyNext (.ref it)) (fun r s1 => ∃ u, r = some u ∧
   wpAny (model P w) X.A (letOwnedTupleGo tg (.ref it) u) (fun _ s2 => ∃ x H', Inv X pins σ H' s2 ∧ RelV x u ∧ J.yld i H x H' ∧ tn (i + 1) s2.heap ∧ ∀ b ∈ fp, H' b = none) E s1) E s
 done : ∀ (X : Cx), X.prog = P → X.w = w → X.K = K → X.calm = true → ∀ (i : Nat) (pins : List (Addr × Obj)) (s : Shared) (σ : St) (H : Hp) (E : Value → Shared → Prop), Inv X pins σ H s → (∀ b ∈ fp, FpOk X pins H b) → tn i s.heap → J.stop i H →
  wpAny (model P w) X.A (pyNext (.ref it)) (fun r s1 => r = none ∧ Inv X pins σ H s1) E s
 self : ∀ (A : Around) (i : Nat) (s : Shared) (Q : Value → Shared → Prop) (E : Value → Shared → Prop), tn i s.heap → Q (.ref it) s → wpAny (model P w) A (pyIter (.ref it)) Q E s
noncomputable abbrev TI := St → Hp → (It → Hp → Prop) → Prop
noncomputable def PIE (X : Cx) (pins : List (Addr × Obj)) (σ : St) (tg : Expr) (R : It → Hp → Prop) (itv : Value) (s2 : Shared) : Prop :=
 ∃ (it : Addr) (fp : List Addr) (tn : Nat → Heap → Prop) (J : It) (H' : Hp), itv = .ref it ∧ Inv X pins σ H' s2 ∧ Turn X.prog X.w X.K tg J fp it tn ∧ tn 0 s2.heap ∧ (∀ b ∈ fp, FpOk X pins H' b) ∧ R J H'
noncomputable def PI (X : Cx) (tg iter : Expr) (wi : TI) : Prop :=
 ∀ (pins : List (Addr × Obj)) (s : Shared) (σ : St) (H : Hp) (R : It → Hp → Prop), Inv X pins σ H s → wi σ H R →
  wpAny (model X.prog X.w) X.A (eval iter X.env) (fun v s1 => wpAny (model X.prog X.w) X.A (pyIter v) (PIE X pins σ tg R) X.xe s1) X.xe s
theorem go_of {M : Model} {A : Around} {E : Value → Shared → Prop} {s : Shared} {tg : Expr} {it : Addr} {u : Value} {o : Obj} {n : String} {vs : Array Value} {Q : Unit → Shared → Prop} (ho : s.heap.get? it = some o) (hc : o.cls = .type n) (hd : o.data = .fields vs)
    (hn : ["enumerate", "zip", "dict_itemiterator", "dict_reverseitemiterator", "odict_iterator", "itertools.zip_longest", "itertools.pairwise"].contains n = false) (hQ : Q () s) : wpAny M A (letOwnedTupleGo tg (.ref it) u) Q E s := by
  unfold letOwnedTupleGo
  cases tg <;> first
    | exact wpAny_pure hQ
    | (cases u <;> first
        | exact wpAny_pure hQ
        | (refine wpAny_bind (wpAny_load ho ?_)
           rw [hc, hd]
           show wpAny M A (if (["enumerate", "zip", "dict_itemiterator", "dict_reverseitemiterator", "odict_iterator", "itertools.zip_longest", "itertools.pairwise"].contains n && vs[0]? == some (rawInt _)) = true then _ else _) Q E s
           rw [if_neg (by intro h; rw [hn, Bool.false_and] at h; cases h)]
           exact wpAny_pure hQ))
noncomputable def Itl (K : PySem.W.Frag) (a : Addr) : It :=
 ⟨fun i H => ∃ xs x, SqL K H a xs ∧ xs[i]? = some x, fun i H x H' => H' = H ∧ ∀ xs, SqL K H a xs → xs[i]? = some x, fun i H => ∃ xs, SqL K H a xs ∧ xs.length ≤ i⟩
noncomputable def Itt (K : PySem.W.Frag) (a : Addr) : It :=
 ⟨fun i H => ∃ xs x, SqT K H a xs ∧ xs[i]? = some x, fun i H x H' => H' = H ∧ ∀ xs, SqT K H a xs → xs[i]? = some x, fun i H => ∃ xs, SqT K H a xs ∧ xs.length ≤ i⟩
noncomputable def Itr (lo : Int) (n : Nat) : It := ⟨fun i _ => i < n, fun i H x H' => H' = H ∧ x = .int (lo + i), fun i _ => n ≤ i⟩
theorem turn_list {P : Program} {w : World} {K : PySem.W.Frag} {tg : Expr} (a it : Addr) : Turn P w K tg (Itl K a) [it] it (fun i h => h.IsListIter it a i) where
 mem := by simp
 obj := fun i h st b hb => by
  have e : b = it := by simpa using hb
  subst e
  obtain ⟨o, e, c, d⟩ := st
  exact ⟨o, e, fun v z => by rw [d] at z; cases z⟩
 keep := fun i h h' st k => st.at fun o e => k it (by simp) o e
 item := by
  intro X hP hw hK hc i pins s σ H E I hf st hg
  subst hP hw hK
  obtain ⟨xs, x, hq, hx⟩ := hg
  obtain ⟨its, rv, p, hz⟩ := I.list hq
  obtain ⟨u, hu, ru⟩ := rv.get hx
  obtain ⟨f0, f1, f2, f3, f4, f5⟩ := hf it (by simp)
  refine wpAny_pyNext_list_item st p.isList (x := u) (by simpa using hu) fun h' st' sb => ?_
  have I1 : Inv X pins σ H { s with heap := h' } := I.turned (t' := s.toks) (fun b o hb e => (sb.2 b hb).trans e) f0 f1 f3 f4 f5
  obtain ⟨o, e, c, d⟩ := id st'
  exact ⟨u, rfl, go_of (s := { s with heap := h' }) e c d (by decide) ⟨x, H, I1, ru, ⟨rfl, fun ys hy => by rw [I.list_inj hy hq]; exact hx⟩, st', fun b hb => (hf b hb).1⟩⟩
 done := by
  intro X hP hw hK hc i pins s σ H E I hf st hg
  subst hP hw hK
  obtain ⟨xs, hq, hx⟩ := hg
  obtain ⟨its, rv, p, hz⟩ := I.list hq
  obtain ⟨f0, f1, f2, f3, f4, f5⟩ := hf it (by simp)
  have hl := rv.length
  exact wpAny_pyNext_list_end (I.ok.hd hc) st p.isList (by simp; omega) fun h' eb => ⟨rfl, I.turned (t' := s.toks) (fun b o hb e => eb b o hb e) f0 f1 f3 f4 f5⟩
 self := fun _ _ _ _ _ st h => wpAny_pyIter_listiter st h
theorem turn_range {P : Program} {w : World} {K : PySem.W.Frag} {tg : Expr} (it : Addr) (lo : Int) (n : Nat) : Turn P w K tg (Itr lo n) [it] it (fun i h => IsRangeIter h it (lo + (i : Nat) * 1) ((n : Int) - (i : Nat)) 1) where
 mem := by simp
 obj := fun i h st b hb => by
  have e : b = it := by simpa using hb
  subst e
  exact ⟨_, st, fun v z => by
   have z' : Data.fields _ = Data.cell v := z
   cases z'⟩
 keep := fun i h h' st k => k it (by simp) _ st
 item := by
  intro X hP hw hK hc i pins s σ H E I hf st hg
  subst hP hw hK
  obtain ⟨f0, f1, f2, f3, f4, f5⟩ := hf it (by simp)
  have W := Walks.range (prog := X.prog) (w := X.w) (I.ok.hd hc) it lo 1 n
  refine W.item i s _ _ hg st fun v h' tk hv st' kk => ?_
  obtain ⟨t, rfl⟩ := hv
  have I1 : Inv X pins σ H { s with heap := h', toks := tk } := I.turned (fun b o hb e => kk b o (by simpa using hb) e) f0 f1 f3 f4 f5
  refine ⟨_, rfl, go_of (s := { s with heap := h', toks := tk }) (n := "range_iterator") st' rfl rfl (by decide) ⟨.int (lo + i), H, I1, ⟨t, ?_⟩, ⟨rfl, rfl⟩, st', fun b hb => (hf b hb).1⟩⟩
  rw [Int.mul_one]
 done := by
  intro X hP hw hK hc i pins s σ H E I hf st hg
  subst hP hw hK
  obtain ⟨f0, f1, f2, f3, f4, f5⟩ := hf it (by simp)
  exact wpAny_pyNext_range_end (I.ok.hd hc) st (by have : n ≤ i := hg; omega) fun h' eb => ⟨rfl, I.turned (t' := s.toks) (fun b o hb e => eb b o hb e) f0 f1 f3 f4 f5⟩
 self := fun _ _ _ _ _ st h => wpAny_pyIter_rangeiter st h
end L2
namespace L2
open PySem PySem.Spec PyProof.Rows
section
variable {X : Cx} {tg : Expr}
noncomputable def iList (K : PySem.W.Frag) (tl : TE) : TI := fun σ H R => tl σ H fun x H1 => ∃ a, x = .ref a ∧ (∃ xs, SqL K H1 a xs) ∧ R (Itl K a) H1
theorem pi_list {l : Expr} {tl : TE} (hl : PE X l tl) : PI X tg l (iList X.K tl) := by
 intro pins s σ H R I h
 refine thn (hl pins s σ H _ I h) fun v s1 ⟨x, H1, I1, r1, q1⟩ => ?_
 obtain ⟨a, e, ⟨xs, hq⟩, q⟩ := q1
 subst e
 cases r1
 obtain ⟨its, rv, p, hz⟩ := I1.list hq
 refine wpAny_pyIter_list p.isList ?_
 refine ⟨s1.heap.objs.size, [s1.heap.objs.size], _, _, H1, rfl, I1.kept (t' := s1.toks) fun b o e => Heap.get?_push_of_some _ e, turn_list a _, ⟨_, Heap.get?_push_size _ rfl, rfl, rfl⟩, fun b hb => ?_, q⟩
 have e : b = s1.heap.objs.size := by simpa using hb
 subst e
 exact I1.fpOk (Nat.le_refl _) (I1.hok.fresh (Nat.le_refl _))
theorem range_it {pins : List (Addr × Obj)} {σ : St} {H : Hp} {s : Shared} {R : It → Hp → Prop} {E : Value → Shared → Prop} {lo hi : Int} {t u v : Tok} {tk : Nat} (I : Inv X pins σ H s) (h1 : -(2 ^ 62) ≤ lo) (h2 : lo < 2 ^ 62) (h3 : -(2 ^ 62) ≤ hi) (h4 : hi < 2 ^ 62)
  (q : R (Itr lo (hi - lo).toNat) H) : wpAny (model X.prog X.w) X.A (pyIter (.ref s.heap.objs.size)) (PIE X pins σ tg R) E { s with heap := s.heap.push { cls := .type "range", data := .fields #[.int lo t, .int hi u, .int 1 v] }, toks := tk } := by
 refine wpAny_pyIter_range (IsRange.new ..) (small_one h1 h2 h3 h4) ?_
 have I1 : Inv X pins σ H { s with heap := s.heap.push { cls := .type "range", data := .fields #[.int lo t, .int hi u, .int 1 v] }, toks := tk } := I.kept fun b o e => Heap.get?_push_of_some _ e
 refine ⟨(s.heap.push { cls := .type "range", data := .fields #[.int lo t, .int hi u, .int 1 v] }).objs.size, [(s.heap.push { cls := .type "range", data := .fields #[.int lo t, .int hi u, .int 1 v] }).objs.size], _, _, H, rfl,
  I1.kept (t' := tk) fun b o e => Heap.get?_push_of_some _ e, turn_range _ lo (hi - lo).toNat, ?_, fun b hb => ?_, q⟩
 ·have e1 : lo + ((0 : Nat) : Int) * 1 = lo := by simp
  have e2 : (((hi - lo).toNat : Nat) : Int) - ((0 : Nat) : Int) = Builtin.Range.rangeSize lo hi 1 := by rw [rangeSize_one]; split <;> omega
  show IsRangeIter _ _ (lo + ((0 : Nat) : Int) * 1) ((((hi - lo).toNat : Nat) : Int) - ((0 : Nat) : Int)) 1
  rw [e1, e2]
  exact Heap.get?_push_size _ rfl
 ·have e : b = (s.heap.push { cls := .type "range", data := .fields #[.int lo t, .int hi u, .int 1 v] }).objs.size := by simpa using hb
  subst e
  exact I1.fpOk (Nat.le_refl _) (I1.hok.fresh (Nat.le_refl _))
noncomputable def iRng1 (ta : TA) : TI := fun σ H R => ta σ H fun vs H1 => ∃ j : Int, vs = [.int j] ∧ -(2 ^ 62) ≤ j ∧ j < 2 ^ 62 ∧ R (Itr 0 j.toNat) H1
theorem pi_range1 {a : Expr} {ta : TA} {p pos : Pos} (hg : Gl X "range") (hm : X.mg "range" = none) (ha : PA X [a] ta) (hs : starEach [a] X.env = [(false, eval a X.env)] := by rfl) : PI X tg (.Call (.Name "range" p) [a] [] pos) (iRng1 ta) := by
 intro pins s σ H R I h
 refine Call_ (ld_blt I hg hm boot_range (PyProof.Rows.callWith_type1 (thn (ha pos pins s σ H _ I h) fun us s1 ⟨vs, H1, I1, r1, q1⟩ => ?_) hs rfl))
 obtain ⟨j, e, q1, q2, q⟩ := q1
 subst e
 cases r1 with
 | cons r rr =>
  cases rr
  obtain ⟨t, rfl⟩ := r
  exact call_range_1 (range_it I1 (by omega) (by omega) q1 q2 (by simpa using q))
noncomputable def tFor (wi : TI) (g : TG) (tb : TS) : TS := fun D σ H => wi σ H fun J H1 => ∃ W : Nat → Nat → St → Hp → Prop, (∃ m, W 0 m σ H1) ∧ ∀ i m σ H, W i m σ H →
 (J.stop i H ∧ D.nx σ H) ∨ (J.go i H ∧ ∃ N : St → Hp → Prop, (∀ σ' H', N σ' H' → ∃ m', m' < m ∧ W (i + 1) m' σ' H') ∧ ∀ x H', J.yld i H x H' → g x σ H' fun σ2 H2 => tb { D with nx := N, ct := N, bk := D.nx } σ2 H2)
noncomputable def pinsAt (fp : List Addr) (h : Heap) : List (Addr × Obj) := fp.filterMap fun b => (h.get? b).map fun o => (b, o)
theorem mem_pinsAt {fp : List Addr} {h : Heap} {b : Addr} {o : Obj} (hb : b ∈ fp) (e : h.get? b = some o) : (b, o) ∈ pinsAt fp h := List.mem_filterMap.mpr ⟨b, hb, by rw [e]; rfl⟩
theorem of_pinsAt {fp : List Addr} {h : Heap} {p : Addr × Obj} (hp : p ∈ pinsAt fp h) : p.1 ∈ fp ∧ h.get? p.1 = some p.2 := by
 obtain ⟨b, hb, e⟩ := List.mem_filterMap.mp hp
 cases q : h.get? b with
 | none => rw [q] at e; cases e
 | some o =>
  rw [q] at e
  have e' : (b, o) = p := Option.some.inj e
  subst e'
  exact ⟨hb, q⟩
theorem Inv.pinned {pins : List (Addr × Obj)} {σ : St} {H : Hp} {s : Shared} {fp : List Addr} (I : Inv X pins σ H s) (hf : ∀ b ∈ fp, FpOk X pins H b) (ho : ∀ b ∈ fp, ∃ o, s.heap.get? b = some o ∧ ∀ v, o.data ≠ .cell v) : Inv X (pins ++ pinsAt fp s.heap) σ H s :=
 I.pins_of fun p hp => (List.mem_append.mp hp).elim (fun z => I.pin p (List.mem_append_right _ z)) fun z => by
  obtain ⟨hb, e⟩ := of_pinsAt z
  obtain ⟨f0, f1, f2, _⟩ := hf p.1 hb
  obtain ⟨o, e', d⟩ := ho p.1 hb
  rw [e] at e'; cases e'
  exact ⟨e, f0, f1, f2, d⟩
theorem Inv.unpinned {pins pl : List (Addr × Obj)} {σ : St} {H : Hp} {s : Shared} (I : Inv X (pins ++ pl) σ H s) : Inv X pins σ H s := I.pins_of fun p hp => I.pin p (List.mem_append_right _ (List.mem_append_left _ hp))
theorem ps_for {iter : Expr} {body : List Stmt} {wi : TI} {g : TG} {tb : TS} {pos : Pos} (hp : PassesOwn (model X.prog X.w) X.A X.env X.xe) (hc : X.calm = true) (hi : PI X tg iter wi) (hg : PG X tg g) (hb : PSs X body tb)
  (hs : ∀ x, foldedSetIterable iter X.env x = pure x := by intro _; rfl) : PS X (.For tg iter body [] pos) (tFor wi g tb) := by
 intro pins s σ H D I h
 refine wpAny_For (thn (hi pins s σ H _ I h) fun v s1 h1 => thn h1 fun itv s2 h2 => ?_) hs
 obtain ⟨it, fp, tn, J, H2, e, I2, T, st2, f2, W, ⟨m0, w0⟩, turn⟩ := h2
 subst e
 have stat : ∀ {H' : Hp}, (∀ b ∈ fp, H' b = none) → ∀ b ∈ fp, FpOk X pins H' b := fun hn b hb => ⟨hn b hb, (f2 b hb).2⟩
 refine codeAny_forLoop_any (fun n s' => ∃ i σ' H', Inv X pins σ' H' s' ∧ tn i s'.heap ∧ (∀ b ∈ fp, H' b = none) ∧ W i n σ' H') ?_ m0 ⟨0, σ, H2, I2, st2, fun b hb => (f2 b hb).1, w0⟩
 rintro n s3 ⟨i, σ3, H3, I3, st3, fr3, w3⟩
 rcases turn i n σ3 H3 w3 with ⟨stop, qn⟩ | ⟨go, N, hN, step⟩
 ·refine wpAny_passesOwn hp (thn (T.done X rfl rfl rfl hc i pins s3 σ3 H3 X.xe I3 (stat fr3) st3 stop) fun r s4 ⟨hr, I4⟩ => ?_)
  subst hr
  exact wpAny_execs_nil ⟨σ3, H3, I4, qn⟩
 ·refine wpAny_passesOwn hp (thn (T.item X rfl rfl rfl hc i pins s3 σ3 H3 X.xe I3 (stat fr3) st3 go) fun r s4 ⟨u, hr, h4⟩ => ?_)
  subst hr
  refine wpAny_passesOwn hp (thn h4 fun _ s5 ⟨x, H5, I5, r5, y5, st5, fr5⟩ => ?_)
  have I5' := I5.pinned (stat fr5) (T.obj _ _ st5)
  refine wpAny_passesOwn hp (thn (hg _ s5 σ3 H5 x u _ I5' r5 (step x H5 y5)) fun _ s6 ⟨σ6, H6, I6, q6⟩ => ?_)
  refine wpAny_passesOwn hp (thn (hb _ s6 σ6 H6 _ I6 q6) fun f s7 q7 => ?_)
  have again : ∀ {σ7 : St} {H7 : Hp}, Inv X (pins ++ pinsAt fp s5.heap) σ7 H7 s7 → N σ7 H7 → ∃ m, m < n ∧ ∃ i σ' H', Inv X pins σ' H' s7 ∧ tn i s7.heap ∧ (∀ b ∈ fp, H' b = none) ∧ W i m σ' H' := fun {σ7 H7} I7 n7 => by
   obtain ⟨m', hm, w7⟩ := hN σ7 H7 n7
   refine ⟨m', hm, i + 1, σ7, H7, I7.unpinned, T.keep _ _ _ st5 fun b hb o e => (I7.pin (b, o) (List.mem_append_right _ (List.mem_append_right _ (mem_pinsAt hb e)))).1, fun b hb => ?_, w7⟩
   obtain ⟨o, e, d⟩ := T.obj _ _ st5 b hb
   exact (I7.pin (b, o) (List.mem_append_right _ (List.mem_append_right _ (mem_pinsAt hb e)))).2.1
  cases f with
  | next => obtain ⟨σ7, H7, I7, n7⟩ := q7; exact again I7 n7
  | cont => obtain ⟨σ7, H7, I7, n7⟩ := q7; exact again I7 n7
  | brk => obtain ⟨σ7, H7, I7, q7⟩ := q7; exact ⟨σ7, H7, I7.unpinned, q7⟩
  | ret v => obtain ⟨x7, σ7, H7, I7, r7, q7⟩ := q7; exact ⟨x7, σ7, H7, I7.unpinned, r7, q7⟩
end
end L2
namespace L2
open PySem PySem.Spec PyProof.Rows
noncomputable abbrev R2 := V → V → Hp → VK → Prop
noncomputable def OpR (X : Cx) (f : Value → Value → Sem Value) (r : R2) : Prop :=
 ∀ (pins : List (Addr × Obj)) (s : Shared) (σ : St) (H : Hp) (x y : V) (v u : Value) (Q : VK), Inv X pins σ H s → RelV x v → RelV y u → r x y H Q →
  wpAny (model X.prog X.w) X.A (f v u) (EP X pins σ Q) X.xe s
noncomputable def UnR (X : Cx) (f : Value → Sem Value) (r : V → Hp → VK → Prop) : Prop :=
 ∀ (pins : List (Addr × Obj)) (s : Shared) (σ : St) (H : Hp) (x : V) (v : Value) (Q : VK), Inv X pins σ H s → RelV x v → r x H Q →
  wpAny (model X.prog X.w) X.A (f v) (EP X pins σ Q) X.xe s
noncomputable def CallR (X : Cx) (f : Value) (r : List V → Hp → VK → Prop) : Prop :=
 ∀ (pins : List (Addr × Obj)) (s : Shared) (σ : St) (H : Hp) (xs : List V) (us : List Value) (Q : VK), Inv X pins σ H s → Vals xs us → r xs H Q →
  wpAny (model X.prog X.w) X.A (call f us) (EP X pins σ Q) X.xe s
noncomputable def tOp (r : R2) (ta tb : TE) : TE := fun σ H Q => ta σ H fun x H1 => tb σ H1 fun y H2 => r x y H2 Q
noncomputable def tUn (r : V → Hp → VK → Prop) (ta : TE) : TE := fun σ H Q => ta σ H fun x H1 => r x H1 Q
noncomputable def rI (C : Int → Int → Prop) (g : Int → Int → V) : R2 := fun x y H Q => ∃ i j, x = .int i ∧ y = .int j ∧ C i j ∧ Q (g i j) H
noncomputable def rI0 (g : Int → Int → V) : R2 := fun x y H Q => ∃ i j, x = .int i ∧ y = .int j ∧ Q (g i j) H
noncomputable def rU (g : Int → V) : V → Hp → VK → Prop := fun x H Q => ∃ i, x = .int i ∧ Q (g i) H
section
variable {X : Cx} {a b c : Expr} {ta tb tc : TE} {pos : Pos}
theorem binT (ha : PE X a ta) (hb : PE X b tb) {pins : List (Addr × Obj)} {s : Shared} {σ : St} {H : Hp} {R : V → V → Hp → Prop} (I : Inv X pins σ H s)
  (h : ta σ H fun x H1 => tb σ H1 fun y H2 => R x y H2) {Q : Value → Shared → Prop} {f : Value → Value → Sem Value}
  (hf : ∀ v u s2 x y H2, Inv X pins σ H2 s2 → RelV x v → RelV y u → R x y H2 → wpAny (model X.prog X.w) X.A (f v u) Q X.xe s2) :
  wpAny (model X.prog X.w) X.A (eval a X.env) (fun v s₁ => wpAny (model X.prog X.w) X.A (eval b X.env) (fun u s₂ => wpAny (model X.prog X.w) X.A (f v u) Q X.xe s₂) X.xe s₁) X.xe s := by
 refine thn (ha pins s σ H _ I h) fun v s1 ⟨x, H1, I1, r1, q1⟩ => ?_
 refine thn (hb pins s1 σ H1 _ I1 q1) fun u s2 ⟨y, H2, I2, r2, q2⟩ => ?_
 exact hf v u s2 x y H2 I2 r1 r2 q2
theorem pe_op {op : Operator} {r : R2} (ho : OpR X (binaryOp op) r) (ha : PE X a ta) (hb : PE X b tb) : PE X (.BinOp a op b pos) (tOp r ta tb) := by
 intro pins s σ H Q I h
 exact wpAny_BinOp (binT ha hb I h fun v u s2 x y H2 I2 rx ry q => ho pins s2 σ H2 x y v u Q I2 rx ry q)
theorem pe_un {op : UnaryOp} {r : V → Hp → VK → Prop} (ho : UnR X (unaryOp op) r) (ha : PE X a ta) : PE X (.UnaryOp op a pos) (tUn r ta) := by
 intro pins s σ H Q I h
 exact UnaryOp_ (thn (ha pins s σ H _ I h) fun v s1 ⟨x, H1, I1, r1, q1⟩ => ho pins s1 σ H1 x v Q I1 r1 q1)
theorem opI {f : Value → Value → Sem Value} {C : Int → Int → Prop} {g : Int → Int → Int}
  (rule : ∀ (i j : Int) (t u : Tok) (s : Shared) (Q : Value → Shared → Prop) (E : Value → Shared → Prop), C i j → Q (.int (g i j) s.toks) { s with toks := s.toks + 1 } → wpAny (model X.prog X.w) X.A (f (.int i t) (.int j u)) Q E s) :
  OpR X f (rI C fun i j => .int (g i j)) := by
 intro pins s σ H x y v u Q I rx ry h
 obtain ⟨i, j, rfl, rfl, hc, q⟩ := h
 obtain ⟨t, rfl⟩ := rx
 obtain ⟨t', rfl⟩ := ry
 exact rule i j t t' s _ _ hc ⟨.int (g i j), H, I.tok _, ⟨_, rfl⟩, q⟩
theorem opI0 {f : Value → Value → Sem Value} {g : Int → Int → Int}
  (rule : ∀ (i j : Int) (t u : Tok) (s : Shared) (Q : Value → Shared → Prop) (E : Value → Shared → Prop), Q (.int (g i j) s.toks) { s with toks := s.toks + 1 } → wpAny (model X.prog X.w) X.A (f (.int i t) (.int j u)) Q E s) :
  OpR X f (rI0 fun i j => .int (g i j)) := by
 intro pins s σ H x y v u Q I rx ry h
 obtain ⟨i, j, rfl, rfl, q⟩ := h
 obtain ⟨t, rfl⟩ := rx
 obtain ⟨t', rfl⟩ := ry
 exact rule i j t t' s _ _ ⟨.int (g i j), H, I.tok _, ⟨_, rfl⟩, q⟩
theorem opB0 {f : Value → Value → Sem Value} {g : Int → Int → Bool}
  (rule : ∀ (i j : Int) (t u : Tok) (s : Shared) (Q : Value → Shared → Prop) (E : Value → Shared → Prop), Q (.bool (g i j)) s → wpAny (model X.prog X.w) X.A (f (.int i t) (.int j u)) Q E s) :
  OpR X f (rI0 fun i j => .bl (g i j)) := by
 intro pins s σ H x y v u Q I rx ry h
 obtain ⟨i, j, rfl, rfl, q⟩ := h
 obtain ⟨t, rfl⟩ := rx
 obtain ⟨t', rfl⟩ := ry
 exact rule i j t t' s _ _ ⟨.bl (g i j), H, I, rfl, q⟩
noncomputable def CDiv (i j : Int) : Prop := 0 < j ∧ j < 1073741824
noncomputable def CPow (i j : Int) : Prop := 0 ≤ j ∧ j ≤ 1000000 ∧ i.natAbs < 2 ^ 64
noncomputable def CMul (i j : Int) : Prop := (-(2 ^ 64) < i ∧ i < 2 ^ 64) ∨ (-(2 ^ 64) < j ∧ j < 2 ^ 64)
theorem CMul.ok {i j : Int} (h : CMul i j) : IntMulOk i j := by
 rcases h with ⟨h1, h2⟩ | ⟨h1, h2⟩
 ·exact .of_left (intBits_le_64 h1 h2)
 ·exact .of_right (intBits_le_64 h1 h2)
theorem op_add : OpR X (binaryOp .Add) (rI0 fun i j => .int (i + j)) := opI0 fun _ _ _ _ _ _ _ q => add_int q
theorem op_sub : OpR X (binaryOp .Sub) (rI0 fun i j => .int (i - j)) := opI0 fun _ _ _ _ _ _ _ q => sub_int q
theorem op_mul : OpR X (binaryOp .Mult) (rI CMul fun i j => .int (i * j)) := opI fun _ _ _ _ _ _ _ hc q => mul_int q hc.ok
theorem op_fdiv : OpR X (binaryOp .FloorDiv) (rI CDiv fun i j => .int (i / j)) := opI fun i j _ _ _ _ _ hc q => by
 have h1 : (0 : Int) < j := hc.1
 have h2 : j < 1073741824 := hc.2
 exact floordiv_int (by omega) (by rw [Int.fdiv_eq_ediv_of_nonneg i (by omega)]; exact q) (.inl (PyProof.noPylong_small (by omega)))
theorem op_mod : OpR X (binaryOp .Mod) (rI (fun _ j => 0 < j) fun i j => .int (i % j)) := opI fun i j _ _ _ _ _ hc q => by
 have h1 : (0 : Int) < j := hc
 exact mod_int' (by omega) (by rw [Int.fmod_eq_emod_of_nonneg i (by omega)]; exact q)
theorem op_pow : OpR X (binaryOp .Pow) (rI CPow fun i j => .int (i ^ j.toNat)) := opI fun _ _ _ _ _ _ _ hc q => pow_int_small hc.1 hc.2.1 hc.2.2 q
theorem unI {f : Value → Sem Value} {g : Int → Int}
  (rule : ∀ (i : Int) (t : Tok) (s : Shared) (Q : Value → Shared → Prop) (E : Value → Shared → Prop), Q (.int (g i) s.toks) { s with toks := s.toks + 1 } → wpAny (model X.prog X.w) X.A (f (.int i t)) Q E s) :
  UnR X f (rU fun i => .int (g i)) := by
 intro pins s σ H x v Q I rx h
 obtain ⟨i, rfl, q⟩ := h
 obtain ⟨t, rfl⟩ := rx
 exact rule i t s _ _ ⟨.int (g i), H, I.tok _, ⟨_, rfl⟩, q⟩
theorem un_neg : UnR X (unaryOp .USub) (rU fun i => .int (-i)) := unI fun _ _ _ _ _ q => neg_int q
end
noncomputable def scal : V → V → Bool
 | .non, .non => true | .non, .int _ => true | .int _, .non => true | .non, .bl _ => true | .bl _, .non => true | .non, .str _ => true | .str _, .non => true
 | .int _, .int _ => true | .bl _, .bl _ => true | .str _, .str _ => true | .byt _, .byt _ => true
 | .int _, .str _ => true | .str _, .int _ => true | .bl _, .str _ => true | .str _, .bl _ => true
 | _, _ => false
noncomputable def rEq : R2 := fun x y H Q => scal x y = true ∧ Q (.bl (decide (x = y))) H
noncomputable def rNe : R2 := fun x y H Q => scal x y = true ∧ Q (.bl (!decide (x = y))) H
theorem dec_int {i j : Int} : decide (V.int i = V.int j) = (i == j) := by
 rw [Bool.eq_iff_iff]
 simp
theorem dec_bl {i j : Bool} : decide (V.bl i = V.bl j) = (i == j) := by
 rw [Bool.eq_iff_iff]
 simp
theorem dec_str {i j : Str} : decide (V.str i = V.str j) = (i == j) := by
 rw [Bool.eq_iff_iff]
 simp
theorem dec_byt {i j : Array UInt8} : decide (V.byt i = V.byt j) = (i.toList == j.toList) := by
 rw [Bool.eq_iff_iff]
 cases i
 cases j
 simp
section
variable {X : Cx} {a b c : Expr} {ta tb tc : TE} {pos : Pos}
theorem fin_bl {pins : List (Addr × Obj)} {σ : St} {H : Hp} {s : Shared} {Q : VK} {k k' : Bool} (I : Inv X pins σ H s) (q : Q (.bl k) H) (e : k = k') : EP X pins σ Q (.bool k') s := by
 subst e
 exact ⟨.bl k, H, I, rfl, q⟩
theorem op_eq : OpR X (compareOp .Eq) rEq := by
 intro pins s σ H x y v u Q I rx ry h
 obtain ⟨hs, q⟩ := h
 cases x with
 | non =>
  cases rx
  cases y with
  | non => cases ry; exact PySem.EqNone.eq_none_none (fin_bl I q (by simp))
  | bl j => cases ry; exact PySem.EqNone.eq_none_bool (fin_bl I q (by simp))
  | int j => obtain ⟨t', rfl⟩ := ry; exact PySem.EqNone.eq_none_int (fin_bl I q (by simp))
  | str j => obtain ⟨t', rfl⟩ := ry; exact PySem.EqNone.eq_none_str (fin_bl I q (by simp))
  | _ => exact absurd (show false = true from hs) Bool.false_ne_true
 | bl i =>
  cases rx
  cases y with
  | non => cases ry; exact PySem.EqNone.eq_bool_none (fin_bl I q (by simp))
  | bl j => cases ry; exact eq_bool (fin_bl I q dec_bl)
  | str j => obtain ⟨t', rfl⟩ := ry; exact PySem.EqMixed.eq_bool_str (fin_bl I q (by simp))
  | _ => exact absurd (show false = true from hs) Bool.false_ne_true
 | int i =>
  obtain ⟨t, rfl⟩ := rx
  cases y with
  | non => cases ry; exact PySem.EqNone.eq_int_none (fin_bl I q (by simp))
  | int j => obtain ⟨t', rfl⟩ := ry; exact eq_int (fin_bl I q dec_int)
  | str j => obtain ⟨t', rfl⟩ := ry; exact PySem.EqMixed.eq_int_str (fin_bl I q (by simp))
  | _ => exact absurd (show false = true from hs) Bool.false_ne_true
 | str i =>
  obtain ⟨t, rfl⟩ := rx
  cases y with
  | non => cases ry; exact PySem.EqNone.eq_str_none (fin_bl I q (by simp))
  | bl j => cases ry; exact PySem.EqMixed.eq_str_bool (fin_bl I q (by simp))
  | int j => obtain ⟨t', rfl⟩ := ry; exact PySem.EqMixed.eq_str_int (fin_bl I q (by simp))
  | str j => obtain ⟨t', rfl⟩ := ry; exact eq_str (fin_bl I q dec_str)
  | _ => exact absurd (show false = true from hs) Bool.false_ne_true
 | byt i =>
  obtain ⟨t, rfl⟩ := rx
  cases y with
  | byt j => obtain ⟨t', rfl⟩ := ry; exact PySem.W.eq_bytes (fin_bl I q dec_byt)
  | _ => exact absurd (show false = true from hs) Bool.false_ne_true
 | _ => cases y <;> exact absurd (show false = true from hs) Bool.false_ne_true
theorem op_ne : OpR X (compareOp .NotEq) rNe := by
 intro pins s σ H x y v u Q I rx ry h
 obtain ⟨hs, q⟩ := h
 cases x with
 | non =>
  cases rx
  cases y with
  | non => cases ry; exact PySem.EqNone.ne_none_none (fin_bl I q (by simp))
  | bl j => cases ry; exact PySem.EqNone.ne_none_bool (fin_bl I q (by simp))
  | int j => obtain ⟨t', rfl⟩ := ry; exact PySem.EqNone.ne_none_int (fin_bl I q (by simp))
  | str j => obtain ⟨t', rfl⟩ := ry; exact PySem.EqNone.ne_none_str (fin_bl I q (by simp))
  | _ => exact absurd (show false = true from hs) Bool.false_ne_true
 | bl i =>
  cases rx
  cases y with
  | non => cases ry; exact PySem.EqNone.ne_bool_none (fin_bl I q (by simp))
  | bl j => cases ry; exact ne_bool (fin_bl I q (congrArg not dec_bl))
  | str j => obtain ⟨t', rfl⟩ := ry; exact PySem.EqMixed.ne_bool_str (fin_bl I q (by simp))
  | _ => exact absurd (show false = true from hs) Bool.false_ne_true
 | int i =>
  obtain ⟨t, rfl⟩ := rx
  cases y with
  | non => cases ry; exact PySem.EqNone.ne_int_none (fin_bl I q (by simp))
  | int j => obtain ⟨t', rfl⟩ := ry; exact ne_int (fin_bl I q (congrArg not dec_int))
  | str j => obtain ⟨t', rfl⟩ := ry; exact PySem.EqMixed.ne_int_str (fin_bl I q (by simp))
  | _ => exact absurd (show false = true from hs) Bool.false_ne_true
 | str i =>
  obtain ⟨t, rfl⟩ := rx
  cases y with
  | non => cases ry; exact PySem.EqNone.ne_str_none (fin_bl I q (by simp))
  | bl j => cases ry; exact PySem.EqMixed.ne_str_bool (fin_bl I q (by simp))
  | int j => obtain ⟨t', rfl⟩ := ry; exact PySem.EqMixed.ne_str_int (fin_bl I q (by simp))
  | str j => obtain ⟨t', rfl⟩ := ry; exact ne_str (fin_bl I q (congrArg not dec_str))
  | _ => exact absurd (show false = true from hs) Bool.false_ne_true
 | byt i =>
  obtain ⟨t, rfl⟩ := rx
  cases y with
  | byt j => obtain ⟨t', rfl⟩ := ry; exact PySem.W.ne_bytes (fin_bl I q (congrArg not dec_byt))
  | _ => exact absurd (show false = true from hs) Bool.false_ne_true
 | _ => cases y <;> exact absurd (show false = true from hs) Bool.false_ne_true
theorem op_lt : OpR X (compareOp .Lt) (rI0 fun i j => .bl (decide (i < j))) := opB0 fun _ _ _ _ _ _ _ q => lt_int q
theorem op_gt : OpR X (compareOp .Gt) (rI0 fun i j => .bl (decide (j < i))) := opB0 fun _ _ _ _ _ _ _ q => gt_int q
theorem op_isN : OpR X (compareOp .Is) (fun x y H Q => y = .non ∧ Q (.bl (decide (x = .non))) H) := by
 intro pins s σ H x y v u Q I rx ry h
 obtain ⟨rfl, q⟩ := h
 cases ry
 refine is_none_gen (fin_bl I q ?_)
 cases x <;> first
  | (cases rx; rfl)
  | (obtain ⟨t, rfl⟩ := rx; rfl)
theorem pe_cmpR {op : CmpOp} {r : R2} (ho : OpR X (compareOp op) r) (ha : PE X a ta) (hb : PE X b tb) (hm : behindInMarks op b = false) : PE X (.Compare a [op] [b] pos) (tOp r ta tb) := by
 intro pins s σ H Q I h
 exact wpAny_Compare1 (binT ha hb I h fun v u s2 x y H2 I2 rx ry q => ho pins s2 σ H2 x y v u Q I2 rx ry q) hm
noncomputable def tTest (t : TE) : TT := fun σ H Q => t σ H fun x H' => ∃ k, x = .bl k ∧ Q k H'
theorem pt_cmpR {op : CmpOp} {r : R2} (ho : OpR X (compareOp op) r) (ha : PE X a ta) (hb : PE X b tb) (hm : behindInMarks op b = false) : PT X (.Compare a [op] [b] pos) (tTest (tOp r ta tb)) := by
 intro pins s σ H Q I h
 refine wpAny_isTrue_Compare1 (thn (ha pins s σ H _ I h) fun v s1 ⟨x, H1, I1, r1, q1⟩ => thn (hb pins s1 σ H1 _ I1 q1) fun u s2 ⟨y, H2, I2, r2, q2⟩ =>
  thn (ho pins s2 σ H2 x y v u _ I2 r1 r2 q2) fun c s3 ⟨z, H3, I3, r3, k, e, q3⟩ => ?_) hm
 subst e
 cases r3
 exact wpAny_truthy_bool ⟨H3, I3, q3⟩
theorem line63 : (sizeLine : Nat) < 2 ^ 63 := by rw [sizeLine_eq]; decide
theorem op_add_str : OpR X (binaryOp .Add) (fun x y H Q => ∃ i j, x = .str i ∧ y = .str j ∧ i.length + j.length ≤ sizeLine ∧ Q (.str (i ++ j)) H) := by
 intro pins s σ H x y v u Q I rx ry h
 obtain ⟨i, j, rfl, rfl, hz, q⟩ := h
 obtain ⟨t, rfl⟩ := rx
 obtain ⟨t', rfl⟩ := ry
 exact add_str (fun t' tk => ⟨.str (i ++ j), H, I.tok _, ⟨_, rfl⟩, q⟩) hz
theorem vals1 {x : V} {us : List Value} (r : Vals [x] us) : ∃ u, us = [u] ∧ RelV x u := by
 cases r with
 | cons r1 r2 => cases r2; exact ⟨_, rfl, r1⟩
theorem vals2 {x y : V} {us : List Value} (r : Vals [x, y] us) : ∃ u w', us = [u, w'] ∧ RelV x u ∧ RelV y w' := by
 cases r with
 | cons r1 r2 =>
  cases r2 with
  | cons r3 r4 => cases r4; exact ⟨_, _, rfl, r1, r3⟩
theorem call_max2 (hc : X.calm = true) : CallR X (.builtin "max") (fun xs H Q => ∃ i j, xs = [.int i, .int j] ∧ Q (.int (if j > i then j else i)) H) := by
 intro pins s σ H xs us Q I r h
 obtain ⟨i, j, rfl, q⟩ := h
 obtain ⟨u, w', rfl, ⟨t, rfl⟩, ⟨t', rfl⟩⟩ := vals2 r
 refine max_two_ints (I.ok.hd hc) fun h' tk k => ⟨_, H, I.kept k, ?_, q⟩
 by_cases hj : j > i
 ·rw [if_pos hj, if_pos hj]; exact ⟨_, rfl⟩
 ·rw [if_neg hj, if_neg hj]; exact ⟨_, rfl⟩
end
end L2
namespace L2
open PySem PySem.Spec PyProof.Rows
structure ObjM (h : Heap) (x dx C : Addr) (mA : Str → Option Value) : Prop where
 obj : h.get? x = some (PySem.W.instObj C dx)
 ns : h.Ns1 dx mA
 ne : dx ≠ x
theorem lookIn_ns {h : Heap} {dx : Addr} {mA : Str → Option Value} (n : h.Ns1 dx mA) : ∃ od, h.get? dx = some od ∧ ∀ name, PySem.W.lookIn name od = some (mA name) := by
 obtain ⟨o, es, ep, ho, hd, hk, _, hm⟩ := n
 refine ⟨o, ho, fun name => ?_⟩
 have e := hm name
 unfold nsFind findBy at e
 rw [← Array.find?_toList] at e
 unfold PySem.W.lookIn
 rw [hd]
 dsimp only
 split
 ·rename_i y q
  rw [q] at e
  exact congrArg some e
 ·rename_i q
  rw [q] at e
  have a : es.toList.any (·.refKey) = false := by
   rw [List.any_eq_false]
   intro y hy
   obtain ⟨z, t, hkey⟩ := hk y (Array.mem_toList_iff.mp hy)
   simp [DictEntry.refKey, hkey]
  have a' : ¬ es.toList.any (·.refKey) = true := by rw [a]; exact Bool.false_ne_true
  rw [if_neg a']
  exact congrArg some e
theorem ObjM.look {h : Heap} {x dx C : Addr} {mA : Str → Option Value} (I : ObjM h x dx C mA) : ∃ od, PySem.W.InstAt h x (PySem.W.instObj C dx) C (some od) ∧ ∀ name, PySem.W.lookIn name od = some (mA name) :=
 let ⟨od, ho, hl⟩ := lookIn_ns I.ns
 ⟨od, ⟨I.obj, rfl, rfl, ho⟩, hl⟩
section
variable {prog : Program} {w : World} {A : Around} {E : Value → Shared → Prop} {s : Shared} {K : PySem.W.Frag} {x dx C f : Addr} {mA : Str → Option Value} {name : Str} {v : Value}
end
theorem RelO.some_of {v : V} {o : Option Value} (r : RelO (some v) o) : ∃ u, o = some u ∧ RelV v u := by
 cases o with
 | none => exact (show False from r).elim
 | some u => exact ⟨u, rfl, r⟩
section
variable {P : Program} {w : World} {H H' : Hp} {h h' : Heap} {a C dx : Addr} {fs fs' : List (Str × V)}
theorem ins_get (hok : HOk P w H h) (e : H a = some (.ins C dx fs)) : ∃ mA, ObjM h a dx C mA ∧ (∀ f, RelO (fs.lookup f) (mA f)) ∧ PySem.Within mA (fs.map (·.1)) ∧ fs.length ≤ 1000 ∧ H dx = some (.own a) := by
 obtain ⟨d, z, ne, ob, mA, n, r, q⟩ := (show ObjOk P w H h a (.ins C dx fs) from hok a _ e)
 exact ⟨mA, ⟨ob, n, ne⟩, r, q, z, d⟩
end
structure Cls (K : PySem.W.Frag) (C : Addr) : Prop where
 pg : PySem.W.plainGet K C Str.empty = true
 hd : PySem.W.hasDictIn K C = true
 po : PySem.W.plainOver K C = true
 sa : PySem.W.findIn K (.ref C) "__setattr__" = some (some (.builtin "object.__setattr__"))
theorem Cls.get {K : PySem.W.Frag} {C : Addr} (c : Cls K C) (f : Str) : PySem.W.plainGet K C f = true := c.pg
section
variable {X : Cx} {pins : List (Addr × Obj)} {σ : St} {H : Hp} {s : Shared} {a C dx : Addr} {fs : List (Str × V)} {f : Str} {v : V} {A : Around} {E : Value → Shared → Prop}
end
section
variable {X : Cx} {o e value : Expr} {f : Str} {pos pos' tpos : Pos} {ta tv : TE}
end
section
variable {X : Cx} {pins : List (Addr × Obj)} {σ : St} {H : Hp} {s : Shared} {A : Around} {E : Value → Shared → Prop} {Q : Value → Shared → Prop} {c : Value} {b : Bool}
inductive TyOf (K : PySem.W.Frag) (H : Hp) : V → Value → Prop where
 | non : TyOf K H .non (.type "NoneType")
 | bl (x : Bool) : TyOf K H (.bl x) (.type "bool")
 | int (i : Int) : TyOf K H (.int i) (.type "int")
 | str (x : Str) : TyOf K H (.str x) (.type "str")
 | flt (x : UInt64) : TyOf K H (.flt x) (.type "float")
 | lst {a : Addr} {xs : List V} (e : H a = some (.lst xs)) : TyOf K H (.ref a) (.type "list")
 | frz {a : Addr} {o : Obj} {xs : List V} (e : H a = some (.frz o (.lst xs))) : TyOf K H (.ref a) (.type "list")
 | tup {a : Addr} {xs : List V} (e : H a = some (.tup xs)) : TyOf K H (.ref a) (.type "tuple")
 | dK {a : Addr} {kvs : List (Key × V)} (e : H a = some (.dK kvs)) : TyOf K H (.ref a) (.type "dict")
 | dT {a : Addr} {kvs : List (List Key × V)} (e : H a = some (.dT kvs)) : TyOf K H (.ref a) (.type "dict")
 | ins {a C dx : Addr} {fs : List (Str × V)} (e : H a = some (.ins C dx fs)) (cl : Cls K C) (ha : PySem.W.findIn K (.ref C) "__class__" = some (some (.builtin "object.__class__")))
   (hn : PySem.W.specialIn K (.builtin "object.__class__") "__get__" = some (some (.builtin "getset_descriptor.__get__"))) (htk : PySem.W.takesIn K (.builtin "object.__class__") = some true)
   (hm : PySem.W.mroIn K C (.type "object") = some true) : TyOf K H (.ref a) (.ref C)
theorem isinst_ok {x : V} {u t : Value} (I : Inv X pins σ H s) (rx : RelV x u) (ty : TyOf X.K H x t) (e : PySem.W.kitOne X.K t c = some b) (h : ∀ tk, Q (.bool b) { s with toks := tk }) :
  wpAny (model X.prog X.w) A (call (.builtin "isinstance") [u, c]) Q E s := by
 cases ty with
 | non => cases (show u = Value.none from rx); exact PySem.W.kia_one PySem.W.kitx_none I.kIn True.intro e (fun z => nomatch z) h
 | bl y => cases (show u = Value.bool y from rx); exact PySem.W.kia_one PySem.W.kitx_bool I.kIn True.intro e (fun z => nomatch z) h
 | int i => obtain ⟨t, q⟩ := (show ∃ t, u = Value.int i t from rx); cases q; exact PySem.W.kia_one PySem.W.kitx_int I.kIn True.intro e (fun z => nomatch z) h
 | str y => obtain ⟨t, q⟩ := (show ∃ t, u = Value.str y t from rx); cases q; exact PySem.W.kia_one PySem.W.kitx_str I.kIn True.intro e (fun z => nomatch z) h
 | flt y => obtain ⟨t, q⟩ := (show ∃ t, u = Value.float y t from rx); cases q; exact PySem.W.kia_one PySem.W.kitx_float I.kIn True.intro e (fun z => nomatch z) h
 | @lst a xs ea =>
  cases (show u = Value.ref a from rx)
  obtain ⟨_, _, n, _, h1⟩ := (show ObjOk X.prog X.w H s.heap a (.lst xs) from I.hok a _ ea)
  exact PySem.W.kia_one PySem.W.kitx_list I.kIn ⟨_, h1, rfl⟩ e (fun z => nomatch z) h
 | @frz a ob xs ea =>
  cases (show u = Value.ref a from rx)
  obtain ⟨_, _, _, n, _, h1⟩ := (show ObjOk X.prog X.w H s.heap a (.frz ob (.lst xs)) from I.hok a _ ea)
  exact PySem.W.kia_one PySem.W.kitx_list I.kIn ⟨_, h1, rfl⟩ e (fun z => nomatch z) h
 | @tup a xs ea =>
  cases (show u = Value.ref a from rx)
  obtain ⟨_, _, _, p⟩ := (show ObjOk X.prog X.w H s.heap a (.tup xs) from I.hok a _ ea)
  obtain ⟨o, h1, h2, _⟩ := p
  exact PySem.W.kia_one PySem.W.kitx_tuple I.kIn ⟨o, h1, h2⟩ e (fun z => nomatch z) h
 | @dK a kvs ea =>
  cases (show u = Value.ref a from rx)
  obtain ⟨_, _, vs, _, p⟩ := (show ObjOk X.prog X.w H s.heap a (.dK kvs) from I.hok a _ ea)
  obtain ⟨o, es, ep, h1, h2, _⟩ := p
  exact PySem.W.kia_one PySem.W.kitx_dict I.kIn ⟨o, h1, h2.1⟩ e (fun z => nomatch z) h
 | @dT a kvs ea =>
  cases (show u = Value.ref a from rx)
  obtain ⟨_, _, xs, _, o, es, ep, h1, h2, _⟩ := (show ObjOk X.prog X.w H s.heap a (.dT kvs) from I.hok a _ ea)
  exact PySem.W.kia_one PySem.W.kitx_dict I.kIn ⟨o, h1, h2.1⟩ e (fun z => nomatch z) h
 | @ins a C dx fs ea cl ha hn htk hm =>
  cases (show u = Value.ref a from rx)
  obtain ⟨mA, O, _⟩ := ins_get I.hok ea
  obtain ⟨od, J, _⟩ := O.look
  exact PySem.W.kia_one (PySem.W.kitx_own (cl.get _) cl.hd ha hn htk hm) I.kIn J e (fun z => nomatch z) h
end
end L2
namespace L2
open PySem PySem.Spec PyProof.Rows
structure Room (k : Nat) (A : Around) : Prop where
 hd : A.handled = none
 dp : A.depth + 3 * k + 5 < recursionLimit
 un : A.units + 16 * k + 200 < cLine
theorem Room.mono {j k : Nat} {A : Around} (r : Room k A) (h : j ≤ k) : Room j A := ⟨r.hd, by have := r.dp; omega, by have := r.un; omega⟩
theorem Room.deeper {k : Nat} {A : Around} (r : Room (k + 1) A) (env : Env) : Room k (A.deeper env) :=
 ⟨r.hd, by have := r.dp; show A.depth + 1 + 3 * k + 5 < _; omega, by have := r.un; show A.units + 3 + 16 * k + 200 < _; omega⟩
theorem Room.depth {k : Nat} {A : Around} (r : Room k A) : A.depth < recursionLimit := by have := r.dp; omega
noncomputable def tNil : TA := fun _ H Q => Q [] H
noncomputable def tCons (ta : TE) (tr : TA) : TA := fun σ H Q => ta σ H fun x H1 => tr σ H1 fun xs H2 => Q (x :: xs) H2
section
variable {X : Cx} {e : Expr} {es : List Expr} {te : TE} {t : TA} {pos : Pos}
theorem pa_nil : PA X [] tNil := fun _ _ _ _ H Q I h => Calls.spliced_nil ⟨[], H, I, .nil, h⟩
theorem pa_cons (ha : PE X e te) (hr : PA X es t) (hs : starEach (e :: es) X.env = (false, eval e X.env) :: starEach es X.env := by rfl) : PA X (e :: es) (tCons te t) := by
 intro pos pins s σ H Q I h
 rw [hs]
 show wpAny _ _ (spliced ((false, eval e X.env) :: backTo pos (starEach es X.env))) _ _ s
 refine Calls.spliced_cons (thn (ha pins s σ H _ I h) fun u s1 ⟨x, H1, I1, r1, q1⟩ => ?_)
 exact thn (hr pos pins s1 σ H1 _ I1 q1) fun us s2 ⟨xs, H2, I2, r2, q2⟩ => ⟨x :: xs, H2, I2, .cons r1 r2, q2⟩
noncomputable def tTup (t : TA) : TE := fun σ H Q => t σ H fun xs H1 => xs.length ≤ sizeLine ∧ ∀ p, H1 p = none → Q (.ref p) (upd H1 p (.tup xs))
noncomputable def tLst (t : TA) : TE := fun σ H Q => t σ H fun xs H1 => xs.length ≤ sizeLine ∧ ∀ p, H1 p = none → Q (.ref p) (upd H1 p (.lst xs))
theorem pe_tup {x1} (h : PA X es t) : PE X (.Tuple es x1 pos) (tTup t) := by
 intro pins s σ H Q I hq
 refine wpAny_Tuple_spliced (thn (h pos pins s σ H _ I hq) fun us s1 ⟨xs, H1, I1, r, z, q⟩ => ⟨by rw [← r.length]; exact z, ?_⟩)
 have hf : H1 s1.heap.objs.size = none := I1.hok.fresh (Nat.le_refl _)
 refine ⟨.ref s1.heap.objs.size, upd H1 s1.heap.objs.size (.tup xs), I1.laid (t' := s1.toks) (fun b u e => Heap.get?_push_of_some _ e) (Nat.le_refl _) ?_, rfl, q _ hf⟩
 exact ⟨z, us, r, ⟨_, Heap.get?_push_size _ rfl, rfl, _, rfl⟩⟩
theorem pe_lst (h : PA X es t) : PE X (.List es pos) (tLst t) := by
 intro pins s σ H Q I hq
 refine wpAny_List_spliced (thn (h pos pins s σ H _ I hq) fun us s1 ⟨xs, H1, I1, r, z, q⟩ => ⟨by rw [← r.length]; exact z, ?_⟩)
 have hf : H1 s1.heap.objs.size = none := I1.hok.fresh (Nat.le_refl _)
 refine ⟨.ref s1.heap.objs.size, upd H1 s1.heap.objs.size (.lst xs), I1.laid (t' := s1.toks) (fun b u e => Heap.get?_push_of_some _ e) (Nat.le_refl _) ?_, rfl, q _ hf⟩
 exact ⟨z, us, 0, r, Heap.get?_push_size _ rfl⟩
end
noncomputable abbrev Sp := List V → Hp → VK → XK → Prop
noncomputable abbrev CXT := List Env → Hp → Shared → XK → Value → Shared → Prop
structure Env0 (P : Program) (w : World) (K : PySem.W.Frag) (mg : Str → Option Value) (base : Heap) (A : Around) (outer : List Env) (s : Shared) (H : Hp) : Prop where
 frames : A.frames = some outer
 mod : Mod K mg base
 bs : ∀ b o, base.get? b = some o → s.heap.get? b = some o ∧ H b = none
 bsz : base.objs.size ≤ s.heap.objs.size
 funs : s.heap.FunFrames base outer
 frf : ∀ b ∈ frs outer, H b = none
 hok : HOk P w H s.heap
 bare : AllBare s.gens
noncomputable def CE (outer : List Env) (P : Program) (w : World) (H : Hp) (s : Shared) (Q : VK) (u : Value) (s' : Shared) : Prop :=
 ∃ v H', s'.os = s.os ∧ AllBare s'.gens ∧ Un (frs outer) [] H H' s.heap s'.heap ∧ HOk P w H' s'.heap ∧ RelV v u ∧ Q v H'
noncomputable def CR (CX : CXT) (outer : List Env) (P : Program) (w : World) (H : Hp) (s : Shared) (Q : VK) (E : XK) (r : Result) (s' : Shared) : Prop :=
 match r with
 | .ok (.ret u) => CE outer P w H s Q u s'
 | .ok _ => False
 | .error e => CX outer H s E e s'
structure FnOk (P : Program) (w : World) (K : PySem.W.Frag) (mg : Str → Option Value) (base : Heap) (CX : CXT) (k : Nat) (f : Addr) (fd : FuncData) (ps : List Str) (sp : Sp) : Prop where
 len : ∀ vs H Q E, sp vs H Q E → vs.length = ps.length
 run : ∀ (A : Around) (outer : List Env) (s : Shared) (H : Hp) (args : Args) (us : List Value) (vs : List V) (Q : VK) (E : XK), Room k A → Env0 P w K mg base A outer s H → BindsTo s fd args (ps.zip us) → Vals vs us → sp vs H Q E →
  codeAny (model P w) A (.call (.ref f) args) (CR CX outer P w H s Q E) s
theorem FnOk.mono {P : Program} {w : World} {K : PySem.W.Frag} {mg : Str → Option Value} {base : Heap} {CX : CXT} {j k : Nat} {f : Addr} {fd : FuncData} {ps : List Str} {sp : Sp} (F : FnOk P w K mg base CX j f fd ps sp) (h : j ≤ k) :
  FnOk P w K mg base CX k f fd ps sp := ⟨F.len, fun A outer s H args us vs Q E hr => F.run A outer s H args us vs Q E (hr.mono h)⟩
section
variable {X : Cx} {pins : List (Addr × Obj)} {σ : St} {H : Hp} {s s' : Shared}
theorem Inv.env0 (I : Inv X pins σ H s) : Env0 X.prog X.w X.K X.mg X.base X.A X.stack s H :=
 ⟨I.ok.frames, I.ok.mod, I.bs, Nat.le_trans I.ok.bsz I.sz, I.stack, I.stkFree, I.hok, I.bare⟩
theorem Inv.after {Q : VK} {u : Value} (I : Inv X pins σ H s) (h : CE X.stack X.prog X.w H s Q u s') : EP X pins σ Q u s' := by
 obtain ⟨v, H', os, bare, un, hok, r, q⟩ := h
 obtain ⟨hh, g, d, t, os'⟩ := s'
 obtain rfl : os' = s.os := os
 exact ⟨v, H', I.call (h' := hh) (g' := g) (d' := d) (t' := t) (ch := []) un hok bare (fun b z => absurd z (by simp)), r, q⟩
end
noncomputable def tCall (sp : Sp) (dvs : List V) (E : XK) (t : TA) : TE := fun σ H Q => t σ H fun vs H1 => sp (vs ++ dvs) H1 Q E
noncomputable def Binds (K : PySem.W.Frag) (fd : FuncData) (ps : List Str) (ds : List Value) : Prop :=
 ∀ (s : Shared) (us : List Value), K.In s.heap → (us ++ ds).length = ps.length → BindsTo s fd ⟨us, []⟩ (ps.zip (us ++ ds))
theorem Binds.all {K : PySem.W.Frag} {fd : FuncData} {ps : List Str} (h : ∀ us : List Value, us.length = ps.length → bindArgs fd ⟨us, []⟩ = pure (ps.zip us)) : Binds K fd ps [] := fun s us _ hl => by
 rw [List.append_nil] at hl ⊢
 exact .of_eq (h us hl)
noncomputable def Passes (CX : CXT) (X : Cx) (E : XK) : Prop := ∀ (pins : List (Addr × Obj)) (σ : St) (H : Hp) (s : Shared) (e : Value) (s' : Shared), Inv X pins σ H s → CX X.stack H s E e s' → X.xe e s'
section
variable {X : Cx} {CX : CXT} {k : Nat} {f C : Addr} {fd : FuncData} {ps : List Str} {sp : Sp} {dvs : List V} {ds : List Value} {E : XK} {x m : Str} {p pos apos : Pos} {e o : Expr} {es : List Expr} {ta : TE} {t : TA}
theorem run_fn {pins : List (Addr × Obj)} {σ : St} {H : Hp} {s : Shared} {Q : VK} {us : List Value} {vs : List V} (F : FnOk X.prog X.w X.K X.mg X.base CX k f fd ps sp) (hr : Room k X.A) (hb : Binds X.K fd ps ds) (hd : Vals dvs ds) (hx : Passes CX X E)
  (I : Inv X pins σ H s) (r : Vals vs us) (h : sp (vs ++ dvs) H Q E) : wpAny (model X.prog X.w) X.A (call (.ref f) us) (EP X pins σ Q) X.xe s := by
 have r2 : Vals (vs ++ dvs) (us ++ ds) := r.append hd
 have hl : (us ++ ds).length = ps.length := by rw [← r2.length]; exact F.len _ _ _ _ h
 refine wpAny_call (codeAny_mono (F.run X.A X.stack s H ⟨us, []⟩ (us ++ ds) (vs ++ dvs) Q E hr I.env0 (hb s us I.kIn hl) r2 h) fun r s' hq => ?_)
 cases r with
 | error e => exact hx pins σ H s e s' I hq
 | ok fl =>
  cases fl with
  | ret u => exact I.after hq
  | next => exact False.elim hq
  | brk => exact False.elim hq
  | cont => exact False.elim hq
theorem pe_call (F : FnOk X.prog X.w X.K X.mg X.base CX k f fd ps sp) (hr : Room k X.A) (hg : Gl X x) (hm : X.mg x = some (.ref f)) (hk : PySem.W.keepIn X.K (.ref f) = true) (hb : Binds X.K fd ps ds) (hd : Vals dvs ds) (hx : Passes CX X E)
  (ha : PA X (e :: es) t) (hdb : (x == ("__debug__" : Str)) = false := by decide) (he : starEach (e :: es) X.env = (false, eval e X.env) :: starEach es X.env := by rfl) (hpl : (backTo pos (starEach es X.env)).any (·.1) = false := by rfl) :
  PE X (.Call (.Name x p) (e :: es) [] pos) (tCall sp dvs E t) := by
 intro pins s σ H Q I h
 refine wpAny_Call_Name_kw (ld_glob I hg hm ?_ hdb)
 refine PySem.W.callWith_K (h₀ := X.base) I.ok.mod.kin hk (thn (ha pos pins s σ H _ I h) fun us s1 ⟨vs, H1, I1, r, q⟩ => ⟨I1.kIn, ?_⟩) he hpl
 exact run_fn F hr hb hd hx I1 r q
end
section
variable {X : Cx} {CX : CXT} {k : Nat} {f C : Addr} {fd : FuncData} {ps ks : List Str} {sp : Sp} {E : XK} {x m : Str} {p pos apos kpos : Pos} {e o : Expr} {es : List Expr} {kws : List Keyword} {te ta : TE} {t tk : TA} {nm : Option Str}
variable {g : List Value → List Value → List Value} {gV : List V → List V → List V}
end
structure FnScope (N P : List Str) (sc : Scope) : Prop where
 kind : sc.kind = .function
 co : sc.isCoroutine = false
 gen : sc.isGenerator = false
 nd : N.Nodup
 pre : N.take P.length = P
 par : ∀ x ∈ P, sc.names.lookup x = some .local ∨ sc.names.lookup x = some .cell
 nofree : ∀ y ∈ sc.names, y.2 ≠ .free
theorem bindL_out {kindOf : Str → Option NameKind} {x : Str} : ∀ {binds : List (Str × Value)} {m : Str → Option Value}, (∀ v, (x, v) ∉ binds) → bindL kindOf binds m x = m x
 | [], _, _ => rfl
 | (n, v) :: r, m, h => by
  unfold bindL
  rw [bindL_out fun w hw => h w (List.mem_cons_of_mem _ hw)]
  split
  ·have : x ≠ n := by rintro rfl; exact h v List.mem_cons_self
   simp [this]
  ·rfl
theorem bindC_out {kindOf : Str → Option NameKind} {x : Str} : ∀ {binds : List (Str × Value)} {m : Str → Option Value}, (∀ v, (x, v) ∉ binds) → bindC kindOf binds m x = m x
 | [], _, _ => rfl
 | (n, v) :: r, m, h => by
  unfold bindC
  rw [bindC_out fun w hw => h w (List.mem_cons_of_mem _ hw)]
  split
  ·rfl
  ·have : x ≠ n := by rintro rfl; exact h v List.mem_cons_self
   simp [this]
theorem bindL_get {kindOf : Str → Option NameKind} {x : Str} {v : Value} : ∀ {P : List Str} {vs : List Value} {i : Nat} {m : Str → Option Value}, P.Nodup → P[i]? = some x → vs[i]? = some v → kindOf x = some .local →
  bindL kindOf (P.zip vs) m x = some v
 | [], _, _, _, _, h, _, _ => by simp at h
 | _ :: _, [], _, _, _, _, h, _ => by simp at h
 | p :: P, w :: vs, 0, m, nd, h1, h2, hk => by
  simp at h1 h2; subst h1; subst h2
  show bindL kindOf ((p, w) :: P.zip vs) m p = _
  unfold bindL
  rw [bindL_out fun v hv => (List.nodup_cons.mp nd).1 (List.of_mem_zip hv).1, if_pos hk]
  simp
 | p :: P, w :: vs, i + 1, m, nd, h1, h2, hk => by
  show bindL kindOf ((p, w) :: P.zip vs) m x = _
  unfold bindL
  exact bindL_get (i := i) (List.nodup_cons.mp nd).2 (by simpa using h1) (by simpa using h2) hk
theorem bindC_get {kindOf : Str → Option NameKind} {x : Str} {v : Value} : ∀ {P : List Str} {vs : List Value} {i : Nat} {m : Str → Option Value}, P.Nodup → P[i]? = some x → vs[i]? = some v → kindOf x ≠ some .local →
  bindC kindOf (P.zip vs) m x = some v
 | [], _, _, _, _, h, _, _ => by simp at h
 | _ :: _, [], _, _, _, _, h, _ => by simp at h
 | p :: P, w :: vs, 0, m, nd, h1, h2, hk => by
  simp at h1 h2; subst h1; subst h2
  show bindC kindOf ((p, w) :: P.zip vs) m p = _
  unfold bindC
  rw [bindC_out fun v hv => (List.nodup_cons.mp nd).1 (List.of_mem_zip hv).1, if_neg hk]
  simp
 | p :: P, w :: vs, i + 1, m, nd, h1, h2, hk => by
  show bindC kindOf ((p, w) :: P.zip vs) m x = _
  unfold bindC
  exact bindC_get (i := i) (List.nodup_cons.mp nd).2 (by simpa using h1) (by simpa using h2) hk
noncomputable def start (N : List Str) (vs : List V) : St := vs.map some ++ List.replicate (N.length - vs.length) none
noncomputable def cxOf (CX : CXT) (P : Program) (w : World) (K : PySem.W.Frag) (mg : Str → Option Value) (base : Heap) (N : List Str) (qual : Str) (scope : Scope) (f : Addr) (cd : Value) (A : Around) (outer : List Env) (s : Shared) (H : Hp) (E : XK) : Cx where
 prog := P
 w := w
 K := K
 mg := mg
 base := base
 A := A.deeper (envOfC qual scope s.heap.objs.size f cd)
 N := N
 s₀ := s
 H₀ := H
 env := envOfC qual scope s.heap.objs.size f cd
 outer := outer
 stack := envOfC qual scope s.heap.objs.size f cd :: outer
 ex := []
 calm := true
 fn := fun _ => true
 pn := []
 xe := fun e s' => wpAny (model P w) (A.deeper (envOfC qual scope s.heap.objs.size f cd)) (leaving (envOfC qual scope s.heap.objs.size f cd) e) (fun _ s'' => CX outer H s E e s'') (fun e' s'' => CX outer H s E e' s'') s'
theorem cell_has {sc : Scope} {n : Nat} {x : Str} (h : sc.names.lookup x = some .cell) : ∃ c, (cellsFrom n sc.names []).lookup x = some c := by
 have q := PySem.W.cellsFrom_some sc.names n [] (.inl h)
 exact Option.isSome_iff_exists.mp q
theorem inv_start {CX : CXT} {P : Program} {w : World} {K : PySem.W.Frag} {mg : Str → Option Value} {base : Heap} {N ps : List Str} {qual : Str} {scope : Scope} {f : Addr} {cd : Value} {A : Around} {outer : List Env} {s s1 : Shared} {H : Hp} {E : XK} {us : List Value} {vs : List V}
  (S : FnScope N ps scope) (hd : A.handled = none) (e0 : Env0 P w K mg base A outer s H) (hl : vs.length = ps.length) (r : Vals vs us)
  (x : InCallC s s.heap.objs.size (bindL (envOfC qual scope s.heap.objs.size f cd).kindOf (ps.zip us) fun _ => none) (cellsFrom (s.heap.objs.size + 1) scope.names []) (bindC (envOfC qual scope s.heap.objs.size f cd).kindOf (ps.zip us) fun _ => none) s1) :
  Inv (cxOf CX P w K mg base N qual scope f cd A outer s H E) [] (start N vs) H s1 := by
 have hpl : ps.length ≤ N.length := by have := congrArg List.length S.pre; rw [List.length_take] at this; omega
 obtain ⟨h1, tk, rfl, hk⟩ := x.done
 have noA : ∀ b : Addr, b ∉ (cxOf CX P w K mg base N qual scope f cd A outer s H E).ex := fun b z => absurd (show b ∈ ([] : List Addr) from z) (by simp)
 refine ⟨⟨e0.mod, S.kind, rfl, rfl, Nat.le_refl _, fun y z c h1 h2 => ?_, fun y hy => ?_, fun y c _ h => ?_, fun _ => hd, Around.frames_deeper e0.frames, .inr ⟨rfl, rfl⟩, fun b z => absurd z (noA b), e0.bs, e0.bsz, fun b _ _ => noA b, fun b z => absurd z (noA b), e0.funs, e0.frf⟩,
  rfl, e0.bare, Un.kept hk, ⟨_, x.toInCall.ns, fun i y v h1 h2 h3 => ?_⟩, fun y c h => ⟨_, x.cell y c h⟩, e0.hok.fresh (Nat.le_refl _), fun y c h => ?_, fun p hp => absurd (show p ∈ ([] : List (Addr × Obj)) from hp) (by simp), e0.hok.kept hk, ?_⟩
 ·exact name_of_addr x.apart (PySem.mem_of_lookup h1) (PySem.mem_of_lookup h2)
 ·have hy : scope.names.lookup y = some .cell ∨ scope.names.lookup y = some .free := hy
  rcases hy with hy | hy
  ·exact cell_has hy
  ·exact absurd rfl (S.nofree _ (PySem.mem_of_lookup hy))
 ·exact Nat.le_of_lt (x.above y c (PySem.mem_of_lookup h))
 ·have hi : i < vs.length := by
   unfold start at h2
   by_cases hi : i < vs.length
   ·exact hi
   ·rw [List.getElem?_append_right (by simpa using hi)] at h2
    rw [List.getElem?_replicate] at h2
    split at h2 <;> cases h2
  have ha : vs[i]? = some v := by
   unfold start at h2
   rw [List.getElem?_append_left (by simpa using hi), List.getElem?_map] at h2
   cases e : vs[i]? with
   | none => rw [e] at h2; cases h2
   | some a => rw [e] at h2; cases h2; rfl
  obtain ⟨u, hu, rv⟩ := r.get ha
  have hp : ps[i]? = some y := by
   rw [← S.pre, List.getElem?_take_of_lt (by omega)]; exact h1
  have ndP : ps.Nodup := by rw [← S.pre]; exact S.nd.sublist (List.take_sublist _ _)
  refine ⟨u, rv, ?_⟩
  rcases S.par y (List.mem_of_getElem? hp) with k | k
  ·exact .inl ⟨k, bindL_get ndP hp hu k⟩
  ·obtain ⟨c, e⟩ := cell_has (n := s.heap.objs.size + 1) k
   refine .inr ⟨.inl k, c, e, ?_⟩
   have q := x.cell y c e
   rw [bindC_get ndP hp hu (by show scope.names.lookup y ≠ _; rw [k]; decide)] at q
   exact q
 ·exact e0.hok.fresh (Nat.le_of_lt (x.above y c (PySem.mem_of_lookup h)))
 ·unfold start
  show _ = N.length
  rw [List.length_append, List.length_map, List.length_replicate]
  omega
theorem fn_of {CX : CXT} {P : Program} {w : World} {K : PySem.W.Frag} {mg : Str → Option Value} {base : Heap} {k : Nat} {f : Addr} {name qual : Str} {params : Arguments} {body : List Stmt} {scope : Scope} {dV kV doc pm cdv ct oc : Value} {an od : Option Addr}
  {osl : Array (Option Value)} {N ps : List Str} {sp : Sp} (lk : K.lookup f = some ⟨oc, od, .func (PySem.W.fnOf name qual params body scope dV kV doc pm an cdv ct), osl⟩) (hcd : PySem.W.codeIn K cdv qual = true) (S : FnScope N ps scope)
  (len : ∀ vs H Q E, sp vs H Q E → vs.length = ps.length)
  (hbody : ∀ (A : Around) (outer : List Env) (s : Shared) (H : Hp) (vs : List V) (Q : VK) (E : XK), Room k (A.deeper (envOfC qual scope s.heap.objs.size f cdv)) → sp vs H Q E →
   ∃ t, PSs (cxOf CX P w K mg base N qual scope f cdv A outer s H E) body t ∧ t { nx := fun _ H' => Q .non H', rt := Q } (start N vs) H) :
  FnOk P w K mg base CX (k + 1) f (PySem.W.fnOf name qual params body scope dV kV doc pm an cdv ct) ps sp := by
 refine ⟨len, fun A outer s H args us vs Q E hr e0 hb r hsp => ?_⟩
 have hl := len _ _ _ _ hsp
 have KX : K.In s.heap := e0.mod.kin.keeps fun b o e => (e0.bs b o e).1
 have lim : s.heap.NoLimit := e0.mod.nolimit.keeps fun b o e => (e0.bs b o e).1
 have hkind : ∀ y ∈ ps.zip us, scope.names.lookup y.1 = some .local ∨ (scope.names.lookup y.1 = some .cell ∧ ((cellsFrom (s.heap.objs.size + 1) scope.names []).lookup y.1).isSome = true) := fun ⟨n, v⟩ hy => by
  rcases S.par n (List.of_mem_zip hy).1 with q | q
  ·exact .inl q
  ·exact .inr ⟨q, PySem.W.cellsFrom_some _ _ _ (.inl q)⟩
 refine codeAny_call_function hr.depth (KX _ _ lk) rfl S.co S.gen rfl (PySem.W.codeRec_of KX hcd) (hb _ _ _ _ ?_)
 refine wpAny_newFunctionEnv_cells S.kind hkind fun env he s1 x => ?_
 subst he
 refine ⟨lim.keeps x.toInCall.keep, codeAny_func ?_⟩
 obtain ⟨t, ht, hq⟩ := hbody A outer s H vs Q E (hr.deeper _) hsp
 have I : Inv (cxOf CX P w K mg base N qual scope f cdv A outer s H E) [] (start N vs) H s1 := inv_start S hr.hd e0 hl r x
 refine wpAny_mono (ht [] s1 (start N vs) H _ I hq) (fun fl s' hs => ?_) fun e s' hs => hs
 have fin : ∀ {σ' : St} {H' : Hp} {v : V} {u : Value}, Inv (cxOf CX P w K mg base N qual scope f cdv A outer s H E) [] σ' H' s' → RelV v u → Q v H' → CE outer P w H s Q u s' :=
  fun {σ' H' v u} J rv q => ⟨v, H', J.os, J.bare, J.base, J.hok, rv, q⟩
 cases fl with
 | ret u =>
  obtain ⟨v, σ', H', J, rv, q⟩ := hs
  exact fin J rv q
 | next =>
  obtain ⟨σ', H', J, q⟩ := hs
  exact fin (v := V.non) (u := Value.none) J rfl q
 | brk =>
  obtain ⟨_, _, _, q⟩ := hs
  exact False.elim q
 | cont =>
  obtain ⟨_, _, _, q⟩ := hs
  exact False.elim q
end L2
namespace L2
open PySem PySem.Spec PyProof.Rows
section
variable {X : Cx} {x : Str} {p pos : Pos} {e : Expr} {es : List Expr} {t : TA} {id T : String} {r : List V → Hp → VK → Prop}
noncomputable def tCB (r : List V → Hp → VK → Prop) (t : TA) : TE := fun σ H Q => t σ H fun vs H1 => r vs H1 Q
theorem pe_callB (hc : CallR X (.builtin id) r) (hg : Gl X x) (hm : X.mg x = none) (hv : bootBuiltins x = some (.builtin id)) (ha : PA X (e :: es) t) (hn : x ≠ "__name__" := by decide) (hdb : (x == ("__debug__" : Str)) = false := by decide)
  (he : starEach (e :: es) X.env = (false, eval e X.env) :: starEach es X.env := by rfl) (hpl : (backTo pos (starEach es X.env)).any (·.1) = false := by rfl) : PE X (.Call (.Name x p) (e :: es) [] pos) (tCB r t) := by
 intro pins s σ H Q I h
 refine wpAny_Call_Name_kw (ld_blt I hg hm hv ?_ hn hdb)
 exact PyProof.Rows.callWith_builtin1 (thn (ha pos pins s σ H _ I h) fun us s1 ⟨vs, H1, I1, r1, q1⟩ => hc pins s1 σ H1 vs us Q I1 r1 q1) he hpl
theorem pe_callTy (hc : CallR X (.type T) r) (hg : Gl X x) (hm : X.mg x = none) (hv : bootBuiltins x = some (.type T)) (ha : PA X (e :: es) t) (hn : x ≠ "__name__" := by decide) (hdb : (x == ("__debug__" : Str)) = false := by decide)
  (he : starEach (e :: es) X.env = (false, eval e X.env) :: starEach es X.env := by rfl) (hpl : (backTo pos (starEach es X.env)).any (·.1) = false := by rfl) : PE X (.Call (.Name x p) (e :: es) [] pos) (tCB r t) := by
 intro pins s σ H Q I h
 refine wpAny_Call_Name_kw (ld_blt I hg hm hv ?_ hn hdb)
 exact PyProof.Rows.callWith_type1 (thn (ha pos pins s σ H _ I h) fun us s1 ⟨vs, H1, I1, r1, q1⟩ => hc pins s1 σ H1 vs us Q I1 r1 q1) he hpl
end
end L2
namespace HT
open PySem PyProof.Rows
section
open PySem.SeqAt
open PySem.AutoSeq1 (wpAny_loadPart')
open PySem.MeetsSeq PySem.MeetsSeq2 PySem.MeetsSeq3
end
section
variable {prog : Program} {w : World} {A : Around} {E : Value → Shared → Prop} {s : Shared}
noncomputable def sIx (n d : Nat) : Option Int → Nat
 | none => d
 | some v => if v < 0 then (v + (n : Int)).toNat else min v.toNat n
theorem sIx_none (n d : Nat) : sIx n d none = d := rfl
theorem sIx_nat (n d k : Nat) : sIx n d (some (k : Int)) = min k n := by
 show (if (k : Int) < 0 then ((k : Int) + (n : Int)).toNat else min (k : Int).toNat n) = min k n
 rw [if_neg (by omega), Int.toNat_natCast]
end
end HT
namespace L2
open PySem PySem.Spec PyProof.Rows
noncomputable abbrev TO := St → Hp → (Option Int → Hp → Prop) → Prop
noncomputable def PO (X : Cx) (e : Option Expr) (t : TO) : Prop :=
 ∀ (pins : List (Addr × Obj)) (s : Shared) (σ : St) (H : Hp) (Q : Option Int → Hp → Prop), Inv X pins σ H s → t σ H Q →
  wpAny (model X.prog X.w) X.A (evalPart e X.env) (fun u s' => ∃ o H', Inv X pins σ H' s' ∧ IsPart u o ∧ Q o H') X.xe s
noncomputable def tNoPart : TO := fun _ H Q => Q none H
noncomputable def tPart (t : TE) : TO := fun σ H Q => t σ H fun x H1 => ∃ i, x = .int i ∧ Q (some i) H1
section
variable {X : Cx} {e : Expr} {te : TE} {lo hi : Option Expr} {tl th : TO} {pos p2 : Pos}
theorem po_none : PO X none tNoPart := by
 intro pins s σ H Q I h
 rw [evalPart_none]
 exact wpAny_pure ⟨none, H, I, .none, h⟩
theorem po_some (h : PE X e te) : PO X (some e) (tPart te) := by
 intro pins s σ H Q I hw
 rw [evalPart_some]
 refine thn (h pins s σ H _ I hw) fun u s1 ⟨x, H1, I1, r1, q1⟩ => ?_
 obtain ⟨i, rfl, q⟩ := q1
 obtain ⟨t, rfl⟩ := r1
 exact ⟨some i, H1, I1, .int i t, q⟩
noncomputable def SlR (X : Cx) (r : V → Option Int → Option Int → Hp → VK → Prop) : Prop :=
 ∀ (pins : List (Addr × Obj)) (s : Shared) (σ : St) (H : Hp) (x : V) (v vl vu : Value) (lo hi : Option Int) (sl : Addr) (Q : VK), Inv X pins σ H s → RelV x v → s.heap.IsSliceOf sl vl vu .none → IsPart vl lo → IsPart vu hi → r x lo hi H Q →
  ∃ T id, typeLookup (.type T) "__getitem__" = pure (some (.builtin id)) ∧ s.TypeIs v T ∧ wpAny (model X.prog X.w) X.A (getItem v (.ref sl)) (EP X pins σ Q) X.xe s
noncomputable def tSl (r : V → Option Int → Option Int → Hp → VK → Prop) (te : TE) (tl th : TO) : TE := fun σ H Q => te σ H fun x H1 => tl σ H1 fun l H2 => th σ H2 fun u H3 => r x l u H3 Q
theorem pe_slice {r : V → Option Int → Option Int → Hp → VK → Prop} (hr : SlR X r) (he : PE X e te) (hl : PO X lo tl) (hu : PO X hi th) : PE X (.Subscript e (.Slice lo hi none p2) pos) (tSl r te tl th) := by
 intro pins s σ H Q I h
 refine Subscript_ (thn (he pins s σ H _ I h) fun v s1 ⟨x, H1, I1, r1, q1⟩ => ?_)
 refine wpAny_Slice (thn (hl pins s1 σ H1 _ I1 q1) fun vl s2 ⟨l, H2, I2, pl, q2⟩ => thn (hu pins s2 σ H2 _ I2 q2) fun vu s3 ⟨u, H3, I3, pu, q3⟩ => ?_)
 rw [evalPart_none]
 refine wpAny_pure ?_
 have I4 : Inv X pins σ H3 { s3 with heap := s3.heap.push { cls := .type "slice", data := .fields #[vl, vu, .none] } } := I3.kept (t' := s3.toks) fun b ob q => Heap.get?_push_of_some _ q
 obtain ⟨T, id, hT, ht, hg⟩ := hr pins { s3 with heap := s3.heap.push { cls := .type "slice", data := .fields #[vl, vu, .none] } } σ H3 x v vl vu l u s3.heap.objs.size Q I4 r1 (Heap.IsSliceOf.new ..) pl pu q3
 show wpAny (model X.prog X.w) X.A (subscriptTail e (.Slice lo hi none p2) v (.ref s3.heap.objs.size)) (EP X pins σ Q) X.xe { s3 with heap := s3.heap.push { cls := .type "slice", data := .fields #[vl, vu, .none] } }
 exact tail_any (ops := [.ref s3.heap.objs.size, v]) ht hT hg (by with_unfolding_all rfl)
noncomputable def cutV (xs : List V) (lo hi : Option Int) : List V := (xs.drop (HT.sIx xs.length 0 lo)).take (HT.sIx xs.length xs.length hi - HT.sIx xs.length 0 lo)
theorem cutV_length (xs : List V) (lo hi : Option Int) : (cutV xs lo hi).length ≤ xs.length := by
 unfold cutV
 rw [List.length_take, List.length_drop]
 omega
end
end L2
namespace L2
open PySem PySem.Spec PyProof.Rows
noncomputable def ixN (n : Nat) (i : Int) : Option Nat := if 0 ≤ i then (if i < n then some i.toNat else none) else if -(n : Int) ≤ i then some (i + n).toNat else none
noncomputable def atI {α : Type} (xs : List α) (i : Int) : Option α := (ixN xs.length i).bind fun j => xs[j]?
theorem ixN_seq {n : Nat} {i : Int} {j : Nat} (h : ixN n i = some j) : seqIndex? i n = some j ∧ j < n ∧ -(n : Int) ≤ i ∧ i < n := by
 unfold ixN at h
 by_cases h0 : 0 ≤ i
 ·rw [if_pos h0] at h
  by_cases h1 : i < n
  ·rw [if_pos h1] at h
   have e : i.toNat = j := Option.some.inj h
   exact ⟨by rw [seqIndex_of h0 h1, e], by omega, by omega, h1⟩
  ·rw [if_neg h1] at h; cases h
 ·rw [if_neg h0] at h
  by_cases h1 : -(n : Int) ≤ i
  ·rw [if_pos h1] at h
   have e : (i + n).toNat = j := Option.some.inj h
   exact ⟨by rw [seqIndex_neg (by omega) h1, e], by omega, h1, by omega⟩
  ·rw [if_neg h1] at h; cases h
theorem atI_get {α : Type} {xs : List α} {i : Int} {v : α} (h : atI xs i = some v) : ∃ j, seqIndex? i xs.length = some j ∧ xs[j]? = some v ∧ j < xs.length ∧ -(xs.length : Int) ≤ i ∧ i < xs.length := by
 unfold atI at h
 cases e : ixN xs.length i with
 | none => rw [e] at h; cases h
 | some j =>
  rw [e] at h
  obtain ⟨h1, h2, h3, h4⟩ := ixN_seq e
  exact ⟨j, h1, h, h2, h3, h4⟩
theorem atI_nat {α : Type} {xs : List α} {j : Nat} {v : α} (h : xs[j]? = some v) : atI xs (j : Int) = some v := by
 have hj : j < xs.length := (List.getElem?_eq_some_iff.mp h).1
 have e : ixN xs.length (j : Int) = some j := by
  unfold ixN
  rw [if_pos (by omega), if_pos (by omega)]; simp
 unfold atI; rw [e]; exact h
theorem atI_last {α : Type} (xs : List α) (v : α) : atI (xs ++ [v]) (-1) = some v := by
 have hl : (xs ++ [v]).length = xs.length + 1 := by simp
 have e : ixN (xs ++ [v]).length (-1) = some xs.length := by
  unfold ixN
  rw [hl, if_neg (by decide), if_pos (by omega)]
  congr 1
  omega
 unfold atI
 rw [e]
 show (xs ++ [v])[xs.length]? = some v
 simp
noncomputable def PlainIx (b : Expr) : Prop := ∀ o i, subscripted b false o i = operate [o, i] (getItem o i)
noncomputable def IxR (X : Cx) (r : R2) : Prop :=
 ∀ (value slice : Expr) (pins : List (Addr × Obj)) (s : Shared) (σ : St) (H : Hp) (x y : V) (v u : Value) (Q : VK), Inv X pins σ H s → RelV x v → RelV y u → r x y H Q →
  subscripted slice false v u = operate [v, u] (getItem v u) → wpAny (model X.prog X.w) X.A (subscriptTail value slice v u) (EP X pins σ Q) X.xe s
noncomputable def MtR (X : Cx) (id : String) (r : V → List V → Hp → VK → Prop) : Prop :=
 ∀ (pins : List (Addr × Obj)) (s : Shared) (σ : St) (H : Hp) (x : V) (xs : List V) (v : Value) (us : List Value) (Q : VK), Inv X pins σ H s → RelV x v → Vals xs us → r x xs H Q →
  wpAny (model X.prog X.w) X.A (call (.builtin id) (v :: us)) (EP X pins σ Q) X.xe s
section
variable {X : Cx} {a b : Expr} {ta tb : TE} {pos : Pos}
theorem pe_ix {r : R2} (hr : IxR X r) (ha : PE X a ta) (hb : PE X b tb) (hs : PlainIx b) : PE X (.Subscript a b pos) (tOp r ta tb) := by
 intro pins s σ H Q I h
 exact Subscript_ (binT ha hb I h fun v u s2 x y H2 I2 rx ry q => hr a b pins s2 σ H2 x y v u Q I2 rx ry q (hs _ _))
noncomputable def rIxL (K : PySem.W.Frag) : R2 := fun x y H Q => ∃ p xs i v, x = .ref p ∧ y = .int i ∧ SqL K H p xs ∧ atI xs i = some v ∧ Q v H
noncomputable def rIxT (K : PySem.W.Frag) : R2 := fun x y H Q => ∃ p xs i v, x = .ref p ∧ y = .int i ∧ SqT K H p xs ∧ atI xs i = some v ∧ Q v H
noncomputable def rIxS : R2 := fun x y H Q => ∃ z i c, x = .str z ∧ y = .int i ∧ z.length ≤ sizeLine ∧ atI z.cps.toList i = some c ∧ Q (.str ⟨#[c]⟩) H
theorem ix_list : IxR X (rIxL X.K) := by
 intro value slice pins s σ H x y v u Q I rx ry h hs
 obtain ⟨p, xs, i, z, rfl, rfl, hq, he, q⟩ := h
 cases rx
 obtain ⟨t, rfl⟩ := ry
 obtain ⟨its, r, pl, hz⟩ := I.list hq
 obtain ⟨j, h1, h2, h3, h4, h5⟩ := atI_get he
 obtain ⟨w, ew, rw'⟩ := r.get h2
 have hl := r.length
 have hn := line63
 have fin : EP X pins σ Q w s := ⟨z, H, I, rw', q⟩
 by_cases h0 : 0 ≤ i
 ·have hj : i.toNat = j := by
   rw [seqIndex_of h0 h5] at h1
   exact Option.some.inj h1
  exact item_listR pl.isList h0 (by omega) (by rw [hj]; simpa using ew) fin hs
 ·have hj : (i + (its.toArray.size : Int)).toNat = j := by
   rw [seqIndex_neg (by omega) h4] at h1
   rw [List.size_toArray, ← hl]
   exact Option.some.inj h1
  exact subscriptTail_builtinR (x := w) pl.isList.typeIs slot_list_getitem.lookup
   (wpAny_getItem_list_neg (Q := fun r s' => r = w ∧ EP X pins σ Q r s') pl.isList (by omega) (by rw [List.size_toArray] <;> omega) (by omega) (by rw [hj]; simpa using ew) ⟨rfl, fin⟩) hs
theorem ix_tup : IxR X (rIxT X.K) := by
 intro value slice pins s σ H x y v u Q I rx ry h hs
 obtain ⟨p, xs, i, z, rfl, rfl, hq, he, q⟩ := h
 cases rx
 obtain ⟨t, rfl⟩ := ry
 obtain ⟨its, r, pl, hz⟩ := I.tuple hq
 obtain ⟨j, h1, h2, h3, h4, h5⟩ := atI_get he
 obtain ⟨w, ew, rw'⟩ := r.get h2
 have hl := r.length
 have hn := line63
 have fin : EP X pins σ Q w s := ⟨z, H, I, rw', q⟩
 exact subscriptTail_builtinR (x := w) pl.typeIs slot_tuple_getitem.lookup
  (getItem_tuple (j := j) (Q := fun r s' => r = w ∧ EP X pins σ Q r s') pl (by omega) (by omega) (by rw [List.size_toArray, ← hl]; exact h1) (by simpa using ew) ⟨rfl, fin⟩) hs
theorem ix_str : IxR X rIxS := by
 intro value slice pins s σ H x y v u Q I rx ry h hs
 obtain ⟨z, i, c, rfl, rfl, hz, he, q⟩ := h
 obtain ⟨t, rfl⟩ := rx
 obtain ⟨t', rfl⟩ := ry
 obtain ⟨j, h1, h2, h3, h4, h5⟩ := atI_get he
 have hl : z.cps.toList.length = z.length := by simp [Str.length]
 rw [hl] at h1 h4 h5
 have hn := line63
 exact tail_any (typeIs_str s z t) slot_str_getitem.lookup (getItem_str (c := c) (by
  have e1 : decide (i < -(2 ^ 63 : Int)) = false := decide_eq_false (by omega)
  have e2 : decide (i ≥ 2 ^ 63) = false := decide_eq_false (by omega)
  rw [e1, e2, Bool.or_false]) (by rw [h1]; simpa using h2) ⟨.str ⟨#[c]⟩, H, I.tok _, ⟨_, rfl⟩, q⟩) hs
theorem slice_bounds (lo hi : Option Int) (n : Nat) : (sliceBounds lo hi none n).1 = ((HT.sIx n 0 lo : Nat) : Int) ∧ (sliceBounds lo hi none n).2.1 = ((HT.sIx n n hi : Nat) : Int) ∧ (sliceBounds lo hi none n).2.2 = 1 := by
 refine ⟨?_, ?_, rfl⟩
 ·cases lo with
  | none => simp [sliceBounds, HT.sIx]
  | some i =>
   simp only [sliceBounds, HT.sIx, Option.getD_none, show (1 : Int) > 0 by decide, if_true]
   by_cases h : i < 0
   ·simp only [h, if_true] <;> omega
   ·simp only [h, if_false] <;> omega
 ·cases hi with
  | none => simp [sliceBounds, HT.sIx]
  | some i =>
   simp only [sliceBounds, HT.sIx, Option.getD_none, show (1 : Int) > 0 by decide, if_true]
   by_cases h : i < 0
   ·simp only [h, if_true] <;> omega
   ·simp only [h, if_false] <;> omega
theorem slicePick_cut (its : List Value) (lo hi : Option Int) : slicePick its.toArray lo hi none = ((its.drop (HT.sIx its.length 0 lo)).take (HT.sIx its.length its.length hi - HT.sIx its.length 0 lo)).toArray := by
 obtain ⟨h1, h2, h3⟩ := slice_bounds lo hi its.toArray.size
 unfold slicePick
 rw [h1, h2, h3]
 simp only [sliceRange_one, pick_run, List.size_toArray] <;> rfl
noncomputable def rSlL (K : PySem.W.Frag) : V → Option Int → Option Int → Hp → VK → Prop := fun x lo hi H Q => ∃ a xs, x = .ref a ∧ SqL K H a xs ∧ ∀ p, H p = none → Q (.ref p) (upd H p (.lst (cutV xs lo hi)))
theorem sl_list : SlR X (rSlL X.K) := by
 intro pins s σ H x v vl vu lo hi sl Q I rx hs pl pu h
 obtain ⟨a, xs, rfl, hx, q⟩ := h
 cases rx
 obtain ⟨its, r, ht, hz⟩ := I.list hx
 have hlen := r.length
 refine ⟨"list", _, slot_list_getitem.lookup, ht.isList.typeIs, ?_⟩
 refine wpAny_getItem_list_slice ht.isList hs pl pu .none (by simp) ?_ (by rw [List.size_toArray] <;> omega)
 rw [slicePick_cut, ← hlen]
 refine ⟨.ref s.heap.objs.size, _, I.laid (t' := s.toks) (o := .lst (cutV xs lo hi)) (fun b ob q => Heap.get?_push_of_some _ q) (Nat.le_refl _) ?_, rfl, q _ (I.hok.fresh (Nat.le_refl _))⟩
 exact ⟨Nat.le_trans (cutV_length xs lo hi) hz, _, 0, (r.drop (HT.sIx xs.length 0 lo)).take (HT.sIx xs.length xs.length hi - HT.sIx xs.length 0 lo), Heap.get?_push_size _ rfl⟩
noncomputable def flatV : V → Bool
 | .non => true
 | .bl _ => true
 | .int _ => true
 | .str _ => true
 | _ => false
noncomputable def eqV : V → V → Bool
 | .non, .non => true
 | .bl a, .bl b => a == b
 | .bl a, .int b => (if a then 1 else 0) == b
 | .int a, .bl b => a == (if b then 1 else 0)
 | .int a, .int b => a == b
 | .str a, .str b => a == b
 | _, _ => false
theorem eqAt_V {A : Around} {s : Shared} {y x : V} {u v : Value} (ry : RelV y u) (rx : RelV x v) (fy : flatV y = true) (fx : flatV x = true) : SeqAt.EqAt A s u v (eqV y x) := by
 cases y with
 | non =>
  cases ry
  cases x with
  | non => cases rx; exact SeqAt.EqAt.same _
  | bl b => cases rx; exact SeqAt.EqAt.none_bool b
  | int b => obtain ⟨t, rfl⟩ := rx; exact SeqAt.EqAt.none_int b t
  | str b => obtain ⟨t, rfl⟩ := rx; exact SeqAt.EqAt.none_str b t
  | _ => exact absurd (show false = true from fx) Bool.false_ne_true
 | bl a =>
  cases ry
  cases x with
  | non => cases rx; exact SeqAt.EqAt.bool_none a
  | bl b => cases rx; exact SeqAt.EqAt.bool_bool a b
  | int b => obtain ⟨t, rfl⟩ := rx; exact SeqAt.EqAt.bool_int a b t
  | str b => obtain ⟨t, rfl⟩ := rx; exact SeqAt.EqAt.bool_str a b t
  | _ => exact absurd (show false = true from fx) Bool.false_ne_true
 | int a =>
  obtain ⟨t', rfl⟩ := ry
  cases x with
  | non => cases rx; exact SeqAt.EqAt.int_none a t'
  | bl b => cases rx; exact SeqAt.EqAt.int_bool a t' b
  | int b => obtain ⟨t, rfl⟩ := rx; exact SeqAt.EqAt.int_int a t' b t
  | str b => obtain ⟨t, rfl⟩ := rx; exact SeqAt.EqAt.int_str a t' b t
  | _ => exact absurd (show false = true from fx) Bool.false_ne_true
 | str a =>
  obtain ⟨t', rfl⟩ := ry
  cases x with
  | non => cases rx; exact SeqAt.EqAt.str_none a t'
  | bl b => cases rx; exact SeqAt.EqAt.str_bool a t' b
  | int b => obtain ⟨t, rfl⟩ := rx; exact SeqAt.EqAt.str_int a t' b t
  | str b => obtain ⟨t, rfl⟩ := rx; exact SeqAt.EqAt.str_str a t' b t
  | _ => exact absurd (show false = true from fx) Bool.false_ne_true
 | _ => exact absurd (show false = true from fy) Bool.false_ne_true
noncomputable def eqU (x : V) (u : Value) : Bool := match u with
 | .none => eqV .non x
 | .bool b => eqV (.bl b) x
 | .int i _ => eqV (.int i) x
 | .str z _ => eqV (.str z) x
 | _ => false
theorem eqU_of {x y : V} {u : Value} (r : RelV y u) (f : flatV y = true) : eqU x u = eqV y x := by
 cases y with
 | non => cases r; rfl
 | bl b => cases r; rfl
 | int i => obtain ⟨t, rfl⟩ := r; rfl
 | str z => obtain ⟨t, rfl⟩ := r; rfl
 | _ => exact absurd (show false = true from f) Bool.false_ne_true
theorem any_eqU {x : V} : ∀ {xs : List V} {us : List Value}, Vals xs us → xs.all flatV = true → us.any (eqU x) = xs.any fun y => eqV y x
 | _, _, .nil, _ => rfl
 | y :: xs, u :: us, .cons r t, f => by
  rw [List.all_cons, Bool.and_eq_true] at f
  rw [List.any_cons, List.any_cons, eqU_of r f.1, any_eqU t f.2]
theorem mem_eqAt {A : Around} {s : Shared} {x : V} {v : Value} (rx : RelV x v) (fx : flatV x = true) : ∀ {xs : List V} {us : List Value}, Vals xs us → xs.all flatV = true → ∀ u ∈ us, SeqAt.EqAt A s u v (eqU x u)
 | _, _, .nil, _ => fun u hu => by cases hu
 | y :: xs, u :: us, .cons r t, f => fun u' hu => by
  rw [List.all_cons, Bool.and_eq_true] at f
  rcases List.mem_cons.mp hu with rfl | hu
  ·rw [eqU_of r f.1]; exact eqAt_V r rx f.1 fx
  ·exact mem_eqAt rx fx t f.2 u' hu
noncomputable def inV (x : V) (xs : List V) : Bool := xs.any fun y => eqV y x
noncomputable def rIn (K : PySem.W.Frag) (neg : Bool) : R2 := fun x y H Q => ∃ p xs, y = .ref p ∧ (SqL K H p xs ∨ SqT K H p xs) ∧ flatV x = true ∧ xs.all flatV = true ∧ Q (.bl (if neg then !inV x xs else inV x xs)) H
theorem op_in_seq : OpR X (compareOp .In) (rIn X.K false) := by
 intro pins s σ H x y v u Q I rx ry h
 obtain ⟨p, xs, rfl, hq, fx, fs, q⟩ := h
 cases ry
 rcases hq with hq | hq
 ·obtain ⟨its, r, pl, hz⟩ := I.list hq
  refine SeqAt.in_listAt (eqU x) pl.isList (fun w hw => mem_eqAt rx fx r fs w (by simpa using hw)) ⟨.bl _, H, I, rfl, ?_⟩
  rw [show its.toArray.any (eqU x) = its.any (eqU x) by simp, any_eqU r fs]
  exact q
 ·obtain ⟨its, r, pl, hz⟩ := I.tuple hq
  refine SeqAt.in_tupleAt (eqU x) pl (fun w hw => mem_eqAt rx fx r fs w (by simpa using hw)) ⟨.bl _, H, I, rfl, ?_⟩
  rw [show its.toArray.any (eqU x) = its.any (eqU x) by simp, any_eqU r fs]
  exact q
theorem op_notIn_seq : OpR X (compareOp .NotIn) (rIn X.K true) := by
 intro pins s σ H x y v u Q I rx ry h
 obtain ⟨p, xs, rfl, hq, fx, fs, q⟩ := h
 cases ry
 rcases hq with hq | hq
 ·obtain ⟨its, r, pl, hz⟩ := I.list hq
  refine SeqAt.notIn_listAt (eqU x) pl.isList (fun w hw => mem_eqAt rx fx r fs w (by simpa using hw)) ⟨.bl _, H, I, rfl, ?_⟩
  rw [show its.toArray.any (eqU x) = its.any (eqU x) by simp, any_eqU r fs]
  exact q
 ·obtain ⟨its, r, pl, hz⟩ := I.tuple hq
  refine SeqAt.notIn_tupleAt (eqU x) pl (fun w hw => mem_eqAt rx fx r fs w (by simpa using hw)) ⟨.bl _, H, I, rfl, ?_⟩
  rw [show its.toArray.any (eqU x) = its.any (eqU x) by simp, any_eqU r fs]
  exact q
theorem call_len_seq : CallR X (.builtin "len") (fun xs H Q => ∃ p ys, xs = [.ref p] ∧ (SqL X.K H p ys ∨ SqT X.K H p ys) ∧ Q (.int ys.length) H) := by
 intro pins s σ H xs us Q I r h
 obtain ⟨p, ys, rfl, hq, q⟩ := h
 obtain ⟨u, rfl, rx⟩ := vals1 r
 cases rx
 have hn := line63
 rcases hq with hq | hq
 ·obtain ⟨its, r', pl, hz⟩ := I.list hq
  have hlen := r'.length
  exact Calls.call_len_list pl.isList (by simp only [List.size_toArray] <;> omega) ⟨.int ys.length, H, I.tok _, ⟨s.toks + 1, by rw [List.size_toArray, hlen]⟩, q⟩
 ·obtain ⟨its, r', pl, hz⟩ := I.tuple hq
  have hlen := r'.length
  exact len_tuple pl (by simp only [List.size_toArray] <;> omega) ⟨.int ys.length, H, I.tok _, ⟨s.toks + 1, by rw [List.size_toArray, hlen]⟩, q⟩
theorem call_list_of : CallR X (.type "list") (fun xs H Q => ∃ p ys, xs = [.ref p] ∧ (SqL X.K H p ys ∨ SqT X.K H p ys) ∧ ∀ l, H l = none → Q (.ref l) (upd H l (.lst ys))) := by
 intro pins s σ H xs us Q I r h
 obtain ⟨p, ys, rfl, hq, q⟩ := h
 obtain ⟨u, rfl, rx⟩ := vals1 r
 cases rx
 have fin : ∀ (its : List Value), Vals ys its → ys.length ≤ sizeLine → ∀ (h' : Heap) (c' : Nat), (∀ b o', s.heap.get? b = some o' → h'.get? b = some o') →
   h'.get? s.heap.objs.size = some { cls := .type "list", dict := none, data := .seq its.toArray c', slots := #[] } → EP X pins σ Q (.ref s.heap.objs.size) { s with heap := h' } := fun its r' hz h' c' kp e =>
  ⟨.ref s.heap.objs.size, _, I.laid (t' := s.toks) kp (Nat.le_refl _) (show ObjOk X.prog X.w _ h' _ (.lst ys) from ⟨hz, its, c', r', e⟩), rfl, q _ (I.hok.fresh (Nat.le_refl _))⟩
 rcases hq with hq | hq
 ·obtain ⟨its, r', pl, hz⟩ := I.list hq
  have hlen := r'.length
  obtain ⟨o, ho, hc, n, hd⟩ := pl.isList
  exact call_list_seq p (.inl rfl) ho hc hd (fun h' c' kp e => fin its r' hz h' c' kp e) (by simp only [List.size_toArray] <;> omega)
 ·obtain ⟨its, r', pl, hz⟩ := I.tuple hq
  have hlen := r'.length
  obtain ⟨o, ho, hc, n, hd⟩ := pl
  exact call_list_seq p (.inr rfl) ho hc hd (fun h' c' kp e => fin its r' hz h' c' kp e) (by simp only [List.size_toArray] <;> omega)
noncomputable def tyV (K : PySem.W.Frag) (T : String) (x : V) (H : Hp) : Prop := match x with
 | .str _ => T = "str"
 | .int _ => T = "int"
 | .ref p => (T = "list" ∧ ∃ xs, SqL K H p xs) ∨ (T = "tuple" ∧ ∃ o, K.lookup p = some o ∧ o.cls = .type "tuple" ∧ o.dict = none) ∨
   (T = "dict" ∧ ((∃ kvs, H p = some (.dK kvs)) ∨ ∃ kvs, H p = some (.dT kvs))) ∨ (T = "set" ∧ ∃ S n, H p = some (.set S n))
 | _ => False
theorem tyV_is {pins : List (Addr × Obj)} {σ : St} {H : Hp} {s : Shared} {T : String} {x : V} {v : Value} (I : Inv X pins σ H s) (r : RelV x v) (ty : tyV X.K T x H) :
  s.TypeIs v T ∧ ∀ a, v = .ref a → ∃ ob, s.heap.get? a = some ob ∧ ob.dict = none := by
 cases x with
 | str z =>
  obtain ⟨t, rfl⟩ := r
  cases (show T = "str" from ty)
  exact ⟨typeIs_str s z t, fun _ e => nomatch e⟩
 | int i =>
  obtain ⟨t, rfl⟩ := r
  cases (show T = "int" from ty)
  exact ⟨typeIs_int s i t, fun _ e => nomatch e⟩
 | ref p =>
  cases r
  rcases ty with ⟨rfl, xs, hq⟩ | ⟨rfl, o, hk, hc, hd⟩ | ⟨rfl, hk⟩ | ⟨rfl, S, n, hk⟩
  ·obtain ⟨its, _, pl, _⟩ := I.list hq
   refine ⟨pl.isList.typeIs, fun a e => ?_⟩
   cases e
   obtain ⟨o, n, e, c, hd, _⟩ := pl
   exact ⟨o, e, hd⟩
  ·refine ⟨⟨o, I.kIn p o hk, hc⟩, fun a e => ?_⟩
   cases e
   exact ⟨o, I.kIn _ o hk, hd⟩
  ·have z : ∃ o, s.heap.get? p = some o ∧ o.ExactDict := by
    rcases hk with ⟨kvs, hk⟩ | ⟨kvs, hk⟩
    ·obtain ⟨_, _, _, _, o, _, _, e, ex, _⟩ := I.hok p _ hk
     exact ⟨o, e, ex⟩
    ·obtain ⟨_, _, _, _, o, _, _, e, ex, _⟩ := I.hok p _ hk
     exact ⟨o, e, ex⟩
   obtain ⟨o, e, ex⟩ := z
   refine ⟨⟨o, e, ex.1⟩, fun a e2 => ?_⟩
   cases e2
   exact ⟨o, e, ex.2.1⟩
  ·obtain ⟨o, _, _, _, e, ex, _⟩ := I.hok p _ hk
   refine ⟨⟨o, e, ex.1⟩, fun a e2 => ?_⟩
   cases e2
   exact ⟨o, e, ex.2.1⟩
 | _ => exact False.elim ty
noncomputable def tBM (K : PySem.W.Frag) (T : String) (r : V → List V → Hp → VK → Prop) (to : TE) (t : TA) : TE := fun σ H Q => to σ H fun x H1 => tyV K T x H1 ∧ t σ H1 fun xs H2 => r x xs H2 Q
variable {o e : Expr} {es : List Expr} {to : TE} {t : TA} {name : Str} {apos cpos : Pos} {T id : String} {r : V → List V → Hp → VK → Prop}
theorem pe_bm (pa : PlainAttrs T) (slot : Slot T name id) (hty : typeOf (.builtin id) = pure (.type "method_descriptor")) (hm : MtR X id r) (ho : PE X o to) (ha : PA X (e :: es) t)
  (hbase : attributeBase o name X.env (eval o X.env) = eval o X.env := by rfl)
  (hfew : ((backTo cpos (starEach (e :: es) X.env)).all (fun x => !x.1) && (backToKw cpos (keywordEach [] X.env)).all (fun x => x.1.isSome)
   && decide ((e :: es).length + ([] : List Keyword).length + (if ([] : List Keyword).isEmpty then 0 else 1) < 30)) = true := by rfl)
  (hline : (apos.endLine == cpos.line) = true := by rfl) (hs : starEach (e :: es) X.env = (false, eval e X.env) :: starEach es X.env := by rfl) (hplain : (backTo cpos (starEach es X.env)).any (·.1) = false := by rfl) :
  PE X (.Call (.Attribute o name apos) (e :: es) [] cpos) (tBM X.K T r to t) := by
 intro pins s σ H Q I h
 refine wpAny_Call_method_late hbase hfew hline rfl (thn (ho pins s σ H _ I h) fun v s1 ⟨x, H1, I1, r1, ty, q1⟩ => ?_)
 obtain ⟨h1, h2⟩ := tyV_is I1 r1 ty
 refine ⟨T, id, pa, slot, hty, h1, h2, ?_⟩
 have hA := ha cpos pins s1 σ H1 _ I1 q1
 rw [hs] at hA ⊢
 refine Calls.callWith_builtin (by show (false || (backTo cpos (starEach es X.env)).any (·.1)) = false; rw [hplain] <;> rfl) (Calls.evalArgs_plain ?_)
 exact thn hA fun us s2 ⟨vs, H2, I2, r2, q2⟩ => hm pins s2 σ H2 x vs v us Q I2 r1 r2 q2
end
end L2
namespace L2
open PySem PySem.Spec PyProof.Rows
noncomputable def MtM (X : Cx) (id : String) (r : V → List V → Hp → VK → Prop) : Prop :=
 ∀ (pins : List (Addr × Obj)) (s : Shared) (σ : St) (H : Hp) (x : V) (xs : List V) (v : Value) (us : List Value) (Q : VK), Inv X pins σ H s → RelV x v → Vals xs us → r x xs H Q →
  wpAny (model X.prog X.w) X.A (call (.builtin id) (v :: us)) (EP X pins σ Q) X.xe s
theorem Vals.one : ∀ {x : V} {us : List Value}, Vals [x] us → ∃ u, us = [u] ∧ RelV x u
 | _, _, .cons r .nil => ⟨_, rfl, r⟩
theorem Vals.two : ∀ {x y : V} {us : List Value}, Vals [x, y] us → ∃ u v, us = [u, v] ∧ RelV x u ∧ RelV y v
 | _, _, _, .cons r (.cons q .nil) => ⟨_, _, rfl, r, q⟩
theorem Vals.zero : ∀ {us : List Value}, Vals [] us → us = []
 | _, .nil => rfl
theorem Vals.eraseIdx : ∀ {xs : List V} {us : List Value} (i : Nat), Vals xs us → Vals (xs.eraseIdx i) (us.eraseIdx i)
 | _, _, _, .nil => .nil
 | _, _, 0, .cons _ t => t
 | _, _, i + 1, .cons r t => .cons r (Vals.eraseIdx i t)
theorem len_erase {α : Type} : ∀ (l : List α) (i : Nat), (l.eraseIdx i).length ≤ l.length
 | [], _ => Nat.le_refl _
 | _ :: _, 0 => Nat.le_succ _
 | _ :: r, i + 1 => Nat.succ_le_succ (len_erase r i)
section
variable {X : Cx} {pins : List (Addr × Obj)} {σ : St} {H : Hp} {s : Shared} {l b : Addr} {xs ys zs : List V}
theorem Inv.lset {its its' : List Value} {n : Nat} {f : Array Value → Array Value} {t' : Nat} (I : Inv X pins σ H s) (hH : H l = some (.lst xs))
  (e : s.heap.get? l = some { cls := .type "list", data := .seq its.toArray n }) (hf : f its.toArray = its'.toArray) (hv : Vals ys its') (hz : ys.length ≤ sizeLine) :
  Inv X pins σ (upd H l (.lst ys)) { s with heap := s.heap.update l (Obj.mapSeq f), toks := t' } := by
 have q := PySem.IsL.update e f
 rw [hf] at q
 refine I.write (x := l) (e := l) (by rw [hH]; exact trivial) (.inl rfl) (fun b' u hb hu => (Heap.get?_update_other s.heap (Obj.mapSeq f) (Ne.symm hb)).trans hu) ⟨_, q⟩ ?_
 exact ⟨hz, its', _, hv, q⟩
theorem Inv.lnew {its : List Value} {t' : Nat} (I : Inv X pins σ H s) (hv : Vals ys its) (hz : ys.length ≤ sizeLine) :
  Inv X pins σ (upd H s.heap.objs.size (.lst ys)) { s with heap := s.heap.push { cls := .type "list", data := .seq its.toArray }, toks := t' } :=
 I.laid (fun _ _ q => Heap.get?_push_of_some _ q) (Nat.le_refl _) ⟨hz, its, 0, hv, Heap.get?_push_size _ rfl⟩
theorem Inv.fresh (I : Inv X pins σ H s) : H s.heap.objs.size = none := I.hok.fresh (Nat.le_refl _)
theorem Inv.lstM (I : Inv X pins σ H s) (hH : H l = some (.lst xs)) : xs.length ≤ sizeLine ∧ ∃ (its : List Value) (n : Nat), Vals xs its ∧ xs.length = its.length ∧ s.heap.get? l = some { cls := .type "list", data := .seq its.toArray n } := by
 obtain ⟨z, its, n, r, e⟩ := I.hok l _ hH
 exact ⟨z, its, n, r, r.length, e⟩
theorem notLongL {n : Nat} (h : n ≤ sizeLine) : Builtin.List.listTooLong n = false := by
 unfold Builtin.List.listTooLong
 exact decide_eq_false (by omega)
end
section
variable {X : Cx}
noncomputable def rAppend : V → List V → Hp → VK → Prop := fun x vs H Q => ∃ l xs y, x = .ref l ∧ vs = [y] ∧ H l = some (.lst xs) ∧ xs.length < sizeLine ∧ Q .non (upd H l (.lst (xs ++ [y])))
theorem mt_append : MtM X "list.append" rAppend := by
 intro pins s σ H x vs v us Q I rx rv h
 obtain ⟨l, xs, y, rfl, rfl, hH, hz, q⟩ := h
 cases rx
 obtain ⟨u, rfl, ru⟩ := rv.one
 obtain ⟨z, its, n, r, hl, e⟩ := I.lstM hH
 refine call_meets F.slot_list_append ⟨_, e, rfl⟩ F.entry_list_append (F.args_list_append_2 _ _) (PySem.list_append l its.toArray n u (by rw [List.size_toArray]; omega)) ⟨e, ?_⟩
 refine ⟨.non, _, I.lset (its' := its ++ [u]) hH e (by simp) (r.append (.cons ru .nil)) ?_, rfl, q⟩
 rw [List.length_append, List.length_singleton]
 omega
noncomputable def rExtend : V → List V → Hp → VK → Prop := fun x vs H Q => ∃ l b xs zs, x = .ref l ∧ vs = [.ref b] ∧ H l = some (.lst xs) ∧ H b = some (.lst zs) ∧ xs.length + zs.length ≤ sizeLine ∧ Q .non (upd H l (.lst (xs ++ zs)))
theorem mt_extend : MtM X "list.extend" rExtend := by
 intro pins s σ H x vs v us Q I rx rv h
 obtain ⟨l, b, xs, zs, rfl, rfl, hH, hB, hz, q⟩ := h
 cases rx
 obtain ⟨u, rfl, ru⟩ := rv.one
 cases ru
 obtain ⟨z, its, n, r, hl, e⟩ := I.lstM hH
 obtain ⟨z2, its2, n2, r2, hl2, e2⟩ := I.lstM hB
 have hsz : its.toArray.size + its2.toArray.size ≤ sizeLine := by rw [List.size_toArray, List.size_toArray]; omega
 have hlong : ¬ (!its.toArray.isEmpty && Builtin.List.listTooLong (its.toArray.size + its2.toArray.size)) = true := by
  rw [notLongL hsz, Bool.and_false]
  exact Bool.false_ne_true
 refine call_meets F.slot_list_extend ⟨_, e, rfl⟩ F.entry_list_extend (F.args_list_extend_2 _ _)
  (AutoSeq1.list_extend_list_list_0 l its.toArray n b its2.toArray n2 hlong (by rw [List.size_toArray]; omega) (by omega)) ⟨e, e2, ?_⟩
 refine ⟨.non, _, I.lset (its' := its ++ its2) hH e (by simp) (r.append r2) ?_, rfl, q⟩
 rw [List.length_append]
 omega
noncomputable def rPopAt : V → List V → Hp → VK → Prop := fun x vs H Q => ∃ l xs i k y, x = .ref l ∧ vs = [.int i] ∧ H l = some (.lst xs) ∧ -(2 ^ 63) ≤ i ∧ i < 2 ^ 63 ∧ seqIndex? i xs.length = some k ∧ xs[k]? = some y ∧ Q y (upd H l (.lst (xs.eraseIdx k)))
theorem mt_popAt : MtM X "list.pop" rPopAt := by
 intro pins s σ H x vs v us Q I rx rv h
 obtain ⟨l, xs, i, k, y, rfl, rfl, hH, h1, h2, hk, hy, q⟩ := h
 cases rx
 obtain ⟨u, rfl, ru⟩ := rv.one
 obtain ⟨t, rfl⟩ := ru
 obtain ⟨z, its, n, r, hl, e⟩ := I.lstM hH
 obtain ⟨w, hw, rw'⟩ := r.get hy
 refine call_meets F.slot_list_pop ⟨_, e, rfl⟩ F.entry_list_pop (F.args_list_pop_2 _ _)
  (MeetsSeq.list_pop_at l its.toArray n i t k w (fitsIndex_both h1 h2) (by rw [List.size_toArray, ← hl]; exact hk) (by rw [← Array.getElem?_toList]; exact hw) (by rw [List.size_toArray]; omega)) ⟨e, ?_⟩
 refine ⟨y, _, I.lset (its' := its.eraseIdx k) hH e ?_ (r.eraseIdx k) ?_, rw', q⟩
 ·show its.toArray.eraseIdxIfInBounds k = (its.eraseIdx k).toArray
  rw [List.eraseIdxIfInBounds_toArray]
 ·have := len_erase xs k
  omega
noncomputable def rCat : R2 := fun x y H Q => ∃ l b xs zs, x = .ref l ∧ y = .ref b ∧ H l = some (.lst xs) ∧ H b = some (.lst zs) ∧ xs.length + zs.length ≤ sizeLine ∧ ∀ p, H p = none → Q (.ref p) (upd H p (.lst (xs ++ zs)))
theorem op_cat : OpR X (binaryOp .Add) rCat := by
 intro pins s σ H x y v u Q I rx ry h
 obtain ⟨l, b, xs, zs, rfl, rfl, hH, hB, hz, q⟩ := h
 cases rx
 cases ry
 obtain ⟨z, its, n, r, hl, e⟩ := I.lstM hH
 obtain ⟨z2, its2, n2, r2, hl2, e2⟩ := I.lstM hB
 refine PySem.P.add_list e e2 ?_ (by rw [List.size_toArray, List.size_toArray]; omega)
 have ea : its.toArray ++ its2.toArray = (its ++ its2).toArray := by simp
 rw [ea]
 exact ⟨.ref _, _, I.lnew (t' := s.toks) (r.append r2) (by rw [List.length_append]; omega), rfl, q _ I.fresh⟩
end
section
variable {prog : Program} {w : World} {A : Around} {E : Value → Shared → Prop} {s : Shared}
end
section
variable {X : Cx}
end
end L2
namespace Att
open PySem PySem.W PySem.Calls PyProof.Rows
theorem ints_of_wellAll {P : Params} {h : Heap} : ∀ (ns : List Int) (vs : List Value), WellAll P h vs (ns.map WData.int) → IntsAre vs ns := by
 intro ns
 induction ns with
 | nil =>
  intro vs w
  rw [List.map_nil] at w
  cases w
  exact .nil
 | cons n ns ih =>
  intro vs w
  rw [List.map_cons] at w
  cases w with
  | cons a b =>
   cases a
   exact .cons _ _ (ih _ b)
theorem script_of {l : OpenLaw} {n : Nat} (hn : l.most = some n) {P : Params} {h : Heap} {args : List WData} {vals : List Value}
  (hpre : l.row.toRowW.claim.pre args = true) (hwl : WellAll P h vals args) :
  ∃ a vs ns, vals = [Value.ref a] ∧ args = [WData.list (ns.map WData.int)] ∧ h.get? a = some { cls := .type "list", data := .seq vs.toArray } ∧ IntsAre vs ns ∧ ns.length ≤ n := by
 have hsh : WShape.hasAll [] args [.list .int] = true := (pre_splitW hpre).1
 have hc : l.pre.holds [] { args := args } = true := (pre_splitW hpre).2
 obtain ⟨d, r, rfl, h1, h2⟩ := hasAllW_cons hsh
 obtain rfl := hasAllW_nil h2
 obtain ⟨xs, rfl, h3⟩ := hasW_list h1
 obtain ⟨ns, rfl⟩ := items_int h3
 have hlen : ns.length ≤ n := by
  unfold OpenLaw.pre at hc
  have h4 : (WTm.not (.lt (.lit (.int (n : Int))) (.len (.arg 0)))).holds [] { args := [.list (ns.map .int)] } = true := by
   have h4 := (holds_andW hc).1
   rw [hn] at h4
   exact h4
  have h5 := condW_of h4 (w_not (w_lt w_lit (w_len_list (w_arg rfl))))
  rw [List.length_map] at h5
  refine Nat.le_of_not_lt fun q => ?_
  have q' : (n : Int) < ((ns.length : Nat) : Int) := by omega
  first
   | (rw [decide_eq_true q'] at h5; exact absurd h5 (by decide))
   | (simp at h5; omega)
 cases hwl with
 | cons w1 w2 =>
  cases w2
  cases w1 with
  | list ho hall => exact ⟨_, _, ns, rfl, rfl, ho, ints_of_wellAll ns _ hall, hlen⟩
theorem post_true (l : OpenLaw) (args : List WData) : l.row.toRowW.claim.post args (.bool true) args = true :=
 postW_of (r := l.row.toRowW) (X := (true == true))
  (show WShape.has [] (.bool true) .bool = true by first | rfl | decide | simp [WShape.has, WShape.arms, WShape.armsAll])
  (show (WTm.eq .res (.lit (.bool true))).value [] { args := args, res := some (.bool true), after := args } = some (.bool (true == true)) from w_eq_bool (w_res rfl) w_lit) rfl
theorem attach_call {l : OpenLaw} {n : Nat} {q : Program} {loose : List Str} {XP : (Str → Option Value) → Heap → Prop} {YP : World → Heap → Prop} {d : DefRec}
  (hn : l.most = some n) (hdf : d.params.defaults = [])
  (call : ∀ (w : World) (s₀ s₁ : Shared) (mg mb : Str → Option Value) (fa : Addr) (o : Obj) (pm cd doc : Value) (a : Addr) (vs : List Value) (ns : List Int),
   Ground q loose [] XP w s₀ mg mb s₁.heap → YP w s₁.heap →
   s₁.heap.get? fa = some o → o.data = .func (docDef d.name d.params d.body d.scope pm cd doc) → s₁.heap.CodeRec cd d.name → mg d.name = some (.ref fa) →
   s₁.heap.get? a = some { cls := .type "list", data := .seq vs.toArray } → IntsAre vs ns → ns.length ≤ n → s₁.gens = #[] →
   codeAny (model l.prog w) callerA (.call (.ref fa) ⟨[.ref a], []⟩) (fun r s' => r = .ok (.ret (.bool true)) ∧ OldK s₁.heap s'.heap ∧ s'.os = s₁.os ∧ AllBare s'.gens) s₁) :
  WalkO q loose XP YP l.row.toRowW d [] (fun f vs => PySem.call f vs) := by
 intro w s₀ s₁ mg mb G Y fa o pm cd doc dV kV ho hd hcd hD hmg hg args vals as hpre hlay hrd hwl hlo
 obtain rfl : dV = .none := Dflts.none hD hdf
 obtain rfl : kV = .none := Dflts.noKw hD
 obtain ⟨a, vs, ns, rfl, rfl, hobj, hints, hlen⟩ := script_of hn hpre hwl
 refine enter_call (codeAny_mono (call w s₀ s₁ mg mb fa o pm cd doc a vs ns G Y ho (fd_plain hd) hcd hmg hobj hints hlen hg) fun r s' hq => ?_)
 obtain ⟨rfl, h2, h3, h4⟩ := hq
 exact ⟨.inl ⟨.bool true, .bool true, [], rfl, fun _ => rfl, .bool true, post_true l _, fun _ => ⟨List.Pairwise.nil, fun _ hm => (nomatch hm)⟩⟩, h2, h3, h4⟩
section
variable {prog : Program} {w : World} {A : Around} {E : Value → Shared → Prop} {s : Shared} {K : Frag}
end
end Att
namespace L2
open PySem PySem.Spec PyProof.Rows
theorem vals_ints : ∀ {vs : List Value} {ns : List Int}, IntsAre vs ns → Vals (ns.map V.int) vs
 | _, _, .nil => .nil
 | _, _, .cons n t h => .cons ⟨t, rfl⟩ (vals_ints h)
noncomputable def Only (H : Hp) : Prop := ∀ b, H b = none ∨ ∃ o xs, H b = some (.frz o (.lst xs))
theorem law_call {P : Program} {w : World} {K : PySem.W.Frag} {mg mb : Str → Option Value} {CX : CXT} {k : Nat} {fa a : Addr} {fd : FuncData} {x : Str} {sp : Sp} {s₁ : Shared} {vs : List Value} {ns : List Int}
  (KX : K.In s₁.heap) (hns : s₁.heap.Ns mainGlobals mg) (hb : s₁.heap.Ns builtinsNs mb) (hbb : ∀ x : Str, x ≠ "__name__" → mb x = bootBuiltins x) (hlim : s₁.heap.NoLimit) (hg : s₁.gens = #[])
  (ha : s₁.heap.get? a = some { cls := .type "list", data := .seq vs.toArray }) (hi : IntsAre vs ns) (hl : ns.length ≤ sizeLine) (hr : Room k callerA)
  (F : ∀ base : Heap, K.In base → base.Ns mainGlobals mg → FnOk P w K mg base CX k fa fd [x] sp) (hbind : ∀ (s : Shared) (u : Value), BindsTo s fd ⟨[u], []⟩ [(x, u)])
  (hsp : ∀ H : Hp, Only H → SqL K H a (ns.map V.int) → sp [.ref a] H (fun v _ => v = .bl true) fun _ _ _ => False)
  (hCX : ∀ H e s', CX [] H s₁ (fun _ _ _ => False) e s' → False) :
  codeAny (model P w) callerA (.call (.ref fa) ⟨[.ref a], []⟩) (fun r s' => r = .ok (.ret (.bool true)) ∧ OldK s₁.heap s'.heap ∧ s'.os = s₁.os ∧ AllBare s'.gens) s₁ := by
 have rv := vals_ints hi
 have lenV := hi.length
 have core : ∀ H : Hp, Only H → SqL K H a (ns.map V.int) → HOk P w H s₁.heap → (∀ b, H b ≠ none → b = a) → (H a ≠ none → K.lookup a = none) →
   codeAny (model P w) callerA (.call (.ref fa) ⟨[.ref a], []⟩) (fun r s' => r = .ok (.ret (.bool true)) ∧ OldK s₁.heap s'.heap ∧ s'.os = s₁.os ∧ AllBare s'.gens) s₁ := by
  intro H hO hS hok hA hK
  have base_of : ∀ {b : Addr} {o : Obj}, s₁.heap.get? b = some o → H b = none → (hidT s₁.heap H).get? b = some o := fun e n => hidT_get e n
  have noA : ∀ {b : Addr} {o : Obj} {es : Array DictEntry} {ep : Nat}, s₁.heap.get? b = some o → o.data = .dict es ep → H b = none := fun {b o es ep} e d => by
   cases q : H b with
   | none => rfl
   | some u =>
    have e' : b = a := hA b (by rw [q]; simp)
    subst e'
    rw [ha] at e; cases e
    have d' : Data.seq vs.toArray _ = Data.dict es ep := d
    cases d'
  have nsK : ∀ {b : Addr} {m : Str → Option Value}, s₁.heap.Ns b m → (hidT s₁.heap H).Ns b m := fun {b m} ⟨o, es, ep, e, d, r⟩ => ⟨o, es, ep, base_of e (noA e d), d, r⟩
  have hKb : K.In (hidT s₁.heap H) := fun b o e => base_of (KX b o e) (by
   cases q : H b with
   | none => rfl
   | some u =>
    have e' : b = a := hA b (by rw [q]; simp)
    subst e'
    rw [hK (by rw [q]; simp)] at e; cases e)
  have hM : Mod K mg (hidT s₁.heap H) := ⟨hKb, nsK hns, ⟨mb, nsK hb, hbb⟩, let ⟨mc, h1, h2⟩ := hlim; ⟨mc, nsK h1, h2⟩⟩
  have e0 : Env0 P w K mg (hidT s₁.heap H) callerA [] s₁ H := ⟨rfl, hM, fun b o e => of_hidT e, Nat.le_of_eq (hidT_size _ _), trivial, fun b hb => absurd (show b ∈ ([] : List Addr) from hb) (by simp), hok, .of_eq hg⟩
  refine codeAny_mono ((F _ hKb (nsK hns)).run callerA [] s₁ H ⟨[.ref a], []⟩ [.ref a] [.ref a] _ _ hr e0 (hbind s₁ (.ref a)) (.cons rfl .nil) (hsp H hO hS)) fun r s' h => ?_
  cases r with
  | error e => exact (hCX H e s' h).elim
  | ok fl =>
   cases fl with
   | next => exact False.elim h
   | brk => exact False.elim h
   | cont => exact False.elim h
   | ret u =>
    obtain ⟨v, H', os, bare, un, hok', r', q⟩ := h
    have q' : v = .bl true := q
    subst q'
    obtain rfl : u = Value.bool true := r'
    refine ⟨rfl, OldK.of_keep fun b o e => ?_, os, bare⟩
    cases q : H b with
    | none => exact un.keep b o e q (by intro z; exact absurd (show b ∈ ([] : List Addr) from z) (by simp)) (by simp)
    | some u =>
     rcases hO b with z | ⟨ob, xs, z⟩
     ·rw [q] at z; cases z
     ·have z2 := un.frzs b ob _ z
      obtain ⟨e1, _⟩ := hok b _ z
      obtain ⟨e2, _⟩ := hok' b _ z2
      rw [e] at e1; cases e1
      exact e2
 cases hk : K.lookup a with
 | some o =>
  have e := KX a o hk
  rw [ha] at e
  cases e
  refine core (fun _ => none) (fun _ => .inl rfl) (.inr ⟨_, vs.toArray, _, hk, rfl, rfl, rfl, by rw [List.size_toArray, lenV]; exact hl, by simpa using rv⟩) (fun b u z => by have z' : (none : Option HO) = some u := z; cases z') (fun b z => absurd rfl z) fun z => absurd rfl z
 | none =>
  refine core (fun b => if b = a then some (.frz { cls := .type "list", data := .seq vs.toArray } (.lst (ns.map V.int))) else none) (fun b => ?_) (.inl (.inr ⟨{ cls := .type "list", data := .seq vs.toArray }, if_pos rfl⟩)) (fun b u z => ?_) (fun b z => ?_) fun _ => hk
  ·by_cases hb : b = a
   ·exact .inr ⟨_, _, if_pos hb⟩
   ·exact .inl (if_neg hb)
  ·by_cases hb : b = a
   ·have z' := (if_pos hb).symm.trans z
    cases z'
    subst hb
    exact ⟨ha, by rw [List.length_map]; exact hl, vs, _, rv, ha⟩
   ·have z' := (if_neg hb).symm.trans z
    cases z'
  ·by_cases hb : b = a
   ·exact hb
   ·exact absurd (if_neg hb) z
end L2
namespace L2
open PySem PySem.Spec PyProof.Rows
theorem walk_of {l : PySem.W.OpenLaw} {n k : Nat} {q : Program} {loose : List Str} {XP : (Str → Option Value) → Heap → Prop} {YP : World → Heap → Prop} {d : DefRec} {K : Params → PySem.W.Frag} {CX : World → CXT} {sp : World → Sp} {x : Str}
  (hn : l.most = some n) (hn2 : n ≤ sizeLine) (hdf : d.params.defaults = []) (hr : Room k callerA)
  (hY : ∀ (w : World) (h : Heap), YP w h → (K w.params).In h)
  (F : ∀ (w : World) (mg : Str → Option Value) (fa : Addr) (h : Heap), (K w.params).In h → h.Ns mainGlobals mg → mg d.name = some (.ref fa) →
   ∃ fd : FuncData, (∀ (s : Shared) (u : Value), BindsTo s fd ⟨[u], []⟩ [(x, u)]) ∧
    ∀ base : Heap, (K w.params).In base → base.Ns mainGlobals mg → FnOk l.prog w (K w.params) mg base (CX w) k fa fd [x] (sp w))
  (hsp : ∀ (w : World) (H : Hp) (a : Addr) (ns : List Int), ns.length ≤ n → Only H → SqL (K w.params) H a (ns.map V.int) → sp w [.ref a] H (fun v _ => v = .bl true) fun _ _ _ => False)
  (hCX : ∀ (w : World) (H : Hp) (s : Shared) (e : Value) (s' : Shared), CX w [] H s (fun _ _ _ => False) e s' → False) :
  PySem.W.WalkO q loose XP YP l.row.toRowW d [] (fun f vs => PySem.call f vs) := by
 refine Att.attach_call hn hdf fun w s₀ s₁ mg mb fa o pm cd doc a vs ns G Y ho hd hcd hmg hobj hints hlen hg => ?_
 have KX := hY w _ Y
 obtain ⟨fd, hb, hF⟩ := F w mg fa _ KX G.T.g hmg
 exact law_call KX G.T.g G.T.b G.T.builtins G.T.nolimit hg hobj hints (Nat.le_trans hlen hn2) hr hF hb (fun H hO hS => hsp w H a ns hlen hO hS) fun H e s' => hCX w H s₁ e s'
end L2
namespace L2
open PySem PySem.Spec PyProof.Rows
noncomputable def defArgs (s : Stmt) : Arguments := match s with
 | .FunctionDef _ a _ _ _ _ _ _ _ _ => a
 | _ => { posonlyargs := [], args := [], vararg := none, kwonlyargs := [], kw_defaults := [], kwarg := none, defaults := [] }
noncomputable def defBody (s : Stmt) : List Stmt := match s with
 | .FunctionDef _ _ b _ _ _ _ _ _ _ => b
 | _ => []
noncomputable def defScope (s : Stmt) : Scope := match s with
 | .FunctionDef _ _ _ _ _ _ sc _ _ _ => sc
 | _ => { kind := .function, names := [], isGenerator := false, isCoroutine := false }
noncomputable abbrev CX0 : CXT := fun _ _ _ _ _ _ => False
noncomputable abbrev E0 : XK := fun _ _ _ => False
theorem pass0 {X : Cx} : Passes CX0 X E0 := fun _ _ _ _ _ _ _ h => h.elim
structure Fun (K : PySem.W.Frag) (x qual : Str) (st : Stmt) (f : Addr) (fd : FuncData) : Prop where
 ex : ∃ (oc : Value) (od : Option Addr) (kV doc pm : Value) (an : Option Addr) (cdv ct : Value) (osl : Array (Option Value)),
  fd = PySem.W.fnOf x qual (defArgs st) (defBody st) (defScope st) .none kV doc pm an cdv ct ∧ K.lookup f = some ⟨oc, od, .func fd, osl⟩ ∧ PySem.W.codeIn K cdv qual = true
 kp : PySem.W.keepIn K (.ref f) = true
section
variable {P : Program} {w : World} {K : PySem.W.Frag} {mg : Str → Option Value} {base : Heap}
theorem Fun.ok {x qual : Str} {st : Stmt} {f : Addr} {fd : FuncData} {N ps : List Str} {k : Nat} {sp : Sp} (F : Fun K x qual st f fd) (S : FnScope N ps (defScope st)) (len : ∀ vs H Q E, sp vs H Q E → vs.length = ps.length)
  (hbody : ∀ (cdv : Value) (A : Around) (outer : List Env) (s : Shared) (H : Hp) (vs : List V) (Q : VK) (E : XK), Room k (A.deeper (envOfC qual (defScope st) s.heap.objs.size f cdv)) → sp vs H Q E →
   ∃ t, PSs (cxOf CX0 P w K mg base N qual (defScope st) f cdv A outer s H E).nox (defBody st) t ∧ t { nx := fun _ H' => Q .non H', rt := Q } (start N vs) H) : FnOk P w K mg base CX0 (k + 1) f fd ps sp := by
 obtain ⟨oc, od, kV, doc, pm, an, cdv, ct, osl, rfl, lk, hcd⟩ := F.ex
 refine fn_of lk hcd S len fun A outer s H vs Q E hr hsp => ?_
 obtain ⟨t, h, q⟩ := hbody cdv A outer s H vs Q E hr hsp
 exact ⟨t, h.nox, q⟩
theorem Fun.binds {x qual : Str} {st : Stmt} {f : Addr} {fd : FuncData} {ps : List Str} (F : Fun K x qual st f fd)
  (h : ∀ (kV doc pm : Value) (an : Option Addr) (cdv ct : Value) (us : List Value), us.length = ps.length → bindArgs (PySem.W.fnOf x qual (defArgs st) (defBody st) (defScope st) .none kV doc pm an cdv ct) ⟨us, []⟩ = pure (ps.zip us)) : Binds K fd ps [] := by
 obtain ⟨oc, od, kV, doc, pm, an, cdv, ct, osl, rfl, lk, hcd⟩ := F.ex
 exact .all (h kV doc pm an cdv ct)
theorem fun_mk {x qual : Str} {st : Stmt} {f : Addr} {oc : Value} {od an : Option Addr} {osl : Array (Option Value)} {kV doc pm cdv ct : Value} (l : K.lookup f = some ⟨oc, od, .func (PySem.W.fnOf x qual (defArgs st) (defBody st) (defScope st) .none kV doc pm an cdv ct), osl⟩)
  (c : PySem.W.codeIn K cdv qual = true) (k : PySem.W.keepIn K (.ref f) = true) : Fun K x qual st f (PySem.W.fnOf x qual (defArgs st) (defBody st) (defScope st) .none kV doc pm an cdv ct) := ⟨⟨oc, od, kV, doc, pm, an, cdv, ct, osl, rfl, l, c⟩, k⟩
end
section
variable {X : Cx}
end
theorem iteF {A B : Prop} (h : B) : if false = true then A else B := by
 rw [if_neg Bool.false_ne_true]
 exact h
theorem iteT {A B : Prop} (h : A) : if true = true then A else B := by
 rw [if_pos rfl]
 exact h
theorem ite2 {c A B : Prop} [Decidable c] (h1 : c → A) (h2 : ¬ c → B) : if c then A else B := by
 by_cases h : c
 ·rw [if_pos h]
  exact h1 h
 ·rw [if_neg h]
  exact h2 h
noncomputable def Same (H H' : Hp) : Prop := ∀ b o, H b = some o → H' b = some o
theorem Same.refl (H : Hp) : Same H H := fun _ _ h => h
theorem Same.trans {H H1 H2 : Hp} (a : Same H H1) (b : Same H1 H2) : Same H H2 := fun c o h => b c o (a c o h)
theorem Same.free {H H' : Hp} (e : Same H H') {l : Addr} (h : H' l = Option.none) : H l = Option.none := by
 cases q : H l with
 | none => rfl
 | some o =>
  rw [e l o q] at h
  cases h
theorem Same.seq {K : PySem.W.Frag} {H H' : Hp} {a : Addr} {xs : List V} (e : Same H H') (h : SqL K H a xs) : SqL K H' a xs := by
 rcases h with (h | ⟨o, h⟩) | h
 ·exact .inl (.inl (e _ _ h))
 ·exact .inl (.inr ⟨o, e _ _ h⟩)
 ·exact .inr h
end L2
namespace L2
open PySem PySem.Spec PyProof.Rows
section
variable {κ : Type} [DecidableEq κ]
noncomputable def valV (kvs : List (κ × V)) (k : κ) : Option V := (kvs.find? fun kv => decide (kv.1 = k)).map (·.2)
noncomputable def putK (kvs : List (κ × V)) (k : κ) (v : V) : List (κ × V) :=
 if (kvs.any fun kv => decide (kv.1 = k)) = true then kvs.map (fun kv => if kv.1 = k then (kv.1, v) else kv) else kvs ++ [(k, v)]
theorem valV_pos {p : κ × V} {r : List (κ × V)} {k : κ} (e : p.1 = k) : valV (p :: r) k = some p.2 := by simp [valV, List.find?_cons, e]
theorem valV_neg {p : κ × V} {r : List (κ × V)} {k : κ} (e : ¬ p.1 = k) : valV (p :: r) k = valV r k := by simp [valV, List.find?_cons, e]
theorem valV_any (k : κ) : ∀ kvs : List (κ × V), (kvs.any fun kv => decide (kv.1 = k)) = (valV kvs k).isSome
 | [] => rfl
 | p :: r => by
  rw [List.any_cons]
  by_cases e : p.1 = k
  ·simp only [valV_pos e, decide_eq_true e, Bool.true_or, Option.isSome_some]
  ·rw [valV_neg e, decide_eq_false e, Bool.false_or]; exact valV_any k r
theorem valV_map (k j : κ) (y : V) : ∀ kvs : List (κ × V), valV (kvs.map fun kv => if kv.1 = k then (kv.1, y) else kv) j = (valV kvs j).map fun x => if j = k then y else x
 | [] => rfl
 | p :: r => by
  have ih := valV_map k j y r
  rw [List.map_cons]
  by_cases h : p.1 = k
  ·rw [if_pos h]
   by_cases e : p.1 = j
   ·rw [valV_pos (p := (p.1, y)) e, valV_pos e, Option.map_some, if_pos (e.symm.trans h)]
   ·rw [valV_neg (p := (p.1, y)) e, valV_neg e, ih]
  ·rw [if_neg h]
   by_cases e : p.1 = j
   ·rw [valV_pos (p := p) e, valV_pos e, Option.map_some, if_neg (fun z => h (e.trans z))]
   ·rw [valV_neg (p := p) e, valV_neg e, ih]
theorem valV_snoc (k j : κ) (y : V) : ∀ kvs : List (κ × V), valV kvs k = none → valV (kvs ++ [(k, y)]) j = if j = k then some y else valV kvs j
 | [], _ => by
  by_cases e : k = j
  ·rw [if_pos e.symm]; exact valV_pos (p := (k, y)) e
  ·rw [if_neg (fun z => e z.symm)]; exact valV_neg (p := (k, y)) e
 | p :: r, hn => by
  rw [List.cons_append]
  have hk : ¬ p.1 = k := fun z => by rw [valV_pos z] at hn; cases hn
  rw [valV_neg hk] at hn
  have ih := valV_snoc k j y r hn
  by_cases e : p.1 = j
  ·rw [valV_pos e, valV_pos e, if_neg (fun z => hk (e.trans z))]
  ·rw [valV_neg e, valV_neg e, ih]
theorem valV_put (kvs : List (κ × V)) (k j : κ) (y : V) : valV (putK kvs k y) j = if j = k then some y else valV kvs j := by
 unfold putK
 by_cases a : (kvs.any fun kv => decide (kv.1 = k)) = true
 ·rw [if_pos a, valV_map]
  rw [valV_any] at a
  by_cases e : j = k
  ·obtain ⟨x, hx⟩ := Option.isSome_iff_exists.mp a
   rw [if_pos e, e, hx, Option.map_some, if_pos rfl]
  ·rw [if_neg e]
   cases valV kvs j with
   | none => rfl
   | some x => rw [Option.map_some, if_neg e]
 ·rw [if_neg a]
  refine valV_snoc k j y kvs ?_
  rw [valV_any] at a
  cases q : valV kvs k with
  | none => rfl
  | some x => rw [q] at a; exact (a rfl).elim
theorem length_putK (kvs : List (κ × V)) (k : κ) (v : V) : (putK kvs k v).length ≤ kvs.length + 1 := by
 unfold putK
 split
 ·rw [List.length_map]; omega
 ·rw [List.length_append, List.length_cons, List.length_nil]; omega
theorem putK_new {kvs : List (κ × V)} {k : κ} (v : V) (h : valV kvs k = none) : putK kvs k v = kvs ++ [(k, v)] := by
 unfold putK
 rw [valV_any, h]
 exact if_neg (by decide)
theorem RelO.isSome_eq {o : Option V} {u : Option Value} (r : RelO o u) : o.isSome = u.isSome := by
 cases o with
 | none => cases u with
  | none => rfl
  | some _ => exact (show False from r).elim
 | some _ => cases u with
  | none => exact (show False from r).elim
  | some _ => rfl
theorem KV.val {kvs : List (κ × V)} {vs : List (κ × Value)} (r : KV kvs vs) (k : κ) : RelO (valV kvs k) (valueAt vs k) := by
 unfold KV at r
 induction r with
 | nil => exact True.intro
 | @cons p q ps qs h t ih =>
  obtain ⟨h1, h2⟩ := h
  by_cases e : p.1 = k
  ·have e' : q.1 = k := h1.symm.trans e
   have b : valueAt (q :: qs) k = some q.2 := by simp [valueAt, List.find?_cons, e']
   rw [valV_pos e, b]; exact h2
  ·have e' : ¬ q.1 = k := fun z => e (h1.trans z)
   have b : valueAt (q :: qs) k = valueAt qs k := by simp [valueAt, List.find?_cons, e']
   rw [valV_neg e, b]; exact ih
theorem KV.any {kvs : List (κ × V)} {vs : List (κ × Value)} (r : KV kvs vs) (k : κ) : (kvs.any fun kv => decide (kv.1 = k)) = vs.any fun kv => decide (kv.1 = k) := by
 unfold KV at r
 induction r with
 | nil => rfl
 | cons h t ih => rw [List.any_cons, List.any_cons, ih, h.1]
theorem KV.repl {kvs : List (κ × V)} {vs : List (κ × Value)} (r : KV kvs vs) (k : κ) {y : V} {u : Value} (ry : RelV y u) :
  KV (kvs.map fun kv => if kv.1 = k then (kv.1, y) else kv) (vs.map fun kv => if kv.1 = k then (kv.1, u) else kv) := by
 unfold KV at r ⊢
 induction r with
 | nil => exact .nil
 | @cons p q ps qs h t ih =>
  rw [List.map_cons, List.map_cons]
  refine .cons ?_ ih
  obtain ⟨h1, h2⟩ := h
  by_cases e : p.1 = k
  ·rw [if_pos e, if_pos (h1.symm.trans e)]; exact ⟨h1, ry⟩
  ·rw [if_neg e, if_neg (fun z => e (h1.trans z))]; exact ⟨h1, h2⟩
theorem KV.put {kvs : List (κ × V)} {vs : List (κ × Value)} (r : KV kvs vs) (k : κ) {y : V} {u : Value} (ry : RelV y u) : KV (putK kvs k y) (stored vs k u) := by
 unfold putK stored
 rw [r.any k]
 by_cases e : (vs.any fun kv => decide (kv.1 = k)) = true
 ·rw [if_pos e, if_pos e]; exact r.repl k ry
 ·rw [if_neg e, if_neg e]; exact Paired.snoc r ⟨rfl, ry⟩
theorem KV.keys {kvs : List (κ × V)} {vs : List (κ × Value)} (r : KV kvs vs) : kvs.map (·.1) = vs.map (·.1) := by
 unfold KV at r
 induction r with
 | nil => rfl
 | cons h t ih => rw [List.map_cons, List.map_cons, ih, h.1]
theorem KV.length {kvs : List (κ × V)} {vs : List (κ × Value)} (r : KV kvs vs) : kvs.length = vs.length := Paired.length r
end
theorem kV_is {P : Program} {w : World} {k : Key} {u : Value} (r : RelV (kV k) u) : (mixKind P w).is k u = true := by
 cases k with
 | inl i => obtain ⟨t, e⟩ := (show ∃ t, u = Value.int i t from r); subst e; exact mixKind_int P w i t
 | inr x => obtain ⟨t, e⟩ := (show ∃ t, u = Value.str x t from r); subst e; exact mixKind_str P w x t
theorem items_are {P : Program} {w : World} : ∀ {ks : List Key} {us : List Value}, Vals (ks.map kV) us → ItemsAre (mixKind P w) ks us
 | [], _, r => by rw [List.map_nil] at r; cases r; exact .nil
 | k :: ks, _, r => by
  rw [List.map_cons] at r
  cases r with
  | cons h t => exact .cons (kV_is h) (items_are t)
noncomputable abbrev KT (H : Hp) : List (List Key × V) → List (List Key × Addr × Value) → Prop := Paired fun p q => p.1 = q.1 ∧ H q.2.1 = some (.tup (p.1.map kV)) ∧ RelV p.2 q.2.2
theorem KT.val {H : Hp} {kvs : List (List Key × V)} {xs : List (List Key × Addr × Value)} (r : KT H kvs xs) (k : List Key) : RelO (valV kvs k) ((atKey xs k).map (·.2)) := by
 induction r with
 | nil => exact True.intro
 | @cons p q ps qs h t ih =>
  obtain ⟨h1, _, h2⟩ := h
  by_cases e : p.1 = k
  ·have e' : q.1 = k := h1.symm.trans e
   have b : atKey (q :: qs) k = some q.2 := by simp [atKey, List.find?_cons, e']
   rw [valV_pos e, b]; exact h2
  ·have e' : ¬ q.1 = k := fun z => e (h1.trans z)
   have b : atKey (q :: qs) k = atKey qs k := by simp [atKey, List.find?_cons, e']
   rw [valV_neg e, b]; exact ih
theorem KT.repl {H : Hp} {kvs : List (List Key × V)} {xs : List (List Key × Addr × Value)} (r : KT H kvs xs) (k : List Key) {y : V} {u : Value} (ry : RelV y u) :
  KT H (kvs.map fun kv => if kv.1 = k then (kv.1, y) else kv) (xs.map (putAt k u)) := by
 induction r with
 | nil => exact .nil
 | @cons p q ps qs h t ih =>
  rw [List.map_cons, List.map_cons]
  refine .cons ?_ ih
  obtain ⟨h1, h2, h3⟩ := h
  unfold putAt
  by_cases e : p.1 = k
  ·rw [if_pos e, if_pos (h1.symm.trans e)]; exact ⟨h1, h2, ry⟩
  ·rw [if_neg e, if_neg (fun z => e (h1.trans z))]; exact ⟨h1, h2, h3⟩
theorem KT.put {H : Hp} {kvs : List (List Key × V)} {xs : List (List Key × Addr × Value)} (r : KT H kvs xs) (k : List Key) {b : Addr} {y : V} {u : Value} (hb : H b = some (.tup (k.map kV))) (ry : RelV y u) :
  KT H (putK kvs k y) (storedH xs k b u) := by
 have e : (kvs.any fun kv => decide (kv.1 = k)) = (atKey xs k).isSome := by
  rw [valV_any, (r.val k).isSome_eq, Option.isSome_map]
 unfold putK storedH
 rw [e]
 by_cases q : (atKey xs k).isSome = true
 ·rw [if_pos q, if_pos q]; exact r.repl k ry
 ·rw [if_neg q, if_neg q]; exact Paired.snoc r ⟨rfl, hb, ry⟩
theorem KT.keeps {H H' : Hp} {kvs : List (List Key × V)} {xs : List (List Key × Addr × Value)} (r : KT H kvs xs) (ht : ∀ b ys, H b = some (.tup ys) → H' b = some (.tup ys)) : KT H' kvs xs :=
 Paired.mapP r fun _ _ z => ⟨z.1, ht _ _ z.2.1, z.2.2⟩
section
variable {P : Program} {w : World} {H : Hp} {h : Heap} {a : Addr}
theorem rd_of {u : HO} (ok : HOk P w H h) (e : Rd H a u) : ObjOk P w H h a u := e.ok ok
theorem dk_rd {kvs : List (Key × V)} (ok : HOk P w H h) (e : Rd H a (.dK kvs)) : kvs.length ≤ sizeLine ∧ (a == sysModules) = false ∧ ∃ vs, KV kvs vs ∧ h.DictOf (mixKind P w) a vs :=
 show ObjOk P w H h a (.dK kvs) from rd_of ok e
theorem dk_of {kvs : List (Key × V)} (ok : HOk P w H h) (e : H a = some (.dK kvs)) : kvs.length ≤ sizeLine ∧ (a == sysModules) = false ∧ ∃ vs, KV kvs vs ∧ h.DictOf (mixKind P w) a vs := dk_rd ok (.inl e)
theorem key_of {ks : List Key} (ok : HOk P w H h) (e : H a = some (.tup (ks.map kV))) : (tupleKind (mixKind P w)).is h ks a := by
 obtain ⟨_, its, r, o, h1, h2, n, h3⟩ := (show ObjOk P w H h a (.tup (ks.map kV)) from ok a _ e)
 exact ⟨o, its.toArray, n, h1, h2, h3, by simpa using items_are r⟩
theorem dt_rd {kvs : List (List Key × V)} (ok : HOk P w H h) (e : Rd H a (.dT kvs)) : kvs.length ≤ sizeLine ∧ (a == sysModules) = false ∧
  ∃ xs, KT H kvs xs ∧ h.DictOfH (tupleKind (mixKind P w)) a xs := by
 obtain ⟨z, y, xs, r, o, es, ep, h1, h2, h3, h4, h5⟩ := (show ObjOk P w H h a (.dT kvs) from rd_of ok e)
 refine ⟨z, y, xs, r, o, es, ep, h1, h2, h3, h4, fun x hx => ?_, h5⟩
 have all : ∀ {l : List (List Key × V)} {m : List (List Key × Addr × Value)}, KT H l m → ∀ x ∈ m, (tupleKind (mixKind P w)).is h x.1 x.2.1 := by
  intro l m q
  induction q with
  | nil => intro x hx; exact nomatch hx
  | @cons p q ps qs hq t ih =>
   intro x hx
   rcases List.mem_cons.mp hx with e | hx
   ·subst e
    exact key_of ok (by rw [← hq.1]; exact hq.2.1)
   ·exact ih x hx
 exact all r x hx
theorem dt_of {kvs : List (List Key × V)} (ok : HOk P w H h) (e : H a = some (.dT kvs)) : kvs.length ≤ sizeLine ∧ (a == sysModules) = false ∧
  ∃ xs, KT H kvs xs ∧ h.DictOfH (tupleKind (mixKind P w)) a xs := dt_rd ok (.inl e)
end
noncomputable def DGet (H : Hp) (a : Addr) (y : V) (r : Option V) : Prop :=
 (∃ kvs k, Rd H a (.dK kvs) ∧ y = kV k ∧ r = valV kvs k) ∨ ∃ kvs k b, Rd H a (.dT kvs) ∧ y = .ref b ∧ H b = some (.tup (k.map kV)) ∧ r = valV kvs k
noncomputable def DPut (H : Hp) (a : Addr) (y v : V) (H' : Hp) : Prop :=
 (∃ kvs k, H a = some (.dK kvs) ∧ y = kV k ∧ kvs.length < sizeLine ∧ H' = upd H a (.dK (putK kvs k v))) ∨
 ∃ kvs k b, H a = some (.dT kvs) ∧ y = .ref b ∧ H b = some (.tup (k.map kV)) ∧ kvs.length < sizeLine ∧ H' = upd H a (.dT (putK kvs k v))
theorem DGet.k {H : Hp} {a : Addr} {kvs : List (Key × V)} {k : Key} (e : H a = some (.dK kvs)) : DGet H a (kV k) (valV kvs k) := .inl ⟨kvs, k, .inl e, rfl, rfl⟩
theorem DGet.t {H : Hp} {a b : Addr} {kvs : List (List Key × V)} {k : List Key} (e : H a = some (.dT kvs)) (eb : H b = some (.tup (k.map kV))) : DGet H a (.ref b) (valV kvs k) := .inr ⟨kvs, k, b, .inl e, rfl, eb, rfl⟩
theorem DPut.k {H : Hp} {a : Addr} {kvs : List (Key × V)} {k : Key} {v : V} (e : H a = some (.dK kvs)) (hl : kvs.length < sizeLine) : DPut H a (kV k) v (upd H a (.dK (putK kvs k v))) := .inl ⟨kvs, k, e, rfl, hl, rfl⟩
theorem DPut.t {H : Hp} {a b : Addr} {kvs : List (List Key × V)} {k : List Key} {v : V} (e : H a = some (.dT kvs)) (eb : H b = some (.tup (k.map kV))) (hl : kvs.length < sizeLine) :
  DPut H a (.ref b) v (upd H a (.dT (putK kvs k v))) := .inr ⟨kvs, k, b, e, rfl, eb, hl, rfl⟩
section
variable {X : Cx} {pins : List (Addr × Obj)} {σ : St} {H : Hp} {s : Shared} {a : Addr} {y v : V} {u r : Value} {o : Option V} {A : Around} {E : Value → Shared → Prop}
theorem Inv.big (I : Inv X pins σ H s) : sysModules < s.heap.objs.size := by
 have h : mainGlobals < s.heap.objs.size := (I.mod.glob.keeps I.bk).lt
 exact Nat.lt_trans (by decide) h
theorem d_getItem {Q : Value → Shared → Prop} (hu : A.units + 1 < cLine) (I : Inv X pins σ H s) (g : DGet H a y (some v)) (ry : RelV y u) (h : ∀ w' s', Inv X pins σ H s' → RelV v w' → Q w' s') :
  wpAny (model X.prog X.w) A (getItem (.ref a) u) Q E s := by
 rcases g with ⟨kvs, k, e, ey, l⟩ | ⟨kvs, k, b, e, ey, eb, l⟩
 ·subst ey
  obtain ⟨z, hd, vs, rel, dd⟩ := dk_rd I.hok e
  obtain ⟨w', hw, rw'⟩ := RelO.some_of (v := v) (o := valueAt vs k) (by rw [l]; exact rel.val k)
  exact wpAny_getItem_of (kV_is ry) dd.mapOf hw (h w' _ (I.tok _) rw')
 ·subst ey
  cases (show u = Value.ref b from ry)
  obtain ⟨z, hd, xs, rel, dd⟩ := dt_rd I.hok e
  obtain ⟨w', hw, rw'⟩ := RelO.some_of (v := v) (o := (atKey xs k).map (·.2)) (by rw [l]; exact rel.val k)
  obtain ⟨p, hp, hp2⟩ := Option.map_eq_some_iff.mp hw
  refine wpAny_getItem_heap (tupleKind_room_in1 hu) (key_of I.hok eb) dd hp ?_
  rw [hp2]
  exact h w' _ (I.tok _) rw'
theorem d_in {Q : Value → Shared → Prop} (hu : A.units + 1 < cLine) (I : Inv X pins σ H s) (g : DGet H a y o) (ry : RelV y u) (h : ∀ s', Inv X pins σ H s' → Q (.bool o.isSome) s') :
  wpAny (model X.prog X.w) A (compareOp .In u (.ref a)) Q E s := by
 rcases g with ⟨kvs, k, e, ey, l⟩ | ⟨kvs, k, b, e, ey, eb, l⟩
 ·subst ey
  obtain ⟨z, hd, vs, rel, dd⟩ := dk_rd I.hok e
  refine wpAny_in_of (kV_is ry) hd dd.mapOf ?_
  rw [← (rel.val k).isSome_eq, ← l]
  exact h _ (I.tok _)
 ·subst ey
  cases (show u = Value.ref b from ry)
  obtain ⟨z, hd, xs, rel, dd⟩ := dt_rd I.hok e
  refine wpAny_in_heap (tupleKind_room_in1 hu) (key_of I.hok eb) hd dd ?_
  have q := (rel.val k).isSome_eq
  rw [Option.isSome_map] at q
  rw [← q, ← l]
  exact h _ (I.tok _)
theorem d_notIn {Q : Value → Shared → Prop} (hu : A.units + 1 < cLine) (I : Inv X pins σ H s) (g : DGet H a y o) (ry : RelV y u) (h : ∀ s', Inv X pins σ H s' → Q (.bool (!o.isSome)) s') :
  wpAny (model X.prog X.w) A (compareOp .NotIn u (.ref a)) Q E s := by
 rcases g with ⟨kvs, k, e, ey, l⟩ | ⟨kvs, k, b, e, ey, eb, l⟩
 ·subst ey
  obtain ⟨z, hd, vs, rel, dd⟩ := dk_rd I.hok e
  refine wpAny_notIn_of (kV_is ry) hd dd.mapOf ?_
  rw [← (rel.val k).isSome_eq, ← l]
  exact h _ (I.tok _)
 ·subst ey
  cases (show u = Value.ref b from ry)
  obtain ⟨z, hd, xs, rel, dd⟩ := dt_rd I.hok e
  refine wpAny_notIn_heap (tupleKind_room_in1 hu) (key_of I.hok eb) hd dd ?_
  have q := (rel.val k).isSome_eq
  rw [Option.isSome_map] at q
  rw [← q, ← l]
  exact h _ (I.tok _)
theorem d_write {h' : Heap} {t' : Nat} {ob : HO} (I : Inv X pins σ H s) (mu : Mut (H a)) (hs : Heap.SameBut a s.heap h') (he : ∃ q, h'.get? a = some q) (new : ObjOk X.prog X.w (upd H a ob) h' a ob) :
  Inv X pins σ (upd H a ob) { s with heap := h', toks := t' } :=
 I.write (x := a) (e := a) mu (.inl rfl) (fun b q hb z => (hs.2 b hb).trans z) he new
theorem dk_new {P : Program} {w : World} {H' : Hp} {h' : Heap} {kvs : List (Key × V)} {vs : List (Key × Value)} (z : kvs.length ≤ sizeLine) (hd : (a == sysModules) = false) (rel : KV kvs vs) (dd : h'.DictOf (mixKind P w) a vs) :
  ObjOk P w H' h' a (.dK kvs) := ⟨z, hd, vs, rel, dd⟩
theorem d_setItem {H' : Hp} {Q : Unit → Shared → Prop} (hu : A.units + 1 < cLine) (I : Inv X pins σ H s) (g : DPut H a y v H') (ry : RelV y u) (rv : RelV v r) (h : ∀ s', Inv X pins σ H' s' → Q () s') :
  wpAny (model X.prog X.w) A (setItem (.ref a) u r) Q E s := by
 rcases g with ⟨kvs, k, e, ey, l, eH⟩ | ⟨kvs, k, b, e, ey, eb, l, eH⟩
 ·subst ey eH
  obtain ⟨z, hd, vs, rel, dd⟩ := dk_of I.hok e
  have hz : vs.length ≤ sizeLine := by rw [← rel.length]; exact z
  have hl : (putK kvs k v).length ≤ sizeLine := by have := length_putK kvs k v; omega
  refine wpAny_setItem_pairs (hsz := hz) (kV_is ry) dd fun h' dd' hs => h _ ?_
  have he : ∃ q, h'.get? a = some q := let ⟨q, _, _, hq, _⟩ := dd'; ⟨q, hq⟩
  exact d_write I (by rw [e]; exact True.intro) hs he (dk_new hl hd (rel.put k rv) dd')
 ·subst ey eH
  cases (show u = Value.ref b from ry)
  obtain ⟨z, hd, xs, rel, dd⟩ := dt_of I.hok e
  have hz : xs.length ≤ sizeLine := by rw [← Paired.length rel]; exact z
  have hl : (putK kvs k v).length ≤ sizeLine := by have := length_putK kvs k v; omega
  refine wpAny_setItem_heap (hsz := hz) (tupleKind_room_in1 hu) (key_of I.hok eb) dd fun h' dd' hs => h _ ?_
  obtain ⟨q, es, ep, hq, h2, h3, h4, _, h5⟩ := dd'
  refine d_write I (by rw [e]; exact True.intro) hs ⟨q, hq⟩ ⟨hl, hd, _, (rel.put k eb rv).keeps fun c ys ec => ?_, q, es, ep, hq, h2, h3, h4, h5⟩
  rw [upd_ne (ne_of ec e (fun z => nomatch z))]
  exact ec
end
section
variable {X : Cx} {pins : List (Addr × Obj)} {σ : St} {H : Hp} {s : Shared} {a : Addr} {kvs : List (Key × V)} {k : Key} {u : Value} {A : Around} {E : Value → Shared → Prop}
end
noncomputable def NoSl (i : Expr) : Prop := ∀ ov iv, subscripted i false ov iv = operate [ov, iv] (getItem ov iv)
theorem subD_of {prog : Program} {w : World} {A : Around} {E : Value → Shared → Prop} {s : Shared} {env : Env} {value slice : Expr} {pos : Pos} {T id : String} {Q : Value → Shared → Prop}
  (hl : typeLookup (.type T) "__getitem__" = pure (some (.builtin id))) (hs : NoSl slice)
  (h : wpAny (model prog w) A (eval value env) (fun o s₁ => wpAny (model prog w) A (eval slice env) (fun i s₂ => s₂.TypeIs o T ∧ wpAny (model prog w) A (getItem o i) Q E s₂) E s₁) E s) :
  wpAny (model prog w) A (eval (.Subscript value slice pos) env) Q E s := by
 refine Subscript_ (wpAny_mono h (fun o s₁ h₁ => wpAny_mono h₁ (fun i s₂ h₂ => ?_) fun _ _ x => x) fun _ _ x => x)
 obtain ⟨hT, h₂⟩ := h₂
 unfold subscriptTail
 refine wpAny_bind ?_
 rw [getitemInPython_of_ne hT.not_modules]
 refine wpAny_bind (wpAny_specialOf hT hl ?_)
 have fin : wpAny (model prog w) A (subscripted slice false o i) (fun r s₃ => wpAny (model prog w) A (letTemporaryGo value o r >>= fun _ => pure r) Q E s₃) E s₂ := by
  rw [hs o i]
  exact wpAny_operating (wpAny_mono h₂ (fun r s₃ h₃ => wpAny_bind (wpAny_letTemporaryGo (wpAny_pure h₃))) fun _ _ x => x)
 first
  | exact wpAny_pure (wpAny_bind fin)
  | exact wpAny_bind (wpAny_pure (wpAny_bind fin))
  | exact wpAny_bind fin
theorem dict_typeIs {X : Cx} {pins : List (Addr × Obj)} {σ : St} {H : Hp} {s : Shared} {a : Addr} {y : V} {o : Option V} (I : Inv X pins σ H s) (g : DGet H a y o) : s.TypeIs (.ref a) "dict" := by
 rcases g with ⟨kvs, k, e, _, _⟩ | ⟨kvs, k, b, e, _, _, _⟩
 ·obtain ⟨_, _, vs, _, dd⟩ := dk_rd I.hok e
  exact dd.typeIs
 ·obtain ⟨_, _, xs, _, dd⟩ := dt_rd I.hok e
  exact dd.typeIs
noncomputable def tDGet (td ty : TE) : TE := fun σ H Q => td σ H fun x H1 => ty σ H1 fun y H2 => ∃ a v, x = .ref a ∧ DGet H2 a y (some v) ∧ Q v H2
noncomputable def tDIn (ty td : TE) : TE := fun σ H Q => ty σ H fun y H1 => td σ H1 fun x H2 => ∃ a o, x = .ref a ∧ DGet H2 a y o ∧ Q (.bl o.isSome) H2
noncomputable def tDNotIn (ty td : TE) : TE := fun σ H Q => ty σ H fun y H1 => td σ H1 fun x H2 => ∃ a o, x = .ref a ∧ DGet H2 a y o ∧ Q (.bl (!o.isSome)) H2
noncomputable def sDPut (td ty tv : TE) : TS := fun D σ H => tv σ H fun v H1 => td σ H1 fun x H2 => ty σ H2 fun y H3 => ∃ a H4, x = .ref a ∧ DPut H3 a y v H4 ∧ D.nx σ H4
section
variable {X : Cx} {o i e value : Expr} {pos pos' tpos : Pos} {td ty tv : TE}
theorem pe_dget (hu : X.A.units + 1 < cLine) (ho : PE X o td) (hi : PE X i ty) (hs : NoSl i) : PE X (.Subscript o i pos) (tDGet td ty) := by
 intro pins s σ H Q I h
 refine subD_of PySem.F.slot_dict_getitem.lookup hs (thn (ho pins s σ H _ I h) fun u s1 ⟨x, H1, I1, rx, q1⟩ => thn (hi pins s1 σ H1 _ I1 q1) fun iv s2 ⟨y, H2, I2, ry, a, v, ex, g, q2⟩ => ?_)
 subst ex
 obtain rfl : u = Value.ref a := rx
 exact ⟨dict_typeIs I2 g, d_getItem hu I2 g ry fun w' s3 I3 rw' => ⟨v, H2, I3, rw', q2⟩⟩
theorem pc_din (hu : X.A.units + 1 < cLine) (hi : PE X i ty) (ho : PE X o td) : PC X .In i o (tDIn ty td) := by
 intro pins s σ H Q I h
 refine thn (hi pins s σ H _ I h) fun iv s1 ⟨y, H1, I1, ry, q1⟩ => thn (ho pins s1 σ H1 _ I1 q1) fun u s2 ⟨x, H2, I2, rx, a, ov, ex, g, q2⟩ => ?_
 subst ex
 obtain rfl : u = Value.ref a := rx
 exact d_in hu I2 g ry fun s3 I3 => ⟨.bl ov.isSome, H2, I3, rfl, q2⟩
theorem pc_dnotin (hu : X.A.units + 1 < cLine) (hi : PE X i ty) (ho : PE X o td) : PC X .NotIn i o (tDNotIn ty td) := by
 intro pins s σ H Q I h
 refine thn (hi pins s σ H _ I h) fun iv s1 ⟨y, H1, I1, ry, q1⟩ => thn (ho pins s1 σ H1 _ I1 q1) fun u s2 ⟨x, H2, I2, rx, a, ov, ex, g, q2⟩ => ?_
 subst ex
 obtain rfl : u = Value.ref a := rx
 exact d_notIn hu I2 g ry fun s3 I3 => ⟨.bl (!ov.isSome), H2, I3, rfl, q2⟩
theorem ps_dput (hu : X.A.units + 1 < cLine) (ho : PE X o td) (hi : PE X i ty) (hv : PE X value tv) (hs : swapsWith value (some (.Subscript o i pos')) pos.line X.env = pure false) :
  PS X (.Assign [.Subscript o i pos'] value pos) (sDPut td ty tv) := by
 intro pins s σ H D I h
 refine wpAny_Assign_Subscript (thn (hv pins s σ H _ I h) fun r s1 ⟨v, H1, I1, rv, q1⟩ => thn (ho pins s1 σ H1 _ I1 q1) fun u s2 ⟨x, H2, I2, rx, q2⟩ => thn (hi pins s2 σ H2 _ I2 q2) fun iv s3 ⟨y, H3, I3, ry, a, H4, ex, g, q3⟩ => ?_) hs
 subst ex
 obtain rfl : u = Value.ref a := rx
 exact d_setItem hu I3 g ry rv fun s4 I4 => ⟨σ, H4, I4, q3⟩
end
theorem dk_empty {P : Program} {w : World} {H : Hp} (h : Heap) (hb : sysModules < h.objs.size) : ObjOk P w H (h.push { cls := .type "dict", data := .dict #[] }) h.objs.size (.dK []) :=
 ⟨Nat.zero_le _, beq_eq_false_iff_ne.mpr (Ne.symm (Nat.ne_of_lt hb)), [], .nil, Heap.DictOf.new h⟩
theorem dt_empty {P : Program} {w : World} {H : Hp} (h : Heap) (hb : sysModules < h.objs.size) : ObjOk P w H (h.push { cls := .type "dict", data := .dict #[] }) h.objs.size (.dT []) :=
 ⟨Nat.zero_le _, beq_eq_false_iff_ne.mpr (Ne.symm (Nat.ne_of_lt hb)), [], .nil, _, #[], 0, Heap.get?_push_size _ rfl, ⟨rfl, rfl, rfl⟩, rfl, rfl, List.nodup_nil⟩
noncomputable def tDNewK : TE := fun _ H Q => ∀ p, H p = none → Q (.ref p) (upd H p (.dK []))
noncomputable def tDNewT : TE := fun _ H Q => ∀ p, H p = none → Q (.ref p) (upd H p (.dT []))
section
variable {X : Cx} {pos : Pos}
theorem pe_dnewK : PE X (.Dict [] [] pos) tDNewK := fun pins s σ H Q I h =>
 wpAny_Dict_empty ⟨.ref s.heap.objs.size, _, I.laid (a := s.heap.objs.size) (o := .dK []) (t' := s.toks) (fun _ _ q => Heap.get?_push_of_some _ q) (Nat.le_refl _) (dk_empty s.heap I.big), rfl, h _ (I.hok.fresh (Nat.le_refl _))⟩
theorem pe_dnewT : PE X (.Dict [] [] pos) tDNewT := fun pins s σ H Q I h =>
 wpAny_Dict_empty ⟨.ref s.heap.objs.size, _, I.laid (a := s.heap.objs.size) (o := .dT []) (t' := s.toks) (fun _ _ q => Heap.get?_push_of_some _ q) (Nat.le_refl _) (dt_empty s.heap I.big), rfl, h _ (I.hok.fresh (Nat.le_refl _))⟩
end
section
variable {X : Cx} {pins : List (Addr × Obj)} {σ : St} {H : Hp} {s : Shared} {a : Addr} {y d : V} {u r : Value} {o : Option V} {A : Around} {E : Value → Shared → Prop}
end
section
variable {X : Cx} {o e f : Expr} {apos cpos : Pos} {td ty tx : TE}
end
section
variable {X : Cx} {pins : List (Addr × Obj)} {σ : St} {H : Hp} {s : Shared} {a : Addr} {kvs : List (Key × V)} {A : Around} {E : Value → Shared → Prop}
end
section
variable {X : Cx} {pins : List (Addr × Obj)} {σ : St} {H : Hp} {s : Shared} {a : Addr} {y : V} {u : Value} {A : Around} {E : Value → Shared → Prop}
end
end L2
namespace L2
open PySem PySem.Spec PyProof.Rows
section
variable {X : Cx}
end
section
variable {κ : Type} [DecidableEq κ]
theorem valV_in {kvs : List (κ × V)} {k : κ} {v : V} (h : valV kvs k = some v) : k ∈ kvs.map (·.1) := by
 have q : (kvs.any fun kv => decide (kv.1 = k)) = true := by
  rw [valV_any, h]
  all_goals rfl
 obtain ⟨p, hp, e⟩ := List.any_eq_true.mp q
 exact List.mem_map.mpr ⟨p, hp, of_decide_eq_true e⟩
theorem nd_snoc : ∀ {l : List κ} {k : κ}, l.Nodup → ¬ k ∈ l → (l ++ [k]).Nodup
 | [], k, _, _ => by simp
 | a :: r, k, h, hk => by
  obtain ⟨h1, h2⟩ := List.nodup_cons.mp h
  show (a :: (r ++ [k])).Nodup
  refine List.nodup_cons.mpr ⟨fun m => ?_, nd_snoc h2 fun m => hk (List.mem_cons.mpr (Or.inr m))⟩
  rcases List.mem_append.mp m with q | q
  ·exact h1 q
  ·exact hk (List.mem_cons.mpr (Or.inl (List.mem_singleton.mp q).symm))
end
end L2
set_option maxHeartbeats 4000000
namespace L2
open PySem PySem.Spec PyProof.Rows
section
variable {X : Cx} {tg : Expr}
end
theorem lookup_relabel_vis {env : Env} : ∀ {names : List (Str × NameKind)} {x : Str} {k' : NameKind},
  (names.map fun (n, k) => if (k == NameKind.free && env.scope.kind == .function && env.kindOf n == some .cell) then (n, NameKind.cell) else (n, k)).lookup x = some k' →
  ∃ k, names.lookup x = some k ∧ (k' = k ∨ (k = .free ∧ k' = .cell))
 | [], _, _, h => by simp at h
 | (n, k) :: r, x, k', h => by
  have ih := @lookup_relabel_vis env r x k'
  change List.lookup x ((if (k == NameKind.free && env.scope.kind == .function && env.kindOf n == some .cell) = true then (n, NameKind.cell) else (n, k)) :: _) = _ at h
  cases hx : x == n with
  | true =>
   by_cases hc : (k == NameKind.free && env.scope.kind == .function && env.kindOf n == some .cell) = true
   ·rw [if_pos hc] at h
    simp only [List.lookup_cons, hx] at h
    cases h
    have hk : k = .free := by
     have := (Bool.and_eq_true _ _ ▸ (Bool.and_eq_true _ _ ▸ hc).1).1
     cases k <;> first | rfl | (exact absurd this (by decide))
    exact ⟨k, by simp [List.lookup_cons, hx], .inr ⟨hk, rfl⟩⟩
   ·rw [if_neg hc] at h
    simp only [List.lookup_cons, hx] at h
    cases h
    exact ⟨k, by simp [List.lookup_cons, hx], .inl rfl⟩
  | false =>
   have h2 : ∃ k, r.lookup x = some k ∧ (k' = k ∨ (k = .free ∧ k' = .cell)) := by
    by_cases hc : (k == NameKind.free && env.scope.kind == .function && env.kindOf n == some .cell) = true
    ·rw [if_pos hc] at h
     simp only [List.lookup_cons, hx] at h
     exact ih h
    ·rw [if_neg hc] at h
     simp only [List.lookup_cons, hx] at h
     exact ih h
   obtain ⟨k2, e2, r2⟩ := h2
   exact ⟨k2, by simp [List.lookup_cons, hx, e2], r2⟩
noncomputable def closeL (names : List (Str × NameKind)) (cells : List (Str × Addr)) (acc : List (Str × Addr)) : List (Str × Addr) :=
 names.foldl (fun a x => if x.2 == .free then (match cells.lookup x.1 with | some c => (x.1, c) :: a | none => a) else a) acc
theorem closure_eq {scope : Scope} {env : Env} (h : ∀ x ∈ scope.names, x.2 = .free → ∃ c, env.cells.lookup x.1 = some c) : closureFor scope env = pure (closeL scope.names env.cells []) := by
 have all : ∀ (l : List (Str × NameKind)) (acc : List (Str × Addr)), (∀ x ∈ l, x.2 = .free → ∃ c, env.cells.lookup x.1 = some c) →
   (forIn l acc fun (x : Str × NameKind) (cs : List (Str × Addr)) => (if x.2 == .free then (do let c ← cellOf env x.1; pure (ForInStep.yield ((x.1, c) :: cs))) else pure (ForInStep.yield cs) : Sem _)) = pure (closeL l env.cells acc) := by
  intro l
  induction l with
  | nil => intro acc _; rfl
  | cons x r ih =>
   intro acc hl
   rw [List.forIn_cons]
   have hr : ∀ y ∈ r, y.2 = .free → ∃ c, env.cells.lookup y.1 = some c := fun y hy => hl y (List.mem_cons_of_mem _ hy)
   cases hk : x.2 == .free with
   | true =>
    have hkk : x.2 = .free := by
     revert hk
     cases x.2 <;> intro hk <;> first | rfl | (exact absurd hk (by decide))
    obtain ⟨c, hc⟩ := hl x List.mem_cons_self hkk
    simp only [if_true, cellOf, hc]
    rw [show closeL (x :: r) env.cells acc = closeL r env.cells ((x.1, c) :: acc) by unfold closeL; rw [List.foldl_cons]; simp [hk, hc]]
    exact ih _ hr
   | false =>
    simp only [Bool.false_eq_true, if_false]
    rw [show closeL (x :: r) env.cells acc = closeL r env.cells acc by unfold closeL; rw [List.foldl_cons]; simp [hk]]
    exact ih _ hr
 have q := all scope.names [] h
 simp only [closureFor]
 exact (congrArg (· >>= fun r => pure r) q).trans rfl
end L2
namespace L2
open PySem PySem.Spec PyProof.Rows
theorem closeL_sub : ∀ (names : List (Str × NameKind)) (cells acc : List (Str × Addr)), (∀ x c, (x, c) ∈ acc → cells.lookup x = some c) → ∀ x c, (x, c) ∈ closeL names cells acc → cells.lookup x = some c
 | [], _, _, h => h
 | y :: r, cells, acc, h => by
  have e : closeL (y :: r) cells acc = closeL r cells (if y.2 == .free then (match cells.lookup y.1 with | some c => (y.1, c) :: acc | none => acc) else acc) := rfl
  rw [e]
  refine closeL_sub r cells _ ?_
  cases hk : y.2 == .free with
  | false => simpa using h
  | true =>
   cases hc : cells.lookup y.1 with
   | none => simpa using h
   | some c =>
    intro x d hx
    simp only [if_true] at hx
    rcases List.mem_cons.mp hx with e | hx
    ·cases e; exact hc
    ·exact h x d hx
theorem closeL_keep : ∀ (names : List (Str × NameKind)) (cells acc : List (Str × Addr)) (x : Str) (c : Addr), (x, c) ∈ acc → (x, c) ∈ closeL names cells acc
 | [], _, _, _, _, h => h
 | y :: r, cells, acc, x, c, h => by
  have e : closeL (y :: r) cells acc = closeL r cells (if y.2 == .free then (match cells.lookup y.1 with | some c => (y.1, c) :: acc | none => acc) else acc) := rfl
  rw [e]
  refine closeL_keep r cells _ x c ?_
  cases hk : y.2 == .free with
  | false => simpa using h
  | true =>
   cases hc : cells.lookup y.1 with
   | none => simpa using h
   | some d => simp only [if_true]; exact List.mem_cons_of_mem _ h
theorem closeL_has : ∀ (names : List (Str × NameKind)) (cells acc : List (Str × Addr)) (x : Str) (c : Addr), (x, NameKind.free) ∈ names → cells.lookup x = some c → (x, c) ∈ closeL names cells acc
 | [], _, _, _, _, h, _ => by cases h
 | y :: r, cells, acc, x, c, h, hc => by
  have e : closeL (y :: r) cells acc = closeL r cells (if y.2 == .free then (match cells.lookup y.1 with | some c => (y.1, c) :: acc | none => acc) else acc) := rfl
  rw [e]
  rcases List.mem_cons.mp h with e2 | h
  ·subst e2
   refine closeL_keep r cells _ x c ?_
   have : (NameKind.free == NameKind.free) = true := rfl
   simp only [hc, this, if_true]
   exact List.mem_cons_self
  ·exact closeL_has r cells _ x c h hc
theorem lookup_of_mem_some {α : Type} : ∀ {l : List (Str × α)} {x : Str} {c : α}, (x, c) ∈ l → ∃ d, l.lookup x = some d
 | [], _, _, h => by cases h
 | (n, d) :: r, x, c, h => by
  cases hx : x == n with
  | true => exact ⟨d, by simp [List.lookup_cons, hx]⟩
  | false =>
   rcases List.mem_cons.mp h with e | h
   ·cases e; simp at hx
   ·obtain ⟨d', e⟩ := lookup_of_mem_some h
    exact ⟨d', by simp [List.lookup_cons, hx, e]⟩
section
variable {prog : Program} {w : World} {A : Around} {R : Result → Shared → Prop} {s : Shared}
theorem codeAny_compLoop_gen {elt target iter : Expr} {ifs : List Expr} {scope : Scope} {pos : Pos} {it acc : Value} {env : Env} (I : Nat → Shared → Prop)
  (turn : ∀ n s, I n s → wpAny (model prog w) A (pyNext it) (fun r s₁ => match r with
   | none => R (.ok .next) s₁
   | some v => wpAny (model prog w) A (letOwnedTupleGo target it v) (fun _ s₁' => wpAny (model prog w) A (assign target env v) (fun _ s₂ =>
     wpAny (model prog w) A (forIn ifs true fun c r => if r = true then do let ok ← isTrue c env (eval c env); pure (ForInStep.yield ok) else pure (ForInStep.yield r)) (fun ok s₃ =>
      if ok = true then wpAny (model prog w) A (eval elt env) (fun x s₄ =>
       wpAny (model prog w) A (call (.builtin "list.append") [acc, x]) (fun _ s₅ => ∃ m, m < n ∧ I m s₅) (notedBy (model prog w) A env fun e s' => R (.error e) s') s₄) (notedBy (model prog w) A env fun e s' => R (.error e) s') s₃
      else ∃ m, m < n ∧ I m s₃) (notedBy (model prog w) A env fun e s' => R (.error e) s') s₂) (notedBy (model prog w) A env fun e s' => R (.error e) s') s₁') (notedBy (model prog w) A env fun e s' => R (.error e) s') s₁) (notedBy (model prog w) A env fun e s' => R (.error e) s') s)
  (n : Nat) (h : I n s) :
  codeAny (model prog w) A (.compLoop (.ListComp elt [⟨target, iter, ifs, 0⟩] scope pos) 0 it acc env) R s := by
 refine codeAny_loop rfl I (fun n s hI => ?_) n h
 show wpAny _ A ((compTurn (.ListComp elt [⟨target, iter, ifs, 0⟩] scope pos) 0 it acc env).onRaise (fun x => do noteFrame x env; theTreesLotGoes x)) _ _ s
 refine wpAny_noted ?_
 rw [compTurn_list]
 refine wpAny_bind (wpAny_standAt (wpAny_bind (wpAny_mono (turn n s hI) (fun r s₁ h₁ => ?_) fun _ _ h' => h')))
 cases r with
 | none => exact wpAny_pure h₁
 | some v =>
  refine wpAny_bind (wpAny_mono h₁ (fun _ s₁' h₁' => ?_) fun _ _ h' => h')
  refine wpAny_bind (wpAny_mono h₁' (fun _ s₂ h₂ => wpAny_bind (wpAny_mono h₂ (fun ok s₃ h₃ => ?_) fun _ _ h' => h')) fun _ _ h' => h')
  cases ok with
  | false => exact wpAny_pure ⟨rfl, h₃⟩
  | true =>
   exact wpAny_bind (wpAny_bind (wpAny_mono h₃ (fun x s₄ h₄ => wpAny_bind (wpAny_mono h₄ (fun _ s₅ h₅ => wpAny_pure (wpAny_pure ⟨rfl, h₅⟩)) fun _ _ h' => h')) fun _ _ h' => h'))
end
noncomputable def PIf (X : Cx) (ifs : List Expr) (t : TT) : Prop :=
 ∀ (pins : List (Addr × Obj)) (s : Shared) (σ : St) (H : Hp) (Q : Bool → Hp → Prop), Inv X pins σ H s → t σ H Q →
  wpAny (model X.prog X.w) X.A (forIn ifs true fun c r => if r = true then do let ok ← isTrue c X.env (eval c X.env); pure (ForInStep.yield ok) else pure (ForInStep.yield r)) (TP X pins σ Q) X.xe s
noncomputable def tYes : TT := fun _ H Q => Q true H
theorem pif_nil {X : Cx} : PIf X [] tYes := fun _ _ _ H _ I h => wpAny_tests_nil ⟨H, I, h⟩
theorem pif_one {X : Cx} {c : Expr} {t : TT} (h : PT X c t) : PIf X [c] t := fun pins s σ H Q I hq => wpAny_tests_one (h pins s σ H Q I hq)
noncomputable def cxComp (X : Cx) (N' : List Str) (scope : Scope) (cl : List (Str × Addr)) (C : Addr) (s₀ : Shared) (H₀ : Hp) (ex : List Addr) : Cx :=
 { prog := X.prog, w := X.w, K := X.K, mg := X.mg, base := X.base, A := X.A, N := N', s₀ := s₀, H₀ := H₀, env := compEnvC scope cl C X.env, outer := X.stack, stack := X.stack, ex := ex, fn := fun _ => false, calm := X.calm, pn := [], xe := fun _ _ => False }
noncomputable def compOk (sc scope : Scope) (N N' : List Str) : Bool :=
 (match scope.kind with | .function => true | _ => false) &&
 scope.names.all (fun y => match y.2 with
  | .cell => false
  | .local => (match scope.names.lookup y.1 with | some .local => true | _ => false)
  | .free => (match sc.names.lookup y.1 with | some .cell => true | some .free => true | _ => false)
  | _ => true) &&
 (List.range N'.length).all fun i => match N'[i]? with
  | none => true
  | some x => match scope.names.lookup x with
   | some .local => decide (N.length ≤ i)
   | some .free => decide (N[i]? = some x)
   | _ => true
structure CompOk (sc scope : Scope) (N N' : List Str) : Prop where
 kind : scope.kind = .function
 cell : ∀ y ∈ scope.names, y.2 ≠ .cell
 names : ∀ y ∈ scope.names, y.2 = .local → scope.names.lookup y.1 = some .local
 free : ∀ y ∈ scope.names, y.2 = .free → sc.names.lookup y.1 = some .cell ∨ sc.names.lookup y.1 = some .free
 own : ∀ (i : Nat) x, N'[i]? = some x → scope.names.lookup x = some .local → N.length ≤ i
 out : ∀ (i : Nat) x, N'[i]? = some x → scope.names.lookup x = some .free → N[i]? = some x
theorem CompOk.of {sc scope : Scope} {N N' : List Str} (h : compOk sc scope N N' = true) : CompOk sc scope N N' := by
 unfold compOk at h
 rw [Bool.and_eq_true, Bool.and_eq_true] at h
 obtain ⟨⟨h1, h2⟩, h3⟩ := h
 have h2' := List.all_eq_true.mp h2
 have h3' := List.all_eq_true.mp h3
 refine ⟨?_, fun y hy e => ?_, fun y hy e => ?_, fun y hy e => ?_, fun i x hi e => ?_, fun i x hi e => ?_⟩
 ·revert h1; cases scope.kind <;> intro h1 <;> first | rfl | cases h1
 ·have q := h2' y hy
  rw [e] at q
  cases q
 ·have q := h2' y hy
  rw [e] at q
  simp only at q
  split at q
  ·assumption
  ·cases q
 ·have q := h2' y hy
  rw [e] at q
  simp only at q
  split at q
  ·exact .inl (by assumption)
  ·exact .inr (by assumption)
  ·cases q
 ·have q := h3' i (List.mem_range.mpr (List.getElem?_eq_some_iff.mp hi).1)
  rw [hi] at q
  simp only [e] at q
  exact of_decide_eq_true q
 ·have q := h3' i (List.mem_range.mpr (List.getElem?_eq_some_iff.mp hi).1)
  rw [hi] at q
  simp only [e] at q
  exact of_decide_eq_true q
section
variable {X : Cx} {pins : List (Addr × Obj)} {σ : St} {H : Hp} {s : Shared}
theorem inv_comp {N' : List Str} {scope : Scope} {n : Nat} {fp : List Addr} {h₁ : Heap} {t' : Nat} {m : Str → Option Value} (I : Inv X pins σ H s) (ck : CompOk X.env.scope scope X.N N') (hl : N'.length = X.N.length + n)
  (hns : h₁.Ns s.heap.objs.size m) (old : ∀ b o, s.heap.get? b = some o → h₁.get? b = some o) (hfp : ∀ b ∈ fp, FpOk X pins H b ∧ b < s.heap.objs.size) :
  Inv (cxComp X N' scope (closeL scope.names X.env.cells []) s.heap.objs.size s H fp) [] (σ ++ List.replicate n none) H { s with heap := h₁, toks := t' } := by
 have sub : ∀ x c, (closeL scope.names X.env.cells []).lookup x = some c → X.env.cells.lookup x = some c := fun x c e => closeL_sub _ _ _ (fun _ _ z => by simp at z) x c (PySem.mem_of_lookup e)
 have fre : H s.heap.objs.size = none := I.hok.fresh (Nat.le_refl _)
 have ok' : (cxComp X N' scope (closeL scope.names X.env.cells []) s.heap.objs.size s H fp).Ok := by
  refine ⟨I.ok.mod, ck.kind, I.ok.glob, I.ok.blt, Nat.le_refl _, fun x y c e1 e2 => I.ok.inj x y c (sub x c e1) (sub y c e2), fun x hx => ?_, fun x c hf _ => ?_, I.ok.hd, I.ok.frames, .inl rfl, fun b hb => ⟨Nat.ne_of_lt (hfp b hb).2, fun x c e => (hfp b hb).1.2.2.2.2.1 x c (sub x c e)⟩,
   I.bs, Nat.le_trans I.ok.bsz I.sz, fun b o e hb => ?_, fun b hb hf => ?_, I.stack, I.stkFree⟩
  ·have hx' : (relabel scope X.env).names.lookup x = some .cell ∨ (relabel scope X.env).names.lookup x = some .free := hx
   have : ∃ k, scope.names.lookup x = some k ∧ k = .free := by
    rcases hx' with z | z
    ·obtain ⟨k, e, r⟩ := lookup_relabel_vis z
     rcases r with r | ⟨r, _⟩
     ·exact absurd (r.symm ▸ rfl : k = .cell) (ck.cell (x, k) (PySem.mem_of_lookup e))
     ·exact ⟨k, e, r⟩
    ·obtain ⟨k, e, r⟩ := lookup_relabel_vis z
     rcases r with r | ⟨r, _⟩
     ·exact ⟨k, e, r.symm⟩
     ·exact ⟨k, e, r⟩
   obtain ⟨k, e, rfl⟩ := this
   have hm := PySem.mem_of_lookup e
   obtain ⟨c, hc⟩ := I.ok.has x (ck.free _ hm rfl)
   exact lookup_of_mem_some (closeL_has scope.names X.env.cells [] x c hm hc)
  ·cases hf
  ·have := (hfp b hb).1.2.2.2.1
   rcases this with z | z
   ·exact I.ok.noex b o e z
   ·exact absurd (Nat.lt_of_lt_of_le (Heap.lt_size e) (Nat.le_trans I.ok.bsz z)) (Nat.lt_irrefl _)
  ·rcases List.mem_cons.mp (I.stkSub b hf) with z | z
   ·exact (hfp b hb).1.2.1 z
   ·exact (hfp b hb).1.2.2.1 z
 refine ⟨ok', rfl, I.bare, Un.kept old, ⟨m, hns, fun i x v e1 e2 e3 => ?_⟩, fun x c e => ?_, fre, fun x c e => I.freeC x c (sub x c e), fun p hp => absurd hp (by simp [cxComp]), I.hok.kept old, ?_⟩
 ·have hi : i < σ.length := by
   by_cases hi : i < σ.length
   ·exact hi
   ·rw [List.getElem?_append_right (by omega), List.getElem?_replicate] at e2
    split at e2 <;> cases e2
  rw [List.getElem?_append_left hi] at e2
  have e1' : N'[i]? = some x := e1
  have vis : ∃ k', (relabel scope X.env).names.lookup x = some k' ∧ (k' = .local ∨ k' = .cell ∨ k' = .free) := by
   rcases e3 with z | z | z
   ·exact ⟨_, z, .inl rfl⟩
   ·exact ⟨_, z, .inr (.inl rfl)⟩
   ·exact ⟨_, z, .inr (.inr rfl)⟩
  obtain ⟨k', ek', hk'⟩ := vis
  obtain ⟨k, ek, r⟩ := lookup_relabel_vis ek'
  have kf : k = .free := by
   rcases r with r | ⟨r, _⟩
   ·subst r
    rcases hk' with z | z | z
    ·subst z
     have := ck.own i x e1' ek
     rw [I.len] at hi
     omega
    ·subst z
     exact absurd rfl (ck.cell _ (PySem.mem_of_lookup ek))
    ·exact z
   ·exact r
  subst kf
  have hm := PySem.mem_of_lookup ek
  have hxN := ck.out i x e1' ek
  obtain ⟨m0, hn0, hl0⟩ := I.loc
  have kx := ck.free _ hm rfl
  obtain ⟨u, ru, lk⟩ := hl0 i x v hxN e2 (by rcases kx with z | z; exact .inr (.inl z); exact .inr (.inr z))
  refine ⟨u, ru, .inr ⟨?_, ?_⟩⟩
  ·rcases r with r | ⟨_, r⟩
   ·subst r
    exact .inr ek'
   ·subst r
    exact .inl ek'
  ·rcases lk with ⟨k1, _⟩ | ⟨_, c, hc, hcell⟩
   ·have k1' : X.env.scope.names.lookup x = some .local := k1
    rcases kx with z | z
    ·rw [k1'] at z; cases z
    ·rw [k1'] at z; cases z
   ·have hin := closeL_has scope.names X.env.cells [] x c hm hc
    obtain ⟨d, hd⟩ := lookup_of_mem_some hin
    have : d = c := Option.some.inj ((sub x d hd).symm.trans hc)
    subst this
    obtain ⟨o, ho, hdat⟩ := hcell
    exact ⟨d, hd, o, old _ _ ho, hdat⟩
 ·obtain ⟨v, o, ho, hdat⟩ := I.cell x c (sub x c e)
  exact ⟨v, o, old _ _ ho, hdat⟩
 ·rw [List.length_append, List.length_replicate, I.len]
  exact hl.symm
end
noncomputable def tComp (n : Nat) (wi : TI) (g : TG) (tc : TT) (te : TE) : TE := fun σ H Q => wi σ H fun J H1 => ∀ D, H1 D = none → ∃ W : Nat → Nat → St → Hp → Prop, (∃ m, W 0 m (σ ++ List.replicate n none) (upd H1 D (.lst []))) ∧ ∀ i m σ' H', W i m σ' H' →
 (J.stop i H' ∧ Q (.ref D) H') ∨ (J.go i H' ∧ ∃ N : St → Hp → Prop, (∀ σ' H', N σ' H' → ∃ m', m' < m ∧ W (i + 1) m' σ' H') ∧ ∀ x H2, J.yld i H' x H2 → g x σ' H2 fun σ2 H3 => tc σ2 H3 fun b H4 =>
  if b = true then te σ2 H4 fun v H5 => ∃ ys, H5 D = some (.lst ys) ∧ ys.length < sizeLine ∧ N σ2 (upd H5 D (.lst (ys ++ [v]))) else N σ2 H4)
theorem thnF {α : Type} {t : Sem α} {Q Q' : α → Shared → Prop} {M : Model} {A : Around} {E : Value → Shared → Prop} {s : Shared} (h : wpAny M A t Q (fun _ _ => False) s) (hQ : ∀ a s, Q a s → Q' a s) : wpAny M A t Q' E s := wpAny_mono h hQ fun _ _ z => z.elim
section
variable {X : Cx} {elt tg iter : Expr} {ifs : List Expr} {scope : Scope} {pos : Pos} {N' : List Str} {n : Nat} {wi : TI} {g : TG} {tc : TT} {te : TE}
theorem comp_core {pins : List (Addr × Obj)} {σ : St} {H2 : Hp} {s2 : Shared} {E : Value → Shared → Prop} {RR : Value → Addr → Result → Shared → Prop} {it : Addr} {fp : List Addr} {tn : Nat → Heap → Prop} {J : It} {Q : VK}
  (hc : X.calm = true) (ck : CompOk X.env.scope scope X.N N') (hl : N'.length = X.N.length + n)
  (hg : ∀ cl C s₀ H₀ ex, PG (cxComp X N' scope cl C s₀ H₀ ex) tg g) (hif : ∀ cl C s₀ H₀ ex, PIf (cxComp X N' scope cl C s₀ H₀ ex) ifs tc) (he : ∀ cl C s₀ H₀ ex, PE (cxComp X N' scope cl C s₀ H₀ ex) elt te)
  (I2 : Inv X pins σ H2 s2) (T : Turn X.prog X.w X.K tg J fp it tn) (st2 : tn 0 s2.heap) (f2 : ∀ b ∈ fp, FpOk X pins H2 b)
  (q : ∀ D, H2 D = none → ∃ W : Nat → Nat → St → Hp → Prop, (∃ m, W 0 m (σ ++ List.replicate n none) (upd H2 D (.lst []))) ∧ ∀ i m σ' H', W i m σ' H' →
   (J.stop i H' ∧ Q (.ref D) H') ∨ (J.go i H' ∧ ∃ N : St → Hp → Prop, (∀ σ' H', N σ' H' → ∃ m', m' < m ∧ W (i + 1) m' σ' H') ∧ ∀ x H2, J.yld i H' x H2 → g x σ' H2 fun σ2 H3 => tc σ2 H3 fun b H4 =>
    if b = true then te σ2 H4 fun v H5 => ∃ ys, H5 D = some (.lst ys) ∧ ys.length < sizeLine ∧ N σ2 (upd H5 D (.lst (ys ++ [v]))) else N σ2 H4))
  (hRR : ∀ D C H' s' m, Inv X pins σ H' s' → s'.heap.Ns C m → H' C = none → C ≠ X.env.locals → X.s₀.heap.objs.size ≤ C → (∀ x c, X.env.cells.lookup x = some c → c ≠ C) → (∀ p ∈ X.pn ++ pins, p.1 ≠ C) → Q (.ref D) H' → RR (.ref D) C (.ok .next) s') :
  wpAny (model X.prog X.w) X.A (newList []) (fun acc s₃ => wpAny (model X.prog X.w) X.A (newFunctionEnv scope X.env.globals (closeL scope.names X.env.cells []) [] X.env.qual none .none (some X.env)) (fun cenv s₄ =>
   codeAny (model X.prog X.w) X.A (.compStart (.ListComp elt [⟨tg, iter, ifs, 0⟩] scope pos) 0 (.ref it) acc { cenv with scope := relabel scope X.env }) (RR acc cenv.locals) s₄) E s₃) E s2 := by
 refine wpAny_newObj_type (wpAny_newFunctionEnv ck.cell (by intro y hy; simp at hy) (fun h₁ hns₁ hsb₁ => ?_) ck.kind) (by show (0 : Nat) ≤ sizeLine; exact Nat.zero_le _)
 have hD : H2 s2.heap.objs.size = none := I2.hok.fresh (Nat.le_refl _)
 obtain ⟨W, ⟨m0, w0⟩, turn⟩ := q s2.heap.objs.size hD
 have fl : ∀ b ∈ fp, b < s2.heap.objs.size := fun b hb => by
  obtain ⟨o, e, _⟩ := T.obj 0 _ st2 b hb
  exact Heap.lt_size e
 have I3 : Inv X pins σ (upd H2 s2.heap.objs.size (.lst [])) { s2 with heap := s2.heap.push { cls := .type "list", dict := none, data := .seq ([] : List Value).toArray } } :=
  I2.laid (t' := s2.toks) (fun b o e => Heap.get?_push_of_some _ e) (Nat.le_refl _) (show ObjOk X.prog X.w _ _ _ (.lst []) from ⟨Nat.zero_le _, [], 0, .nil, Heap.get?_push_size _ rfl⟩)
 generalize hs3 : ({ s2 with heap := s2.heap.push { cls := .type "list", dict := none, data := .seq ([] : List Value).toArray } } : Shared) = s3 at I3 hns₁ hsb₁ ⊢
 have hz3 : s3.heap.objs.size = s2.heap.objs.size + 1 := by rw [← hs3]; exact Heap.size_push ..
 have old2 : ∀ b o, s2.heap.get? b = some o → s3.heap.get? b = some o := fun b o e => by rw [← hs3]; exact Heap.get?_push_of_some _ e
 have old : ∀ b o, s3.heap.get? b = some o → h₁.get? b = some o := fun b o e =>
  hsb₁.extBut b o (Nat.ne_of_lt (Heap.lt_size e)) (Heap.get?_push_of_some _ e)
 have f3 : ∀ b ∈ fp, FpOk X pins (upd H2 s2.heap.objs.size (.lst [])) b ∧ b < s3.heap.objs.size := fun b hb => by
  refine ⟨⟨?_, (f2 b hb).2⟩, by rw [hz3]; exact Nat.lt_succ_of_lt (fl b hb)⟩
  rw [upd_ne (Nat.ne_of_lt (fl b hb))]
  exact (f2 b hb).1
 have I4 := fun (t' : Nat) => inv_comp (N' := N') (scope := scope) (n := n) (fp := fp) (h₁ := h₁) (t' := t') I3 ck hl hns₁ old f3
 generalize hX : cxComp X N' scope (closeL scope.names X.env.cells []) s3.heap.objs.size s3 (upd H2 s2.heap.objs.size (.lst [])) fp = X' at I4
 have eP : X'.prog = X.prog := by rw [← hX]; rfl
 have ew : X'.w = X.w := by rw [← hX]; rfl
 have eK : X'.K = X.K := by rw [← hX]; rfl
 have eA : X'.A = X.A := by rw [← hX]; rfl
 have eE : X'.env = compEnvC scope (closeL scope.names X.env.cells []) s3.heap.objs.size X.env := by rw [← hX]; rfl
 have ec : X'.calm = true := by rw [← hX]; exact hc
 have ex' : X'.xe = fun _ _ => False := by rw [← hX]; rfl
 have hg' : PG X' tg g := by rw [← hX]; exact hg _ _ _ _ _
 have hif' : PIf X' ifs tc := by rw [← hX]; exact hif _ _ _ _ _
 have he' : PE X' elt te := by rw [← hX]; exact he _ _ _ _ _
 have stat : ∀ {H' : Hp}, (∀ b ∈ fp, H' b = none) → ∀ b ∈ fp, FpOk X' [] H' b := fun hn b hb => by
  refine ⟨hn b hb, ?_, ?_, ?_, ?_, ?_⟩
  ·rw [eE]; exact Nat.ne_of_lt (f3 b hb).2
  ·rw [← hX]
   intro hf
   rcases List.mem_cons.mp (I3.stkSub b hf) with z | z
   ·exact (f3 b hb).1.2.1 z
   ·exact (f3 b hb).1.2.2.1 z
  ·rw [← hX]; exact .inl hb
  ·rw [eE]
   intro x c e
   exact (f3 b hb).1.2.2.2.2.1 x c (closeL_sub _ _ _ (fun _ _ z => by simp at z) x c (PySem.mem_of_lookup e))
  ·rw [← hX]; intro p hp; exact absurd hp (by simp [cxComp])
 have fin : ∀ {σ' : St} {H' : Hp} {s' : Shared}, Inv X' [] σ' H' s' → Q (.ref s2.heap.objs.size) H' → RR (.ref s2.heap.objs.size) s3.heap.objs.size (.ok .next) s' := fun {σ' H' s'} I' q' => by
  obtain ⟨m', hn', _⟩ := id I'.loc
  rw [eE] at hn'
  have hos : s'.os = s3.os := by have := I'.os; rw [← hX] at this; exact this
  have hun : Un (frs X.stack) fp (upd H2 s2.heap.objs.size (.lst [])) H' s3.heap s'.heap := by have := I'.base; rw [← hX] at this; exact this
  have hok : HOk X.prog X.w H' s'.heap := by have := I'.hok; rw [eP, ew] at this; exact this
  have IX : Inv X pins σ H' s' := I3.call' (ch := fp) hos hun hok I'.bare fun b hb => ⟨(f3 b hb).1.2.2.2.1, (f3 b hb).1.2.1, (f3 b hb).1.2.2.2.2.1, (f3 b hb).1.2.2.2.2.2⟩
  have hfr := I'.free
  rw [eE] at hfr
  refine hRR _ _ H' s' m' IX hn' hfr (Nat.ne_of_gt I3.lt) I3.sz (fun x c e z => ?_) (fun p hp z => ?_) q'
  ·obtain ⟨v, o, ho, _⟩ := I3.cell x c e
   exact absurd (Heap.lt_size ho) (by rw [z]; exact Nat.lt_irrefl _)
  ·exact absurd (Heap.lt_size (I3.pin p hp).1) (by rw [z]; exact Nat.lt_irrefl _)
 have loop : ∀ t', codeAny (model X.prog X.w) X.A (.compLoop (.ListComp elt [⟨tg, iter, ifs, 0⟩] scope pos) 0 (.ref it) (.ref s2.heap.objs.size) (compEnvC scope (closeL scope.names X.env.cells []) s3.heap.objs.size X.env)) (RR (.ref s2.heap.objs.size) s3.heap.objs.size) { s3 with heap := h₁, toks := t' } := fun t' => by
  refine codeAny_compLoop_gen (fun k s' => ∃ i σ' H', Inv X' [] σ' H' s' ∧ tn i s'.heap ∧ (∀ b ∈ fp, H' b = none) ∧ W i k σ' H') ?_ m0
   ⟨0, _, _, I4 t', T.keep 0 _ _ st2 fun b _ o e => old b o (old2 b o e), fun b hb => (f3 b hb).1.1, w0⟩
  rintro k s4 ⟨i, σ4, H4, J4, st4, fr4, w4⟩
  rw [← eP, ← ew, ← eA, ← eE]
  rcases turn i k σ4 H4 w4 with ⟨stop, qn⟩ | ⟨go, N, hN, step⟩
  ·have d1 := T.done X' eP ew eK ec i [] s4 σ4 H4 (fun _ _ => False) J4 (stat fr4) st4 stop
   rw [← eP, ← ew] at d1
   refine thnF d1 fun r s5 ⟨hr, I5⟩ => ?_
   subst hr
   exact fin I5 qn
  ·have d1 := T.item X' eP ew eK ec i [] s4 σ4 H4 (fun _ _ => False) J4 (stat fr4) st4 go
   rw [← eP, ← ew] at d1
   refine thnF d1 fun r s5 ⟨u, hr, h5⟩ => ?_
   subst hr
   refine thnF h5 fun _ s6 ⟨x, H6, I6, r6, y6, st6, fr6⟩ => ?_
   have I6' := I6.pinned (stat fr6) (T.obj _ _ st6)
   have again : ∀ {σ7 : St} {H7 : Hp} {s7 : Shared}, Inv X' ([] ++ pinsAt fp s6.heap) σ7 H7 s7 → N σ7 H7 → ∃ m, m < k ∧ ∃ i σ' H', Inv X' [] σ' H' s7 ∧ tn i s7.heap ∧ (∀ b ∈ fp, H' b = none) ∧ W i m σ' H' := fun {σ7 H7 s7} I7 n7 => by
    obtain ⟨m', hm, w7⟩ := hN σ7 H7 n7
    refine ⟨m', hm, i + 1, σ7, H7, I7.unpinned, T.keep _ _ _ st6 fun b hb o e => (I7.pin (b, o) (List.mem_append_right _ (List.mem_append_right _ (mem_pinsAt hb e)))).1, fun b hb => ?_, w7⟩
    obtain ⟨o, e, d⟩ := T.obj _ _ st6 b hb
    exact (I7.pin (b, o) (List.mem_append_right _ (List.mem_append_right _ (mem_pinsAt hb e)))).2.1
   have a1 := hg' _ s6 σ4 H6 x u _ I6' r6 (step x H6 y6)
   rw [ex'] at a1
   refine thnF a1 fun _ s7 ⟨σ7, H7, I7, q7⟩ => ?_
   have a2 := hif' _ s7 σ7 H7 _ I7 q7
   rw [ex'] at a2
   refine thnF a2 fun ok s8 ⟨H8, I8, q8⟩ => ?_
   cases ok with
   | false =>
    rw [if_neg Bool.false_ne_true] at q8 ⊢
    exact again I8 q8
   | true =>
    rw [if_pos rfl] at q8 ⊢
    have a3 := he' _ s8 σ7 H8 _ I8 q8
    rw [ex'] at a3
    refine thnF a3 fun v s9 ⟨vv, H9, I9, r9, ys, hy, hz, q9⟩ => ?_
    have a4 := mt_append (X := X') _ s9 σ7 H9 (.ref s2.heap.objs.size) [vv] (.ref s2.heap.objs.size) [v] (fun _ H' => N σ7 H') I9 rfl (.cons r9 .nil) ⟨_, ys, vv, rfl, rfl, hy, hz, q9⟩
    rw [ex'] at a4
    exact thnF a4 fun _ s10 ⟨_, H10, I10, _, q10⟩ => again I10 q10
 refine codeAny_compStart_list (loop _) (T.self _ 0 _ _ _ ?_ (loop _))
 exact T.keep 0 _ _ st2 fun b _ o e => old b o (old2 b o e)
theorem pe_comp (sc : Scope) (N N' : List Str) (n : Nat) (hi : PI X tg iter wi)
  (hg : ∀ cl C s₀ H₀ ex, PG (cxComp X N' scope cl C s₀ H₀ ex) tg g) (hif : ∀ cl C s₀ H₀ ex, PIf (cxComp X N' scope cl C s₀ H₀ ex) ifs tc) (he : ∀ cl C s₀ H₀ ex, PE (cxComp X N' scope cl C s₀ H₀ ex) elt te)
  (hc : X.calm = true := by rfl) (hsc : X.env.scope = sc := by rfl) (hN : X.N = N := by rfl) (hk : compOk sc scope N N' = true := by decide +kernel) (hl : N'.length = N.length + n := by rfl)
  (hs : ∀ x, foldedSetIterable iter X.env x = pure x := by intro _; rfl) : PE X (.ListComp elt [⟨tg, iter, ifs, 0⟩] scope pos) (tComp n wi g tc te) := by
 intro pins s σ H Q I h
 subst hsc hN
 have ck := CompOk.of hk
 rw [eval_ListComp]
 refine wpAny_comprehension_free (use := none) rfl hs (closure_eq fun x hx hf => I.ok.has x.1 (ck.free x hx hf)) ck.kind ck.names (thn (hi pins s σ H _ I h) fun v s1 h1 => thn h1 fun itv s2 h2 => ?_)
 obtain ⟨it, fp, tn, J, H2, e, I2, T, st2, f2, q⟩ := h2
 subst e
 refine comp_core (RR := fun acc C => compPost (model X.prog X.w) X.A X.xe none (EP X pins σ Q) acc C) hc ck hl hg hif he I2 T st2 f2 q ?_
 intro D C H' s' m IX hn hC c1 c2 c3 c4 qq
 exact ⟨m, hn, fun h' hs' => ⟨.ref D, H', IX.turned (t' := s'.toks) (fun b o hb e => hs'.extBut b o hb e) hC (Ne.symm (Ne.symm c1)) (.inr c2) c3 c4, rfl, qq⟩⟩
theorem ps_setC {y : Str} {py spos : Pos} {i : Nat} (sc : Scope) (N N' : List Str) (n : Nat) (hnd : X.N.Nodup) (hiN : X.N[i]? = some y) (hy : Loc X.env.scope y) (hi : PI X tg iter wi)
  (hg : ∀ cl C s₀ H₀ ex, PG (cxComp X N' scope cl C s₀ H₀ ex) tg g) (hif : ∀ cl C s₀ H₀ ex, PIf (cxComp X N' scope cl C s₀ H₀ ex) ifs tc) (he : ∀ cl C s₀ H₀ ex, PE (cxComp X N' scope cl C s₀ H₀ ex) elt te)
  (hsw : swapsWith (.ListComp elt [⟨tg, iter, ifs, 0⟩] scope pos) (some (.Name y py)) spos.line X.env = pure true := by rfl)
  (hc : X.calm = true := by rfl) (hsc : X.env.scope = sc := by rfl) (hN : X.N = N := by rfl) (hk : compOk sc scope N N' = true := by decide +kernel) (hl : N'.length = N.length + n := by rfl)
  (hs : ∀ x, foldedSetIterable iter X.env x = pure x := by intro _; rfl) (hf : X.fn y = true ∨ X.env.scope.names.lookup y = some .local := by first | exact .inl rfl | exact .inr rfl | assumption) :
  PS X (.Assign [.Name y py] (.ListComp elt [⟨tg, iter, ifs, 0⟩] scope pos) spos) (tAsg (tComp n wi g tc te) (gName i)) := by
 intro pins s σ H D I h
 subst hsc hN
 have ck := CompOk.of hk
 rw [exec_Assign_Name_used _ _ _ _ hsw]
 refine wpAny_bind (wpAny_standAt (wpAny_bind ?_))
 show wpAny _ X.A (do let _ ← comprehension (.ListComp elt [⟨tg, iter, ifs, 0⟩] scope pos) scope X.env _ (newList []) false (eval iter X.env) (some (assign (.Name y py) X.env))) _ _ s
 refine wpAny_bind (wpAny_mono (wpAny_comprehension_free (use := some (assign (.Name y py) X.env)) (Q := fun _ s' => SP X pins D .next s') rfl hs (closure_eq fun x hx hf => I.ok.has x.1 (ck.free x hx hf)) ck.kind ck.names
  (thn (hi pins s σ H _ I h) fun v s1 h1 => thn h1 fun itv s2 h2 => ?_)) (fun _ s' hq => wpAny_pure (wpAny_pure hq)) fun _ _ e => e)
 obtain ⟨it, fp, tn, J, H2, e, I2, T, st2, f2, q⟩ := h2
 subst e
 refine comp_core (Q := fun x H1 => gName i x σ H1 D.nx) (RR := fun acc C => compPost (model X.prog X.w) X.A X.xe (some (assign (.Name y py) X.env)) (fun _ s' => SP X pins D .next s') acc C) hc ck hl hg hif he I2 T st2 f2 q ?_
 intro D' C H' s' m IX hn hC c1 c2 c3 c4 qq
 show wpAny _ X.A (assign (.Name y py) X.env (.ref D')) _ _ _
 refine wpAny_assign_Name (store_ok2 IX hnd hiN hy (v := .ref D') rfl (fun s'' I'' hsb => ?_) hf)
 obtain ⟨a, hsb, ha⟩ := hsb
 have hCa : C ≠ a := by
  rcases ha with ha | ha
  ·rw [ha]; exact c1
  ·exact Ne.symm (c3 _ _ ha)
 refine ⟨m, hn.sameBut hsb hCa, fun h' hs' => ⟨_, H', I''.turned (t' := s''.toks) (fun b o hb e => hs'.extBut b o hb e) hC c1 (.inr c2) c3 c4, qq⟩⟩
end
end L2
namespace L2
open PySem PySem.Spec PyProof.Rows
section
variable {X : Cx}
theorem call_isi : CallR X (.builtin "isinstance") (fun xs H Q => ∃ x t T b, xs = [x, .ty T] ∧ TyOf X.K H x t ∧ PySem.W.kitOne X.K t (.type T) = some b ∧ Q (.bl b) H) := by
 intro pins s σ H xs us Q I r h
 obtain ⟨x, t, T, b, rfl, ty, e, q⟩ := h
 obtain ⟨u, w', rfl, ru, rw'⟩ := vals2 r
 cases (show w' = Value.type T from rw')
 exact isinst_ok I ru ty e fun tk => ⟨.bl b, H, I.tok tk, rfl, q⟩
theorem op_repS : OpR X (binaryOp .Mult) (fun x y H Q => ∃ z i, x = .str z ∧ y = .int i ∧ 0 ≤ i ∧ i ≤ 100000 ∧ z.length * i.toNat ≤ 100000 ∧ Q (.str (Txt.mul z i)) H) := by
 intro pins s σ H x y v u Q I rx ry h
 obtain ⟨z, i, rfl, rfl, h0, h1, h2, q⟩ := h
 obtain ⟨t, rfl⟩ := rx
 obtain ⟨t', rfl⟩ := ry
 have hsz : sizeLine = 16777216 := sizeLine_eq
 refine SB.mul ⟨?_, fun h3 h4 => ?_, fun h3 h4 => ?_⟩ fun t' k => ⟨.str _, H, I.tok k, ⟨_, rfl⟩, q⟩
 ·rw [decide_eq_false (by omega), decide_eq_false (by omega)]; rfl
 ·have h5 : (z.length : Int) ≤ 100000 := by
   have h6 : z.length * 1 ≤ z.length * i.toNat := Nat.mul_le_mul_left _ (by omega)
   omega
  have h7 : (100000 : Int) ≤ (2 ^ 63 - 1) / i := by
   rw [Int.le_ediv_iff_mul_le (by omega)]
   have : (100000 : Int) * i ≤ 100000 * 100000 := Int.mul_le_mul_of_nonneg_left h1 (by decide)
   have e : (2 : Int) ^ 63 - 1 = 9223372036854775807 := by decide
   omega
  omega
 ·unfold Builtin.Str.tooLong
  rw [hsz]
  exact decide_eq_false (by omega)
end
end L2
namespace L2
open PySem PySem.Spec PyProof.Rows
noncomputable def isStar : Expr → Bool
 | .Starred _ _ => true
 | _ => false
noncomputable def noStar (es : List Expr) : Bool := es.all fun e => !isStar e
theorem star_one (e : Expr) (es : List Expr) (env : Env) (h : isStar e = false) : starEach (e :: es) env = (false, eval e env) :: starEach es env := by
 cases e <;> first | rfl | (exact absurd h (by simp [isStar]))
theorem star_any (pos : Pos) (env : Env) : ∀ es : List Expr, noStar es = true → (backTo pos (starEach es env)).any (·.1) = false
 | [], _ => rfl
 | e :: es, h => by
  have h' : (!isStar e) = true ∧ noStar es = true := by
   have := h
   unfold noStar at this ⊢
   rw [List.all_cons, Bool.and_eq_true] at this
   exact this
  have hs : isStar e = false := by
   have := h'.1
   cases q : isStar e with
   | true => rw [q] at this; cases this
   | false => rfl
  rw [star_one e es env hs]
  show (false || (backTo pos (starEach es env)).any (·.1)) = false
  rw [star_any pos env es h'.2]; rfl
theorem noStar_cons {e : Expr} {es : List Expr} (h : noStar (e :: es) = true) : isStar e = false ∧ noStar es = true := by
 unfold noStar at h ⊢
 rw [List.all_cons, Bool.and_eq_true] at h
 refine ⟨?_, h.2⟩
 cases q : isStar e with
 | true => rw [q] at h; cases h.1
 | false => rfl
section
variable {X : Cx} {CX : CXT} {k : Nat} {f C : Addr} {fd : FuncData} {ps : List Str} {sp : Sp} {dvs : List V} {ds : List Value} {E : XK} {x m : Str} {p pos apos : Pos} {e o : Expr} {es : List Expr} {ta te : TE} {t : TA} {id T : String} {r : List V → Hp → VK → Prop}
theorem pac (ha : PE X e te) (hr : PA X es t) (hs : isStar e = false := by rfl) : PA X (e :: es) (tCons te t) := pa_cons ha hr (star_one _ _ _ hs)
theorem pcall (F : FnOk X.prog X.w X.K X.mg X.base CX k f fd ps sp) (hr : Room k X.A) (hm : X.mg x = some (.ref f)) (hk : PySem.W.keepIn X.K (.ref f) = true) (hb : Binds X.K fd ps []) (hx : Passes CX X E)
  (ha : PA X (e :: es) t) (hg : Gl X x := by rfl) (hdb : (x == ("__debug__" : Str)) = false := by decide) (hs : noStar (e :: es) = true := by rfl) : PE X (.Call (.Name x p) (e :: es) [] pos) (tCall sp [] E t) :=
 pe_call F hr hg hm hk hb .nil hx ha hdb (star_one _ _ _ (noStar_cons hs).1) (star_any _ _ _ (noStar_cons hs).2)
theorem pblt (hc : CallR X (.builtin id) r) (hm : X.mg x = none) (hv : bootBuiltins x = some (.builtin id)) (ha : PA X (e :: es) t) (hg : Gl X x := by rfl) (hn : x ≠ "__name__" := by decide) (hdb : (x == ("__debug__" : Str)) = false := by decide)
  (hs : noStar (e :: es) = true := by rfl) : PE X (.Call (.Name x p) (e :: es) [] pos) (tCB r t) :=
 pe_callB hc hg hm hv ha hn hdb (star_one _ _ _ (noStar_cons hs).1) (star_any _ _ _ (noStar_cons hs).2)
theorem ptyp (hc : CallR X (.type T) r) (hm : X.mg x = none) (hv : bootBuiltins x = some (.type T)) (ha : PA X (e :: es) t) (hg : Gl X x := by rfl) (hn : x ≠ "__name__" := by decide) (hdb : (x == ("__debug__" : Str)) = false := by decide)
  (hs : noStar (e :: es) = true := by rfl) : PE X (.Call (.Name x p) (e :: es) [] pos) (tCB r t) :=
 pe_callTy hc hg hm hv ha hn hdb (star_one _ _ _ (noStar_cons hs).1) (star_any _ _ _ (noStar_cons hs).2)
end
end L2
namespace L2
open PySem PySem.Spec PyProof.Rows
structure Ev (X : Cx) (e : Expr) (σ : St) (H : Hp) (Q : VK) : Prop where
 run : ∀ (pins : List (Addr × Obj)) (s : Shared), Inv X pins σ H s → wpAny (model X.prog X.w) X.A (eval e X.env) (EP X pins σ Q) X.xe s
structure Et (X : Cx) (e : Expr) (σ : St) (H : Hp) (Q : Bool → Hp → Prop) : Prop where
 run : ∀ (pins : List (Addr × Obj)) (s : Shared), Inv X pins σ H s → wpAny (model X.prog X.w) X.A (isTrue e X.env (eval e X.env)) (TP X pins σ Q) X.xe s
structure Ew (X : Cx) (e : Expr) (σ : St) (H : Hp) (Q : Bool → Hp → Prop) : Prop where
 run : ∀ (whole : Sem Value) (pins : List (Addr × Obj)) (s : Shared), Inv X pins σ H s → wpAny (model X.prog X.w) X.A (isTrue e X.env whole) (TP X pins σ Q) X.xe s
structure Ea (X : Cx) (es : List Expr) (σ : St) (H : Hp) (Q : List V → Hp → Prop) : Prop where
 run : ∀ (pos : Pos) (pins : List (Addr × Obj)) (s : Shared), Inv X pins σ H s → wpAny (model X.prog X.w) X.A (spliced (backTo pos (starEach es X.env))) (AP X pins σ Q) X.xe s
structure Eo (X : Cx) (e : Option Expr) (σ : St) (H : Hp) (Q : Option Int → Hp → Prop) : Prop where
 run : ∀ (pins : List (Addr × Obj)) (s : Shared), Inv X pins σ H s → wpAny (model X.prog X.w) X.A (evalPart e X.env) (fun u s' => ∃ o H', Inv X pins σ H' s' ∧ IsPart u o ∧ Q o H') X.xe s
structure Eg (X : Cx) (e : Expr) (v : V) (σ : St) (H : Hp) (Q : St → Hp → Prop) : Prop where
 run : ∀ (pins : List (Addr × Obj)) (s : Shared) (u : Value), Inv X pins σ H s → RelV v u → wpAny (model X.prog X.w) X.A (assign e X.env u) (fun _ s' => ∃ σ' H', Inv X pins σ' H' s' ∧ Q σ' H') X.xe s
structure Run (X : Cx) (l : List Stmt) (D : Ends) (σ : St) (H : Hp) : Prop where
 run : ∀ (pins : List (Addr × Obj)) (s : Shared), Inv X pins σ H s → wpAny (model X.prog X.w) X.A (execs l X.env) (SP X pins D) X.xe s
noncomputable def tEv (X : Cx) (e : Expr) : TE := fun σ H Q => Ev X e σ H Q
noncomputable def tEt (X : Cx) (e : Expr) : TT := fun σ H Q => Et X e σ H Q
noncomputable def tEw (X : Cx) (e : Expr) : TT := fun σ H Q => Ew X e σ H Q
noncomputable def tEa (X : Cx) (es : List Expr) : TA := fun σ H Q => Ea X es σ H Q
noncomputable def tEo (X : Cx) (e : Option Expr) : TO := fun σ H Q => Eo X e σ H Q
noncomputable def tEg (X : Cx) (e : Expr) : TG := fun v σ H Q => Eg X e v σ H Q
noncomputable def tRun (X : Cx) (l : List Stmt) : TS := fun D σ H => Run X l D σ H
section
variable {X : Cx} {e a b c o : Expr} {es : List Expr} {st : Stmt} {rest body els : List Stmt} {σ : St} {H : Hp} {Q : VK} {T : Bool → Hp → Prop} {L : List V → Hp → Prop} {D : Ends} {pos p p2 : Pos}
theorem pe_ev : PE X e (tEv X e) := fun pins s _ _ _ I h => h.run pins s I
theorem pt_et : PT X e (tEt X e) := fun pins s _ _ _ I h => h.run pins s I
theorem pw_ew : PW X e (tEw X e) := fun wh pins s _ _ _ I h => h.run wh pins s I
theorem pa_ea : PA X es (tEa X es) := fun pos pins s _ _ _ I h => h.run pos pins s I
theorem po_eo {e : Option Expr} : PO X e (tEo X e) := fun pins s _ _ _ I h => h.run pins s I
theorem pg_eg : PG X e (tEg X e) := fun pins s _ _ _ u _ I r h => h.run pins s u I r
theorem pss_run {l : List Stmt} : PSs X l (tRun X l) := fun pins s _ _ _ I h => h.run pins s I
theorem ev_of {t : TE} (h1 : PE X e t) (h2 : t σ H Q) : Ev X e σ H Q := ⟨fun pins s I => h1 pins s σ H Q I h2⟩
theorem et_of {t : TT} (h1 : PT X e t) (h2 : t σ H T) : Et X e σ H T := ⟨fun pins s I => h1 pins s σ H T I h2⟩
theorem ew_of {t : TT} (h1 : PW X e t) (h2 : t σ H T) : Ew X e σ H T := ⟨fun wh pins s I => h1 wh pins s σ H T I h2⟩
theorem ea_of {t : TA} (h1 : PA X es t) (h2 : t σ H L) : Ea X es σ H L := ⟨fun pos pins s I => h1 pos pins s σ H L I h2⟩
theorem eo_of {e : Option Expr} {t : TO} {R : Option Int → Hp → Prop} (h1 : PO X e t) (h2 : t σ H R) : Eo X e σ H R := ⟨fun pins s I => h1 pins s σ H R I h2⟩
theorem eg_of {t : TG} {v : V} {R : St → Hp → Prop} (h1 : PG X e t) (h2 : t v σ H R) : Eg X e v σ H R := ⟨fun pins s u I r => h1 pins s σ H v u R I r h2⟩
theorem run_cons {t : TS} (h1 : PS X st t) (h2 : t { D with nx := fun σ' H' => Run X rest D σ' H' } σ H) : Run X (st :: rest) D σ H := ⟨fun pins s I => pss_cons h1 pss_run pins s σ H D I h2⟩
theorem run_nil (h : D.nx σ H) : Run X [] D σ H := ⟨fun pins s I => pss_nil pins s σ H D I h⟩
theorem Ev.mono {Q' : VK} (h : Ev X e σ H Q) (f : ∀ v H', Q v H' → Q' v H') : Ev X e σ H Q' := ⟨fun pins s I => thn (h.run pins s I) fun _ _ ⟨v, H', I', r, q⟩ => ⟨v, H', I', r, f v H' q⟩⟩
theorem Et.mono {T' : Bool → Hp → Prop} (h : Et X e σ H T) (f : ∀ v H', T v H' → T' v H') : Et X e σ H T' := ⟨fun pins s I => thn (h.run pins s I) fun v _ ⟨H', I', q⟩ => ⟨H', I', f v H' q⟩⟩
theorem Ea.mono {L' : List V → Hp → Prop} (h : Ea X es σ H L) (f : ∀ v H', L v H' → L' v H') : Ea X es σ H L' := ⟨fun pos pins s I => thn (h.run pos pins s I) fun _ _ ⟨v, H', I', r, q⟩ => ⟨v, H', I', r, f v H' q⟩⟩
theorem ev_v (i : Nat) {x : Str} {v : V} (h : Q v H) (hv : σ[i]? = some (some v) := by rfl) (hN : X.N[i]? = some x := by rfl) (hs : Vis X.env.scope x := by first | exact Or.inl rfl | exact Or.inr (Or.inl rfl) | exact Or.inr (Or.inr rfl)) (hd : (x == ("__debug__" : Str)) = false := by decide)
  (hcd : (x == ("__classdict__" : Str)) = false := by decide) : Ev X (.Name x p) σ H Q := ev_of (pe_var (i := i) hN hs hd hcd) ⟨v, hv, h⟩
theorem ev_int {i : Int} {j : Nat} (h : Q (.int i) H) : Ev X (.Constant (.int i) j p) σ H Q := ev_of (pe_int) h
theorem ev_bl {i : Bool} {j : Nat} (h : Q (.bl i) H) : Ev X (.Constant (.bool i) j p) σ H Q := ev_of (pe_bl) h
theorem ev_non {j : Nat} (h : Q .non H) : Ev X (.Constant .none j p) σ H Q := ev_of (pe_non) h
theorem ev_str {i : Str} {j : Nat} (h : Q (.str i) H) : Ev X (.Constant (.str i) j p) σ H Q := ev_of (pe_str) h
theorem ev_bltn {x : Str} (v : V) {u : Value} (hm : X.mg x = none) (hv : bootBuiltins x = some u) (r : RelV v u) (h : Q v H) (hg : Gl X x := by rfl) (hn : x ≠ "__name__" := by decide) (hd : (x == ("__debug__" : Str)) = false := by decide) : Ev X (.Name x p) σ H Q := ev_of (pe_bltn hg hm hv r hn hd) h
theorem ev_op {op : Operator} {r : R2} (ho : OpR X (binaryOp op) r) (h : Ev X a σ H fun x H1 => Ev X b σ H1 fun y H2 => r x y H2 Q) : Ev X (.BinOp a op b pos) σ H Q := ev_of (pe_op ho pe_ev pe_ev) h
theorem ev_un {op : UnaryOp} {r : V → Hp → VK → Prop} (ho : UnR X (unaryOp op) r) (h : Ev X a σ H fun x H1 => r x H1 Q) : Ev X (.UnaryOp op a pos) σ H Q := ev_of (pe_un ho pe_ev) h
theorem ev_cmp {op : CmpOp} {r : R2} (ho : OpR X (compareOp op) r) (h : Ev X a σ H fun x H1 => Ev X b σ H1 fun y H2 => r x y H2 Q) (hm : behindInMarks op b = false := by with_unfolding_all rfl) : Ev X (.Compare a [op] [b] pos) σ H Q := ev_of (pe_cmpR ho pe_ev pe_ev hm) h
theorem ev_and (h : Ev X a σ H fun x H1 => ∃ k, x = .bl k ∧ if k = true then Ev X (.BoolOp .And (b :: es) pos) σ H1 Q else Q (.bl false) H1) : Ev X (.BoolOp .And (a :: b :: es) pos) σ H Q := ev_of (pe_and pe_ev pe_ev) h
theorem ev_last {op : BoolOp} (h : Ev X a σ H Q) : Ev X (.BoolOp op [a] pos) σ H Q := ev_of (pe_one pe_ev) h
theorem ev_ix {r : R2} (hr : IxR X r) (h : Ev X a σ H fun x H1 => Ev X b σ H1 fun y H2 => r x y H2 Q) (hs : PlainIx b := by intro _ _; rfl) : Ev X (.Subscript a b pos) σ H Q := ev_of (pe_ix hr pe_ev pe_ev hs) h
theorem ev_slice {r : V → Option Int → Option Int → Hp → VK → Prop} {lo hi : Option Expr} (hr : SlR X r) (h : Ev X a σ H fun x H1 => Eo X lo σ H1 fun l H2 => Eo X hi σ H2 fun u H3 => r x l u H3 Q) : Ev X (.Subscript a (.Slice lo hi none p2) pos) σ H Q := ev_of (pe_slice hr pe_ev po_eo po_eo) h
theorem eo_none {R : Option Int → Hp → Prop} (h : R none H) : Eo X none σ H R := eo_of (po_none) h
theorem eo_some {R : Option Int → Hp → Prop} (h : Ev X a σ H fun x H1 => ∃ i, x = .int i ∧ R (some i) H1) : Eo X (some a) σ H R := eo_of (po_some pe_ev) h
theorem ea_nil (h : L [] H) : Ea X [] σ H L := ea_of (pa_nil) h
theorem ea_cons (h : Ev X e σ H fun x H1 => Ea X es σ H1 fun xs H2 => L (x :: xs) H2) (hs : isStar e = false := by rfl) : Ea X (e :: es) σ H L := ea_of (pac pe_ev pa_ea hs) h
theorem ev_tup {k : Nat} (h : Ea X es σ H fun xs H1 => xs.length ≤ sizeLine ∧ ∀ p, H1 p = none → Q (.ref p) (upd H1 p (.tup xs))) : Ev X (.Tuple es k pos) σ H Q := ev_of (pe_tup pa_ea) h
theorem ev_lst (h : Ea X es σ H fun xs H1 => xs.length ≤ sizeLine ∧ ∀ p, H1 p = none → Q (.ref p) (upd H1 p (.lst xs))) : Ev X (.List es pos) σ H Q := ev_of (pe_lst pa_ea) h
theorem ev_call {CX : CXT} {k : Nat} {f : Addr} {fd : FuncData} {ps : List Str} {sp : Sp} {E : XK} {x : Str} (F : FnOk X.prog X.w X.K X.mg X.base CX k f fd ps sp) (hr : Room k X.A) (hm : X.mg x = some (.ref f)) (hk : PySem.W.keepIn X.K (.ref f) = true) (hb : Binds X.K fd ps []) (hx : Passes CX X E)
  (h : Ea X (e :: es) σ H fun vs H1 => sp vs H1 Q E) (hg : Gl X x := by rfl) (hdb : (x == ("__debug__" : Str)) = false := by decide) (hs : noStar (e :: es) = true := by rfl) : Ev X (.Call (.Name x p) (e :: es) [] pos) σ H Q :=
 ev_of (pcall F hr hm hk hb hx pa_ea hg hdb hs) (show Ea X (e :: es) σ H _ from h.mono fun vs H1 q => by rw [List.append_nil]; exact q)
theorem ev_blt {id : String} {r : List V → Hp → VK → Prop} {x : Str} (hc : CallR X (.builtin id) r) (hm : X.mg x = none) (hv : bootBuiltins x = some (.builtin id)) (h : Ea X (e :: es) σ H fun vs H1 => r vs H1 Q) (hg : Gl X x := by rfl) (hn : x ≠ "__name__" := by decide) (hdb : (x == ("__debug__" : Str)) = false := by decide)
  (hs : noStar (e :: es) = true := by rfl) : Ev X (.Call (.Name x p) (e :: es) [] pos) σ H Q := ev_of (pblt hc hm hv pa_ea hg hn hdb hs) h
theorem ev_typ {T : String} {r : List V → Hp → VK → Prop} {x : Str} (hc : CallR X (.type T) r) (hm : X.mg x = none) (hv : bootBuiltins x = some (.type T)) (h : Ea X (e :: es) σ H fun vs H1 => r vs H1 Q) (hg : Gl X x := by rfl) (hn : x ≠ "__name__" := by decide) (hdb : (x == ("__debug__" : Str)) = false := by decide)
  (hs : noStar (e :: es) = true := by rfl) : Ev X (.Call (.Name x p) (e :: es) [] pos) σ H Q := ev_of (ptyp hc hm hv pa_ea hg hn hdb hs) h
theorem et_cmp {op : CmpOp} {r : R2} (ho : OpR X (compareOp op) r) (h : Ev X a σ H fun x H1 => Ev X b σ H1 fun y H2 => r x y H2 fun z H3 => ∃ k, z = .bl k ∧ T k H3) (hm : behindInMarks op b = false := by with_unfolding_all rfl) : Et X (.Compare a [op] [b] pos) σ H T := et_of (pt_cmpR ho pe_ev pe_ev hm) h
theorem et_not (h : Et X a σ H fun k H1 => T (!k) H1) : Et X (.UnaryOp .Not a pos) σ H T := et_of (pt_not pt_et) h
theorem et_val (h : Ev X e σ H fun x H1 => ∃ k, x = .bl k ∧ T k H1) (he : ∀ whole, isTrue e X.env whole = (do let v ← whole; standAt e.pos; holding [v] (truthy v)) := by intro _; rfl) : Et X e σ H T := et_of (pt_val pe_ev he) h
theorem et_bool (h : Ew X e σ H T) : Et X e σ H T := ⟨fun pins s I => h.run _ pins s I⟩
theorem ew_and (h : Et X a σ H fun k H1 => if k = true then Ew X (.BoolOp .And (b :: es) pos) σ H1 T else T false H1) : Ew X (.BoolOp .And (a :: b :: es) pos) σ H T := ew_of (pw_and pt_et pw_ew) h
theorem ew_or (h : Et X a σ H fun k H1 => if k = true then T true H1 else Ew X (.BoolOp .Or (b :: es) pos) σ H1 T) : Ew X (.BoolOp .Or (a :: b :: es) pos) σ H T := ew_of (pw_or pt_et pw_ew) h
theorem ew_and1 (h : Et X a σ H T) : Ew X (.BoolOp .And [a] pos) σ H T := ew_of (pw_and1 pt_et) h
theorem ew_or1 (h : Et X a σ H T) : Ew X (.BoolOp .Or [a] pos) σ H T := ew_of (pw_or1 pt_et) h
theorem eg_name (i : Nat) {x : Str} {v : V} {R : St → Hp → Prop} (hN : X.N.Nodup) (h : R (σ.set i (some v)) H) (hi : X.N[i]? = some x := by rfl) (hx : Loc X.env.scope x := by first | exact Or.inl rfl | exact Or.inr rfl) (hf : X.fn x = true ∨ X.env.scope.names.lookup x = some .local := by first | exact .inl rfl | exact .inr rfl | assumption) : Eg X (.Name x p) v σ H R := eg_of (pg_name hN hi hx hf) h
theorem run_set (i : Nat) {x : Str} {pos' : Pos} (hN : X.N.Nodup) (h : Ev X e σ H fun v H1 => Run X rest D (σ.set i (some v)) H1) (hi : X.N[i]? = some x := by rfl) (hx : Loc X.env.scope x := by first | exact Or.inl rfl | exact Or.inr rfl) (hs : swapsWith e (some (.Name x pos')) pos.line X.env = pure false := by rfl)
  (hf : X.fn x = true ∨ X.env.scope.names.lookup x = some .local := by first | exact .inl rfl | exact .inr rfl | assumption) : Run X (.Assign [.Name x pos'] e pos :: rest) D σ H := run_cons (ps_set hN hi hx pe_ev hs hf) h
theorem run_if (h : Et X c σ H fun k H1 => if k = true then Run X body { D with nx := fun σ' H' => Run X rest D σ' H' } σ H1 else Run X els { D with nx := fun σ' H' => Run X rest D σ' H' } σ H1) : Run X (.If c body els pos :: rest) D σ H := run_cons (ps_if pt_et pss_run pss_run) h
theorem run_ifJ (φ ψ : Prop) (hc : ∀ T : Bool → Hp → Prop, (∀ k : Bool, (k = true → φ) → (k = false → ψ) → T k H) → Et X c σ H T) (ht : φ → Run X body { D with nx := fun σ' H' => Run X rest D σ' H' } σ H) (hu : ψ → Run X els { D with nx := fun σ' H' => Run X rest D σ' H' } σ H) : Run X (.If c body els pos :: rest) D σ H :=
 run_if (hc _ fun k p q => by
  cases k with
  | true => rw [if_pos rfl]; exact ht (p rfl)
  | false => rw [if_neg Bool.false_ne_true]; exact hu (q rfl))
theorem run_ret (h : Ev X e σ H D.rt) : Run X (.Return (some e) pos :: rest) D σ H := run_cons (ps_ret pe_ev) h
theorem run_expr (h : Ev X e σ H fun _ H1 => Run X rest D σ H1) (hs : swapsWith e none pos.line X.env = pure false := by rfl) : Run X (.Expr e pos :: rest) D σ H := run_cons (ps_expr pe_ev hs) h
theorem run_asg {tg : Expr} (h : Ev X e σ H fun v H1 => Eg X tg v σ H1 fun σ' H' => Run X rest D σ' H') (hs : swapsWithSole [tg] e pos.line X.env = pure false := by rfl) (hw : swappedStores [tg] e X.env = pure none := by rfl)
  (h1 : (assignEach [tg] X.env).map (·.2) = [assign tg X.env] := by rfl) : Run X (.Assign [tg] e pos :: rest) D σ H := run_cons (ps_asg pe_ev pg_eg hs hw h1) h
noncomputable def Loop (X : Cx) (tg : Expr) (body : List Stmt) (J : It) (D : Ends) (after : St → Hp → Prop) (σ : St) (H : Hp) : Prop :=
 ∃ W : Nat → Nat → St → Hp → Prop, (∃ m, W 0 m σ H) ∧ ∀ i m σ H, W i m σ H → (J.stop i H ∧ after σ H) ∨ (J.go i H ∧ ∃ N : St → Hp → Prop, (∀ σ' H', N σ' H' → ∃ m', m' < m ∧ W (i + 1) m' σ' H') ∧
  ∀ x H', J.yld i H x H' → Eg X tg x σ H' fun σ2 H2 => Run X body { D with nx := N, ct := N, bk := after } σ2 H2)
theorem run_for {tg iter : Expr} {wi : TI} (hi : PI X tg iter wi) (h : wi σ H fun J H1 => Loop X tg body J D (fun σ' H' => Run X rest D σ' H') σ H1) (hp : PassesOwn (model X.prog X.w) X.A X.env X.xe := by exact PassesOwn.never) (hc : X.calm = true := by rfl)
  (hs : ∀ x, foldedSetIterable iter X.env x = pure x := by intro _; rfl) : Run X (.For tg iter body [] pos :: rest) D σ H := run_cons (ps_for hp hc hi pg_eg pss_run hs) h
theorem run_forR1 {tg : Expr} {q : Pos} (hm : X.mg "range" = none) (h : Ev X a σ H fun x H1 => ∃ j : Int, x = .int j ∧ -(2 ^ 62) ≤ j ∧ j < 2 ^ 62 ∧ Loop X tg body (Itr 0 j.toNat) D (fun σ' H' => Run X rest D σ' H') σ H1) (hg : Gl X "range" := by rfl) (hp : PassesOwn (model X.prog X.w) X.A X.env X.xe := by exact PassesOwn.never) (hc : X.calm = true := by rfl) (hs : isStar a = false := by rfl) :
  Run X (.For tg (.Call (.Name "range" q) [a] [] p) body [] pos :: rest) D σ H :=
 run_for (wi := iRng1 (tEa X [a])) (pi_range1 hg hm pa_ea (star_one a [] _ hs)) (show Ea X [a] σ H _ from ea_cons (h.mono fun x H1 ⟨j, e, h1, h2, h3⟩ => ea_nil ⟨j, by rw [e], h1, h2, h3⟩) hs) hp hc (by intro _; rfl)
theorem run_forL {tg iter : Expr} (h : Ev X iter σ H fun x H1 => ∃ a, x = .ref a ∧ (∃ xs, SqL X.K H1 a xs) ∧ Loop X tg body (Itl X.K a) D (fun σ' H' => Run X rest D σ' H') σ H1) (hp : PassesOwn (model X.prog X.w) X.A X.env X.xe := by exact PassesOwn.never) (hc : X.calm = true := by rfl)
  (hs : ∀ x, foldedSetIterable iter X.env x = pure x := by intro _; rfl) : Run X (.For tg iter body [] pos :: rest) D σ H := run_for (pi_list pe_ev) h hp hc hs
theorem loop_range {tg : Expr} {lo : Int} {n : Nat} {after : St → Hp → Prop} (Pv : Nat → St → Hp → Prop) (h0 : Pv 0 σ H)
  (hs : ∀ i σ H, i < n → Pv i σ H → Eg X tg (.int (lo + i)) σ H fun σ2 H2 => Run X body { D with nx := Pv (i + 1), ct := Pv (i + 1), bk := after } σ2 H2) (hd : ∀ σ H, Pv n σ H → after σ H) : Loop X tg body (Itr lo n) D after σ H := by
 refine ⟨fun i m σ H => m = n - i ∧ i ≤ n ∧ Pv i σ H, ⟨n, by simp, Nat.zero_le _, h0⟩, ?_⟩
 rintro i m σ H ⟨rfl, hi, p⟩
 by_cases hlt : i < n
 ·refine .inr ⟨hlt, Pv (i + 1), fun σ' H' p' => ⟨n - (i + 1), by omega, rfl, hlt, p'⟩, fun x H' y => ?_⟩
  obtain ⟨e, y⟩ := y
  subst e y
  exact hs i σ _ hlt p
 ·have e : i = n := by omega
  subst e
  exact .inl ⟨Nat.le_refl _, hd σ H p⟩
theorem loop_tup {tg : Expr} {at_ : Addr} {xs : List V} {after : St → Hp → Prop} (Pv : Nat → St → Hp → Prop) (h0 : Pv 0 σ H) (hl : ∀ i σ H, i ≤ xs.length → Pv i σ H → SqT X.K H at_ xs)
  (hs : ∀ i x σ H, xs[i]? = some x → Pv i σ H → Eg X tg x σ H fun σ2 H2 => Run X body { D with nx := Pv (i + 1), ct := Pv (i + 1), bk := after } σ2 H2) (hd : ∀ σ H, Pv xs.length σ H → after σ H) : Loop X tg body (Itt X.K at_) D after σ H := by
 refine ⟨fun i m σ H => m = xs.length - i ∧ i ≤ xs.length ∧ Pv i σ H, ⟨xs.length, by simp, Nat.zero_le _, h0⟩, ?_⟩
 rintro i m σ H ⟨rfl, hi, p⟩
 have q := hl i σ H hi p
 by_cases hlt : i < xs.length
 ·refine .inr ⟨⟨xs, xs[i], q, by simp [hlt]⟩, Pv (i + 1), fun σ' H' p' => ⟨xs.length - (i + 1), by omega, rfl, hlt, p'⟩, fun x H' y => ?_⟩
  obtain ⟨e, y⟩ := y
  subst e
  exact hs i x σ _ (y xs q) p
 ·have e : i = xs.length := by omega
  subst e
  exact .inl ⟨⟨xs, q, Nat.le_refl _⟩, hd σ H p⟩
theorem loop_list {tg : Expr} {at_ : Addr} {xs : List V} {after : St → Hp → Prop} (Pv : Nat → St → Hp → Prop) (h0 : Pv 0 σ H) (hl : ∀ i σ H, i ≤ xs.length → Pv i σ H → SqL X.K H at_ xs)
  (hs : ∀ i x σ H, xs[i]? = some x → Pv i σ H → Eg X tg x σ H fun σ2 H2 => Run X body { D with nx := Pv (i + 1), ct := Pv (i + 1), bk := after } σ2 H2) (hd : ∀ σ H, Pv xs.length σ H → after σ H) : Loop X tg body (Itl X.K at_) D after σ H := by
 refine ⟨fun i m σ H => m = xs.length - i ∧ i ≤ xs.length ∧ Pv i σ H, ⟨xs.length, by simp, Nat.zero_le _, h0⟩, ?_⟩
 rintro i m σ H ⟨rfl, hi, p⟩
 have q := hl i σ H hi p
 by_cases hlt : i < xs.length
 ·refine .inr ⟨⟨xs, xs[i], q, by simp [hlt]⟩, Pv (i + 1), fun σ' H' p' => ⟨xs.length - (i + 1), by omega, rfl, hlt, p'⟩, fun x H' y => ?_⟩
  obtain ⟨e, y⟩ := y
  subst e
  exact hs i x σ _ (y xs q) p
 ·have e : i = xs.length := by omega
  subst e
  exact .inl ⟨⟨xs, q, Nat.le_refl _⟩, hd σ H p⟩
theorem Fun.go {P : Program} {w : World} {K : PySem.W.Frag} {mg : Str → Option Value} {base : Heap} {x qual : Str} {st : Stmt} {f : Addr} {fd : FuncData} {N ps : List Str} {k : Nat} {sp : Sp} (F : Fun K x qual st f fd) (S : FnScope N ps (defScope st)) (len : ∀ vs H Q E, sp vs H Q E → vs.length = ps.length)
  (hbody : ∀ (cdv : Value) (A : Around) (outer : List Env) (s : Shared) (H : Hp) (vs : List V) (Q : VK) (E : XK), Room k (A.deeper (envOfC qual (defScope st) s.heap.objs.size f cdv)) → sp vs H Q E →
   Run (cxOf CX0 P w K mg base N qual (defScope st) f cdv A outer s H E).nox (defBody st) { nx := fun _ H' => Q .non H', rt := Q } (start N vs) H) : FnOk P w K mg base CX0 (k + 1) f fd ps sp :=
 F.ok S len fun cdv A outer s H vs Q E hr hsp => ⟨_, pss_run, hbody cdv A outer s H vs Q E hr hsp⟩
end
end L2
namespace L2
open PySem PySem.Spec PyProof.Rows
structure Ei (X : Cx) (ifs : List Expr) (σ : St) (H : Hp) (Q : Bool → Hp → Prop) : Prop where
 run : ∀ (pins : List (Addr × Obj)) (s : Shared), Inv X pins σ H s →
  wpAny (model X.prog X.w) X.A (forIn ifs true fun c r => if r = true then do let ok ← isTrue c X.env (eval c X.env); pure (ForInStep.yield ok) else pure (ForInStep.yield r)) (TP X pins σ Q) X.xe s
noncomputable def CEv (X : Cx) (N' : List Str) (scope : Scope) (e : Expr) (σ : St) (H : Hp) (Q : VK) : Prop := ∀ cl C s₀ H₀ ex, Ev (cxComp X N' scope cl C s₀ H₀ ex) e σ H Q
noncomputable def CEg (X : Cx) (N' : List Str) (scope : Scope) (e : Expr) (v : V) (σ : St) (H : Hp) (Q : St → Hp → Prop) : Prop := ∀ cl C s₀ H₀ ex, Eg (cxComp X N' scope cl C s₀ H₀ ex) e v σ H Q
noncomputable def CEi (X : Cx) (N' : List Str) (scope : Scope) (ifs : List Expr) (σ : St) (H : Hp) (Q : Bool → Hp → Prop) : Prop := ∀ cl C s₀ H₀ ex, Ei (cxComp X N' scope cl C s₀ H₀ ex) ifs σ H Q
noncomputable def CompL (X : Cx) (N' : List Str) (scope : Scope) (tg : Expr) (ifs : List Expr) (elt : Expr) (J : It) (D : Addr) (after : Hp → Prop) (σ : St) (H : Hp) : Prop :=
 ∃ W : Nat → Nat → St → Hp → Prop, (∃ m, W 0 m σ H) ∧ ∀ i m σ' H', W i m σ' H' →
  (J.stop i H' ∧ after H') ∨ (J.go i H' ∧ ∃ N : St → Hp → Prop, (∀ σ' H', N σ' H' → ∃ m', m' < m ∧ W (i + 1) m' σ' H') ∧ ∀ x H2, J.yld i H' x H2 → CEg X N' scope tg x σ' H2 fun σ2 H3 => CEi X N' scope ifs σ2 H3 fun b H4 =>
   if b = true then CEv X N' scope elt σ2 H4 fun v H5 => ∃ ys, H5 D = some (.lst ys) ∧ ys.length < sizeLine ∧ N σ2 (upd H5 D (.lst (ys ++ [v]))) else N σ2 H4)
section
variable {X : Cx} {elt tg iter c : Expr} {ifs : List Expr} {scope : Scope} {pos p : Pos} {wi : TI} {σ : St} {H : Hp} {Q : VK} {T : Bool → Hp → Prop} {rest : List Stmt} {D : Ends}
theorem ei_nil (h : T true H) : Ei X [] σ H T := ⟨fun pins s I => pif_nil pins s σ H T I h⟩
theorem ei_one (h : Et X c σ H T) : Ei X [c] σ H T := ⟨fun pins s I => pif_one pt_et pins s σ H T I h⟩
theorem ev_comp (sc : Scope) (N N' : List Str) (n : Nat) (hi : PI X tg iter wi)
  (h : wi σ H fun J H1 => ∀ D, H1 D = none → CompL X N' scope tg ifs elt J D (fun H' => Q (.ref D) H') (σ ++ List.replicate n none) (upd H1 D (.lst [])))
  (hc : X.calm = true := by rfl) (hsc : X.env.scope = sc := by rfl) (hN : X.N = N := by rfl) (hk : compOk sc scope N N' = true := by decide +kernel) (hl : N'.length = N.length + n := by rfl)
  (hs : ∀ x, foldedSetIterable iter X.env x = pure x := by intro _; rfl) : Ev X (.ListComp elt [⟨tg, iter, ifs, 0⟩] scope pos) σ H Q :=
 ev_of (pe_comp (g := fun v σ H Q => CEg X N' scope tg v σ H Q) (tc := fun σ H Q => CEi X N' scope ifs σ H Q) (te := fun σ H Q => CEv X N' scope elt σ H Q) sc N N' n hi
  (fun cl C s₀ H₀ ex pins s σ H v u Q I r h => (h cl C s₀ H₀ ex).run pins s u I r) (fun cl C s₀ H₀ ex pins s σ H Q I h => (h cl C s₀ H₀ ex).run pins s I) (fun cl C s₀ H₀ ex pins s σ H Q I h => (h cl C s₀ H₀ ex).run pins s I) hc hsc hN hk hl hs) h
theorem run_setC (i : Nat) {y : Str} {py spos : Pos} (sc : Scope) (N N' : List Str) (n : Nat) (hnd : X.N.Nodup) (hi : PI X tg iter wi)
  (h : wi σ H fun J H1 => ∀ A, H1 A = none → CompL X N' scope tg ifs elt J A (fun H' => Run X rest D (σ.set i (some (.ref A))) H') (σ ++ List.replicate n none) (upd H1 A (.lst [])))
  (hiN : X.N[i]? = some y := by rfl) (hy : Loc X.env.scope y := by first | exact Or.inl rfl | exact Or.inr rfl)
  (hsw : swapsWith (.ListComp elt [⟨tg, iter, ifs, 0⟩] scope pos) (some (.Name y py)) spos.line X.env = pure true := by rfl)
  (hc : X.calm = true := by rfl) (hsc : X.env.scope = sc := by rfl) (hN : X.N = N := by rfl) (hk : compOk sc scope N N' = true := by decide +kernel) (hl : N'.length = N.length + n := by rfl)
  (hs : ∀ x, foldedSetIterable iter X.env x = pure x := by intro _; rfl) (hf : X.fn y = true ∨ X.env.scope.names.lookup y = some .local := by first | exact .inl rfl | exact .inr rfl | assumption) :
  Run X (.Assign [.Name y py] (.ListComp elt [⟨tg, iter, ifs, 0⟩] scope pos) spos :: rest) D σ H :=
 run_cons (ps_setC (g := fun v σ H Q => CEg X N' scope tg v σ H Q) (tc := fun σ H Q => CEi X N' scope ifs σ H Q) (te := fun σ H Q => CEv X N' scope elt σ H Q) sc N N' n hnd hiN hy hi
  (fun cl C s₀ H₀ ex pins s σ H v u Q I r h => (h cl C s₀ H₀ ex).run pins s u I r) (fun cl C s₀ H₀ ex pins s σ H Q I h => (h cl C s₀ H₀ ex).run pins s I) (fun cl C s₀ H₀ ex pins s σ H Q I h => (h cl C s₀ H₀ ex).run pins s I) hsw hc hsc hN hk hl hs hf) h
end
end L2
namespace L2
open PySem PySem.Spec PyProof.Rows
structure Has (P : Program) (w : World) (K : PySem.W.Frag) (mg : Str → Option Value) (base : Heap) (k : Nat) (x : Str) (ps : List Str) (sp : Sp) : Prop where
 ex : ∃ f fd, FnOk P w K mg base CX0 k f fd ps sp ∧ Binds K fd ps [] ∧ PySem.W.keepIn K (.ref f) = true ∧ mg x = some (.ref f)
theorem Has.mono {P : Program} {w : World} {K : PySem.W.Frag} {mg : Str → Option Value} {base : Heap} {j k : Nat} {x : Str} {ps : List Str} {sp : Sp} (h : Has P w K mg base j x ps sp) (le : j ≤ k) : Has P w K mg base k x ps sp :=
 let ⟨f, fd, F, r⟩ := h.ex; ⟨f, fd, F.mono le, r⟩
theorem ev_has {X : Cx} {k : Nat} {ps : List Str} {sp : Sp} {x : Str} {e : Expr} {es : List Expr} {σ : St} {H : Hp} {Q : VK} {p pos : Pos} (G : Has X.prog X.w X.K X.mg X.base k x ps sp) (hr : Room k X.A)
  (h : Ea X (e :: es) σ H fun vs H1 => sp vs H1 Q E0) (hg : Gl X x := by rfl) (hdb : (x == ("__debug__" : Str)) = false := by decide) (hs : noStar (e :: es) = true := by rfl) : Ev X (.Call (.Name x p) (e :: es) [] pos) σ H Q :=
 let ⟨_, _, F, b, kp, m⟩ := G.ex; ev_call F hr m kp b pass0 h hg hdb hs
theorem _root_.L2.Room.u100 {k : Nat} {A : Around} (hr : Room k A) : A.units + 100 < cLine := by have := hr.un; omega
theorem _root_.L2.Room.u1 {k : Nat} {A : Around} (hr : Room k A) : A.units + 1 < cLine := by have := hr.un; omega
noncomputable def Df (K : PySem.W.Frag) (x : Str) (st : Stmt) : Prop := ∃ (f : Addr) (fd : FuncData), PySem.W.nsIn K mainGlobals x = some (some (.ref f)) ∧ Fun K x x st f fd
theorem df_mk {K : PySem.W.Frag} {x : Str} {st : Stmt} {f : Addr} {oc kV doc pm cdv ct : Value} {od an : Option Addr} {sl : Array (Option Value)} (a : PySem.W.nsIn K mainGlobals x = some (some (.ref f)))
  (l : K.lookup f = some ⟨oc, od, .func (PySem.W.fnOf x x (defArgs st) (defBody st) (defScope st) .none kV doc pm an cdv ct), sl⟩) (c : PySem.W.codeIn K cdv x = true) (k : PySem.W.keepIn K (.ref f) = true) : Df K x st := ⟨f, _, a, fun_mk l c k⟩
structure Bun where
 f : Addr
 cdv : Value
 A : Around
 outer : List Env
 s : Shared
 H : Hp
 E : XK
noncomputable def cxB (N : List Str) (qual : Str) (scope : Scope) (P : Program) (w : World) (K : PySem.W.Frag) (mg : Str → Option Value) (base : Heap) (b : Bun) : Cx := (cxOf CX0 P w K mg base N qual scope b.f b.cdv b.A b.outer b.s b.H b.E).nox
noncomputable def En (Q : VK) : Ends := { nx := fun _ H' => Q .non H', rt := Q }
theorem Fun.gb {P : Program} {w : World} {K : PySem.W.Frag} {mg : Str → Option Value} {base : Heap} {x qual : Str} {st : Stmt} {f : Addr} {fd : FuncData} {N ps : List Str} {k : Nat} {sp : Sp} (F : Fun K x qual st f fd) (S : FnScope N ps (defScope st)) (len : ∀ vs H Q E, sp vs H Q E → vs.length = ps.length)
  (hbody : ∀ (b : Bun) (H : Hp) (vs : List V) (Q : VK) (E : XK), Room k (b.A.deeper (envOfC qual (defScope st) b.s.heap.objs.size b.f b.cdv)) → sp vs H Q E → Run (cxB N qual (defScope st) P w K mg base b) (defBody st) (En Q) (start N vs) H) : FnOk P w K mg base CX0 (k + 1) f fd ps sp :=
 F.go S len fun cdv A outer s H vs Q E hr hsp => hbody ⟨f, cdv, A, outer, s, H, E⟩ H vs Q E hr hsp
theorem bd1 {fd : FuncData} {ps : List Str} (f : ∀ a : Value, bindArgs fd ⟨[a], []⟩ = pure (ps.zip [a])) : ∀ us : List Value, us.length = 1 → bindArgs fd ⟨us, []⟩ = pure (ps.zip us) := fun us h =>
 match us, h with | [a], _ => f a
theorem bd2 {fd : FuncData} {ps : List Str} (f : ∀ a b : Value, bindArgs fd ⟨[a, b], []⟩ = pure (ps.zip [a, b])) : ∀ us : List Value, us.length = 2 → bindArgs fd ⟨us, []⟩ = pure (ps.zip us) := fun us h =>
 match us, h with | [a, b], _ => f a b
theorem bd3 {fd : FuncData} {ps : List Str} (f : ∀ a b c : Value, bindArgs fd ⟨[a, b, c], []⟩ = pure (ps.zip [a, b, c])) : ∀ us : List Value, us.length = 3 → bindArgs fd ⟨us, []⟩ = pure (ps.zip us) := fun us h =>
 match us, h with | [a, b, c], _ => f a b c
theorem bd4 {fd : FuncData} {ps : List Str} (f : ∀ a b c d : Value, bindArgs fd ⟨[a, b, c, d], []⟩ = pure (ps.zip [a, b, c, d])) : ∀ us : List Value, us.length = 4 → bindArgs fd ⟨us, []⟩ = pure (ps.zip us) := fun us h =>
 match us, h with | [a, b, c, d], _ => f a b c d
theorem Df.has {P : Program} {w : World} {K : PySem.W.Frag} {mg : Str → Option Value} {h base : Heap} {k : Nat} {x : Str} {st : Stmt} {ps : List Str} {sp : Sp} (d : Df K x st) (X : K.In h) (G : h.Ns mainGlobals mg)
  (hb : ∀ (kV doc pm : Value) (an : Option Addr) (cdv ct : Value) (us : List Value), us.length = ps.length → bindArgs (PySem.W.fnOf x x (defArgs st) (defBody st) (defScope st) .none kV doc pm an cdv ct) ⟨us, []⟩ = pure (ps.zip us))
  (ok : ∀ {f : Addr} {fd : FuncData}, Fun K x x st f fd → FnOk P w K mg base CX0 k f fd ps sp) : Has P w K mg base k x ps sp :=
 let ⟨f, fd, a, F⟩ := d; ⟨f, fd, ok F, F.binds hb, F.kp, PySem.W.mg_of X G a⟩
theorem Df.law {P : Program} {w : World} {K : PySem.W.Frag} {mg : Str → Option Value} {h : Heap} {k : Nat} {x y : Str} {st : Stmt} {sp : Sp} {fa : Addr} (d : Df K x st) (X : K.In h) (G : h.Ns mainGlobals mg) (hfa : mg x = some (.ref fa))
  (hb : ∀ (kV doc pm : Value) (an : Option Addr) (cdv ct : Value) (s : Shared) (v : Value), BindsTo s (PySem.W.fnOf x x (defArgs st) (defBody st) (defScope st) .none kV doc pm an cdv ct) ⟨[v], []⟩ [(y, v)])
  (ok : ∀ (base : Heap) {f : Addr} {fd : FuncData}, Fun K x x st f fd → FnOk P w K mg base CX0 k f fd [y] sp) :
  ∃ fd : FuncData, (∀ (s : Shared) (v : Value), BindsTo s fd ⟨[v], []⟩ [(y, v)]) ∧ ∀ base : Heap, K.In base → base.Ns mainGlobals mg → FnOk P w K mg base CX0 k fa fd [y] sp := by
 obtain ⟨f, fd, a, F⟩ := d
 have e := hfa.symm.trans (PySem.W.mg_of X G a)
 cases e
 obtain ⟨oc, od, kV, doc, pm, an, cdv, ct, osl, rfl, lk, hcd⟩ := id F.ex
 exact ⟨_, hb kV doc pm an cdv ct, fun base _ _ => ok base F⟩
end L2
namespace SetT
open PySem
end SetT
namespace SetT
open PySem
noncomputable def byTx (w : World) : Bool := w.params.followText "set-order"
noncomputable def keyOf (e : Int × Value) : Str := match e.2 with
 | .str x _ => x
 | _ => ⟨#[]⟩
section
variable (prog : Program) (w : World)
noncomputable def Elt (e : Int × Value) : Prop := ∃ z t, e = ((strKind prog w).hash z, Value.str z t)
structure Tab (es : Array (Int × Value)) (t : SetTable) (zs : List Str) : Prop where
 elts : ∀ e ∈ es.toList, Elt prog w e
 keys : (es.toList.map keyOf).Perm zs
 nodup : zs.Nodup
 few : zs.length < 1000
 fits : t.fits es.size = true
 led : t.led = !byTx w
 plain : es = #[] ∨ t.plain = false
noncomputable def SetAt (h : Heap) (a : Addr) (zs : List Str) : Prop := ∃ o es ep t, h.get? a = some o ∧ o.ExactSet ∧ o.data = .set es ep t ∧ Tab prog w es t zs
end
section
variable {prog : Program} {w : World} {es : Array (Int × Value)} {t : SetTable} {zs : List Str} {h h' : Heap} {a : Addr}
theorem Tab.elems (T : Tab prog w es t zs) : ElemsOf (strKind prog w) es.toList := fun e he => by
 obtain ⟨z, u, rfl⟩ := T.elts e he
 exact ⟨⟨z, strKind_is _ _ _ _, rfl⟩, rfl⟩
theorem Tab.size (T : Tab prog w es t zs) : es.size = zs.length := by
 have := T.keys.length_eq
 rw [List.length_map, Array.length_toList] at this
 exact this
theorem Tab.few' (T : Tab prog w es t zs) : es.size < 1000 := by rw [T.size]; exact T.few
theorem Tab.scan (T : Tab prog w es t zs) : es.size < scanBound := by have := T.few'; unfold scanBound; omega
theorem Tab.perm {es' : Array (Int × Value)} {t' : SetTable} (T : Tab prog w es t zs) (p : es'.toList.Perm es.toList) (hf : t'.fits es'.size = true) (hl : t'.led = t.led) (hp : es' = #[] ∨ t'.plain = false) : Tab prog w es' t' zs :=
 ⟨fun e he => T.elts e (p.mem_iff.mp he), (p.map keyOf).trans T.keys, T.nodup, T.few, hf, hl.trans T.led, hp⟩
theorem SetAt.keep (S : SetAt prog w h a zs) (k : ∀ o, h.get? a = some o → h'.get? a = some o) : SetAt prog w h' a zs := let ⟨o, es, ep, t, h1, h2⟩ := S; ⟨o, es, ep, t, k o h1, h2⟩
theorem SetAt.typeIs {s : Shared} (S : SetAt prog w s.heap a zs) : s.TypeIs (.ref a) "set" := let ⟨o, _, _, _, h1, h2, _⟩ := S; ⟨o, h1, h2.1⟩
theorem set_put {o : Obj} {ep : Nat} {es' : Array (Int × Value)} {t' : SetTable} {zs' : List Str} (ho : h.get? a = some o) (hx : o.ExactSet) (hd : o.data = .set es ep t) (T' : Tab prog w es' t' zs') :
  (h.update a (Obj.putSet es' t')).get? a = some { o with data := .set es' (ep + 1) t' } ∧ SetAt prog w (h.update a (Obj.putSet es' t')) a zs' := by
 have q := Heap.get?_update_self (Obj.putSet es' t') ho (by rw [putSet_of es' t' hd]; rfl)
 rw [putSet_of es' t' hd] at q
 exact ⟨q, _, es', ep + 1, t', q, hx, rfl, T'⟩
theorem is_key {e : Int × Value} (he : Elt prog w e) (z : Str) : (strKind prog w).is z e.2 = decide (z = keyOf e) := by
 obtain ⟨y, u, rfl⟩ := he
 exact KeyKind.is_eq_decide (strKind_is prog w y u) z
theorem find_none (T : Tab prog w es t zs) {z : Str} (hz : z ∉ zs) : es.toList.findIdx? (fun e => (strKind prog w).is z e.2) = none := by
 rw [List.findIdx?_eq_none_iff]
 intro e he
 rw [is_key (T.elts e he), decide_eq_false_iff_not]
 rintro rfl
 exact hz (T.keys.mem_iff.mp (List.mem_map_of_mem he))
theorem find_some (T : Tab prog w es t zs) {z : Str} (hz : z ∈ zs) : ∃ j, ∃ hj : j < es.toList.length, es.toList.findIdx? (fun e => (strKind prog w).is z e.2) = some j ∧ keyOf es.toList[j] = z := by
 obtain ⟨e, he, e2⟩ := List.mem_map.mp (T.keys.mem_iff.mpr hz)
 cases q : es.toList.findIdx? (fun e => (strKind prog w).is z e.2) with
 | none =>
  have := List.findIdx?_eq_none_iff.mp q e he
  rw [is_key (T.elts e he), decide_eq_false_iff_not] at this
  exact absurd e2.symm this
 | some j =>
  obtain ⟨hj, p, _⟩ := List.findIdx?_eq_some_iff_getElem.mp q
  rw [is_key (T.elts _ (List.getElem_mem hj)), decide_eq_true_eq] at p
  exact ⟨j, hj, rfl, p.symm⟩
theorem orIn_led (t : SetTable) (n : Nat) : (t.orStandIn n).led = t.led ∧ ((t.orStandIn n).plain = true → t.plain = true) := by
 unfold SetTable.orStandIn
 split
 ·exact ⟨rfl, id⟩
 ·exact ⟨rfl, fun h => by cases h⟩
theorem layNew_led (t : SetTable) (es : Array (Int × Value)) (x : Int) (v : Value) : (layNew t es x v).2.1.led = t.led := by
 unfold layNew
 split
 ·exact (orIn_led _ _).1
 ·rfl
theorem laid_led {mask f m : Nat} {l p : Bool} {hs : Array Int} {t' : SetTable} {o : Array Nat} (e : SetTable.laid mask f m l p hs = some (t', o)) : t'.led = l ∧ t'.plain = p := by
 unfold SetTable.laid at e
 cases c : SetTable.layClean mask hs with
 | none => rw [c] at e; cases e
 | some ow => rw [c] at e; cases e; exact ⟨rfl, rfl⟩
theorem relay_led (t : SetTable) (es : Array (Int × Value)) (n : Nat) (hp : t.plain = false) : (relayAll t es n).2.1.led = t.led ∧ (relayAll t es n).2.1.plain = false := by
 unfold relayAll
 split
 ·rename_i t' o e
  have q := laid_led e
  dsimp only
  split
  ·exact ⟨q.1, q.2.trans hp⟩
  ·exact ⟨rfl, rfl⟩
 ·exact ⟨rfl, rfl⟩
end
section
variable {prog : Program} {w : World} {A : Around} {E : Value → Shared → Prop} {s : Shared} {a : Addr} {zs : List Str}
theorem sz_ok {n : Nat} (h : n < 1001) : n ≤ sizeLine := by rw [sizeLine_eq]; omega
theorem wp_laid {g : Bool → Sem Unit} (hg : ∀ (b : Bool) (s₁ : Shared) (Q' : Unit → Shared → Prop), Q' () s₁ → wpAny (model prog w) A (g b) Q' E s₁)
  {o : Obj} {es : Array (Int × Value)} {ep : Nat} {t : SetTable} (ho : s.heap.get? a = some o) (hx : o.ExactSet) (hd : o.data = .set es ep t)
  {es1 : Array (Int × Value)} {t2 : SetTable} (T : Tab prog w es1 t2 zs) (hp : t2.plain = false) {c : Bool} {R : Option Bool → Shared → Prop}
  (k : ∀ h', Heap.SameBut a s.heap h' → SetAt prog w h' a zs → R (some true) { s with heap := h' }) :
  wpAny (model prog w) A (do
   storeSet a es1 t2
   if c = true then do
     g (relayAll t2 es1 (SetTable.grown es1.size)).2.2
     storeSet a (relayAll t2 es1 (SetTable.grown es1.size)).1 (relayAll t2 es1 (SetTable.grown es1.size)).2.1
     pure (some true)
    else pure (some true)) R E s := by
 refine wpAny_bind (wpAny_storeSet_of ho hd ?_ (sz_ok (Nat.lt_succ_of_lt T.few')))
 obtain ⟨q1, q2⟩ := set_put ho hx hd T
 have sb := Heap.SameBut.update s.heap a (Obj.putSet es1 t2)
 cases c with
 | false => exact wpAny_pure (k _ sb q2)
 | true =>
  have p := relayAll_perm t2 es1 (SetTable.grown es1.size)
  have T3 := T.perm p (relayAll_fits t2 es1 (SetTable.grown es1.size)) (relay_led t2 es1 _ hp).1 (.inr (relay_led t2 es1 _ hp).2)
  refine wpAny_bind (hg _ _ _ ?_)
  refine wpAny_bind (wpAny_storeSet_of q1 rfl ?_ (sz_ok (Nat.lt_succ_of_lt T3.few')))
  exact wpAny_pure (k _ (sb.trans (Heap.SameBut.update _ a _)) (set_put q1 hx rfl T3).2)
noncomputable def added (zs : List Str) (z : Str) : List Str := if z ∈ zs then zs else zs ++ [z]
theorem wp_add {z : Str} {tk : Tok} {Q : Bool → Shared → Prop} (S : SetAt prog w s.heap a zs) (hb : zs.length + 1 < 1000)
  (k : ∀ (b : Bool) h', Heap.SameBut a s.heap h' → SetAt prog w h' a (added zs z) → Q b { s with heap := h' }) :
  wpAny (model prog w) A (setAddHashed a (.str z tk) ((strKind prog w).hash z)) Q E s := by
 obtain ⟨o, es, ep, t, ho, hx, hd, T⟩ := S
 unfold setAddHashed setAddHashedIn
 refine wpAny_holding (wpAny_bind (wpAny_setState_of ho hd T.fits ?_))
 dsimp only
 rw [byScan_of (knd := strKind prog w) (x := .str z tk) rfl T.scan T.elems]
 simp only [↓reduceIte]
 unfold setAddByScan
 refine wpAny_bind (wpAny_bind (wpAny_rule (wpAny_bind (wpAny_setScan_of (knd := strKind prog w) (k := z) (strKind_is _ _ _ _) ho hd T.fits T.elems ?_))))
 by_cases hz : z ∈ zs
 ·obtain ⟨j, hj, e, _⟩ := find_some T hz
  rw [e]
  dsimp only
  refine wpAny_pure (wpAny_pure (k false s.heap (Heap.SameBut.refl a s.heap) ?_))
  unfold added
  rw [if_pos hz]
  exact ⟨o, es, ep, t, ho, hx, hd, T⟩
 ·rw [find_none T hz]
  dsimp only
  have gw : ∀ (b : Bool) (s₁ : Shared) (Q' : Unit → Shared → Prop), Q' () s₁ → wpAny (model prog w) A (match b with | true => rule "set.scan.the-table-gave-way" | false => pure ()) Q' E s₁ :=
   fun b s₁ Q' q => by cases b <;> first | exact wpAny_pure q | exact wpAny_rule q
  have p := layNew_perm t es ((strKind prog w).hash z) (.str z tk)
  have f := layNew_fits t es ((strKind prog w).hash z) (.str z tk)
  have l := layNew_led t es ((strKind prog w).hash z) (.str z tk)
  generalize layNew t es ((strKind prog w).hash z) (.str z tk) = L at p f l ⊢
  obtain ⟨es1, t1, wd, gv⟩ := L
  dsimp only at p f l ⊢
  rw [Array.toList_push] at p
  have tab : ∀ t2 : SetTable, t2.fits es1.size = true → t2.led = t1.led → t2.plain = false → Tab prog w es1 t2 (zs ++ [z]) := fun t2 h1 h2 h3 => {
   elts := fun e he => by
    rcases List.mem_append.mp (p.mem_iff.mp he) with he | he
    ·exact T.elts e he
    ·exact ⟨z, tk, List.mem_singleton.mp he⟩
   keys := by
    refine (p.map keyOf).trans ?_
    rw [List.map_append]
    exact T.keys.append (List.Perm.refl _)
   nodup := by
    rw [List.nodup_append]
    refine ⟨T.nodup, by simp, fun x hx y hy e => ?_⟩
    rw [List.mem_singleton] at hy
    subst hy e
    exact hz hx
   few := by rw [List.length_append]; exact hb
   fits := h1
   led := h2.trans (l.trans T.led)
   plain := .inr h3 }
  have fin : ∀ h', Heap.SameBut a s.heap h' → SetAt prog w h' a (zs ++ [z]) → Q true { s with heap := h' } := fun h' q1 q2 => k true h' q1 (by unfold added; rw [if_neg hz]; exact q2)
  refine wpAny_bind (gw _ _ _ ?_)
  split
  ·rename_i hp
   refine wpAny_bind ?_
   rw [hashByValue_scannable 8 rfl]
   refine wpAny_pure ?_
   refine wp_laid gw ho hx hd (tab { t1 with plain := false } (SetTable.fits_plain_off f) rfl rfl) rfl fun h' q1 q2 => ?_
   dsimp only
   exact wpAny_pure (fin h' q1 q2)
  ·rename_i hp
   refine wpAny_bind (wpAny_pure ?_)
   simp only [↓reduceIte]
   refine wp_laid gw ho hx hd (tab t1 f rfl (Bool.eq_false_iff.mpr hp)) (Bool.eq_false_iff.mpr hp) fun h' q1 q2 => ?_
   dsimp only
   exact wpAny_pure (fin h' q1 q2)
theorem wp_find {z : Str} {tk : Tok} {Q : Option Nat → Shared → Prop} {o : Obj} {es : Array (Int × Value)} {ep : Nat} {t : SetTable} (ho : s.heap.get? a = some o) (hd : o.data = .set es ep t) (T : Tab prog w es t zs)
  (k0 : z ∉ zs → Q none s) (k1 : ∀ j, (hj : j < es.toList.length) → keyOf es.toList[j] = z → Q (some j) s) : wpAny (model prog w) A (setFind a (.str z tk) ((strKind prog w).hash z)) Q E s := by
 unfold setFind setFindIn
 refine wpAny_bind (wpAny_setState_of ho hd T.fits ?_)
 dsimp only
 rw [byScan_of (knd := strKind prog w) (x := .str z tk) rfl T.scan T.elems]
 simp only [↓reduceIte]
 refine wpAny_bind (wpAny_rule (wpAny_bind (wpAny_setScan_of (knd := strKind prog w) (k := z) (strKind_is _ _ _ _) ho hd T.fits T.elems ?_)))
 by_cases hz : z ∈ zs
 ·obtain ⟨j, hj, e, q⟩ := find_some T hz
  rw [e]
  dsimp only
  rw [Nat.zero_add]
  exact wpAny_pure (k1 j hj q)
 ·rw [find_none T hz]
  exact wpAny_pure (k0 hz)
theorem pick_perm {α : Type} : ∀ (l : List α) (j : Nat) (hj : j < l.length), (l[j] :: l.eraseIdx j).Perm l
 | [], _, h => by simp at h
 | x :: r, 0, _ => List.Perm.refl _
 | x :: r, j + 1, h => (List.Perm.swap x _ _).trans ((pick_perm r j (Nat.lt_of_succ_lt_succ h)).cons x)
end
end SetT
namespace SetT
open PySem
section
variable {prog : Program} {w : World} {A : Around} {E : Value → Shared → Prop} {s : Shared} {a : Addr} {zs : List Str}
theorem wp_text {Q : Bool → Shared → Prop} (k : Q (byTx w) s) : wpAny (model prog w) A setsByText Q E s := by
 unfold setsByText
 exact wpAny_bind (wpAny_askSetting (wpAny_pure k))
variable {o : Obj} {es : Array (Int × Value)} {ep : Nat} {t : SetTable}
end
end SetT
namespace SetT
open PySem
open Builtin.Frozenset
section
variable {prog : Program} {w : World} {A : Around} {E : Value → Shared → Prop} {s : Shared} {a : Addr} {zs : List Str}
structure Bare (w : World) (t : SetTable) : Prop where
 place : t.place = #[]
 dummies : t.dummies = #[]
 led : t.led = !byTx w
 plain : t.plain = true
theorem Bare.tab {t : SetTable} (B : Bare w t) : Tab prog w #[] t [] :=
 ⟨fun e he => by simp at he, by simp, List.nodup_nil, by decide, by unfold SetTable.fits SetTable.fill; rw [B.place, B.dummies]; simp, B.led, .inl rfl⟩
variable {o : Obj} {ep : Nat} {t : SetTable}
end
end SetT
namespace SetT
open PySem
open Builtin.Frozenset
section
variable {prog : Program} {w : World} {A : Around} {E : Value → Shared → Prop} {s : Shared} {a r : Addr} {za zr : List Str}
end
end SetT
namespace SetT
open PySem
open Builtin.Frozenset
theorem added_mem (zs : List Str) (z y : Str) : y ∈ added zs z ↔ y ∈ zs ∨ y = z := by
 unfold added
 split
 ·rename_i h
  exact ⟨.inl, fun q => q.elim id fun e => e ▸ h⟩
 ·rw [List.mem_append, List.mem_singleton]
section
variable {prog : Program} {w : World} {A : Around} {E : Value → Shared → Prop} {s : Shared}
noncomputable def setNew (w : World) : Obj := { cls := .type "set", dict := none, data := .set #[] 0 (.fresh 0 0 (!byTx w)) }
theorem setNew_at {h : Heap} {a : Addr} (e : h.get? a = some (setNew w)) : SetAt prog w h a [] := ⟨_, _, _, _, e, ⟨rfl, rfl, rfl⟩, rfl, Bare.tab ⟨rfl, rfl, rfl, rfl⟩⟩
variable {R : Result → Shared → Prop} {I : Addr} {fp wr : List Addr} {G : Array GenState → Array GenState → Prop} {n : Nat} {P : Nat → Value → Prop} {St : Nat → Shared → Prop}
end
end SetT
namespace SetT
open PySem
open Builtin.Frozenset
section
variable {prog : Program} {w : World} {A : Around} {E : Value → Shared → Prop} {s : Shared} {a tp it : Addr} {zs : List Str} {o : Obj} {es : Array (Int × Value)} {ep : Nat} {t : SetTable} {ws : List (Int × Value)} {i : Nat} {first : Value}
end
end SetT
namespace SetT
open PySem PySem.Spec
open Builtin.Frozenset
section
variable {prog : Program} {w : World} {A : Around} {E : Value → Shared → Prop} {s : Shared} {a tp it : Addr} {zs : List Str} {o : Obj} {es : Array (Int × Value)} {ep : Nat} {t : SetTable} {ws : List (Int × Value)} {i : Nat} {first : Value}
end
end SetT
namespace SetT
open PySem PySem.Spec PyProof.Rows
theorem lt_dec (a b : List Nat) : ltCps a b = decide (a < b) := ltCps_eq a b
theorem rising_all : ∀ (l : List Str) (p : Str), risingS p l = true → ∀ x ∈ l, p.cps.toList ≤ x.cps.toList
 | [], _, _, x, hx => by cases hx
 | y :: r, p, h, x, hx => by
  unfold risingS at h
  rw [Bool.and_eq_true, Bool.not_eq_true', lt_dec, decide_eq_false_iff_not] at h
  have h1 : p.cps.toList ≤ y.cps.toList := h.1
  rcases List.mem_cons.mp hx with rfl | hx
  ·exact h1
  ·exact List.le_trans h1 (rising_all r y h.2 x hx)
theorem rising_sorted {p : Str} : ∀ {l : List Str}, risingS p l = true → sortedS l = true
 | [], _ => rfl
 | y :: r, h => by
  unfold risingS at h
  rw [Bool.and_eq_true] at h
  exact h.2
theorem str_ext {a b : Str} (h : a.cps.toList = b.cps.toList) : a = b := by
 cases a; cases b
 simp only at h
 have := Array.toList_inj.mp h
 rw [this]
section
variable {prog : Program} {w : World} {A : Around} {E : Value → Shared → Prop} {s : Shared} {a : Addr} {zs : List Str}
end
end SetT
namespace L2
open PySem PySem.Spec PyProof.Rows SetT
noncomputable def SetO (prog : Program) (w : World) (a : Addr) (zs : List Str) : HO := .ext fun h => SetAt prog w h a zs
section
variable {X : Cx} {pins : List (Addr × Obj)} {σ : St} {H : Hp} {s s' : Shared} {a : Addr} {zs : List Str}
theorem Inv.like (I : Inv X pins σ H s) (e1 : s'.heap = s.heap) (e2 : s'.gens = s.gens) (e3 : s'.os = s.os) : Inv X pins σ H s' := by
 obtain ⟨h, g, d, t, o⟩ := s
 obtain ⟨h', g', d', t', o'⟩ := s'
 simp only at e1 e2 e3
 subst e1 e2 e3
 exact ⟨I.ok, I.os, I.bare, I.base, I.loc, I.cell, I.free, I.freeC, I.pin, I.hok, I.len⟩
theorem Inv.laid' {o : HO} (I : Inv X pins σ H s) (k : ∀ b u, s.heap.get? b = some u → s'.heap.get? b = some u) (e2 : s'.gens = s.gens) (e3 : s'.os = s.os) (hp : s.heap.objs.size ≤ a) (new : ObjOk X.prog X.w (upd H a o) s'.heap a o) : Inv X pins σ (upd H a o) s' :=
 (I.laid (t' := s.toks) k hp new).like (s' := s') rfl e2 e3
theorem set_obj {h : Heap} (S : SetAt X.prog X.w h a zs) : ObjOk X.prog X.w H h a (SetO X.prog X.w a zs) := by
 refine ⟨S, ?_, fun h1 h2 q k => q.keep k⟩
 obtain ⟨o, _, _, _, ho, _⟩ := S
 exact ⟨o, ho⟩
theorem Inv.set (I : Inv X pins σ H s) (h : H a = some (SetO X.prog X.w a zs)) : SetAt X.prog X.w s.heap a zs := (I.hok a _ h).1
theorem strs_of_vals : ∀ {zs : List Str} {us : List Value}, Vals (zs.map V.str) us → StrsAre us zs
 | [], _, .nil => .nil
 | z :: r, _, .cons q qs => by
  obtain ⟨t, rfl⟩ := q
  exact .cons z t (strs_of_vals qs)
theorem vals_of_strs : ∀ {us : List Value} {zs : List Str}, StrsAre us zs → Vals (zs.map V.str) us
 | _, _, .nil => .nil
 | _, _, .cons z t q => .cons ⟨t, rfl⟩ (vals_of_strs q)
theorem call_sorted_strs : CallR X (.builtin "sorted") (fun xs H Q => ∃ p zs, xs = [.ref p] ∧ SqL X.K H p (zs.map V.str) ∧ zs.length < 64 ∧ ∀ l ss, H l = none → ss.Perm zs → sortedS ss = true → Q (.ref l) (upd H l (.lst (ss.map V.str)))) := by
 intro pins s σ H xs us Q I r h
 obtain ⟨p, zs, rfl, hp, hl, q⟩ := h
 obtain ⟨u, rfl, ru⟩ := vals1 r
 cases (show u = Value.ref p from ru)
 obtain ⟨its, rv, pl, hz⟩ := I.list hp
 have e1 := rv.length
 rw [List.length_map] at e1
 refine PyProof.Rows.sorted_strs pl.isList (strs_of_vals rv) (by omega) fun out ss hS hpm hso => ?_
 obtain ⟨e, he⟩ := sortedAll_at s.heap its out
 have hlen : ss.length ≤ sizeLine := by rw [hpm.length_eq]; exact sz_ok (by omega)
 refine ⟨.ref _, _, I.laid' (s' := { s with heap := sortedAll s.heap its out }) (fun b u hb => sortedAll_old hb) rfl rfl (Nat.le_succ _) (show ObjOk X.prog X.w _ _ _ (.lst (ss.map V.str)) from ⟨by rw [List.length_map]; exact hlen, out.toList, e, vals_of_strs hS, he⟩), rfl, q _ ss (I.hok.fresh (Nat.le_succ _)) hpm hso⟩
end
end L2
namespace L2
open PySem PySem.Spec PyProof.Rows
section
variable {X : Cx} {o e : Expr} {σ : St} {H : Hp} {Q : VK} {ap cp : Pos}
theorem ev_append (h : Ev X o σ H fun x H1 => ∃ l, x = .ref l ∧ (∃ xs, H1 l = some (.lst xs)) ∧ Ev X e σ H1 fun y H2 => ∃ xs, H2 l = some (.lst xs) ∧ xs.length < sizeLine ∧ Q .non (upd H2 l (.lst (xs ++ [y]))))
  (hbase : attributeBase o "append" X.env (eval o X.env) = eval o X.env := by rfl)
  (hfew : ((backTo cp (starEach [e] X.env)).all (fun x => !x.1) && (backToKw cp (keywordEach [] X.env)).all (fun x => x.1.isSome) && decide ([e].length + ([] : List Keyword).length + (if ([] : List Keyword).isEmpty then 0 else 1) < 30)) = true := by rfl)
  (hline : (ap.endLine == cp.line) = true := by rfl) (hs : starEach [e] X.env = (false, eval e X.env) :: starEach [] X.env := by rfl) (hplain : (backTo cp (starEach [] X.env)).any (·.1) = false := by rfl) (hst : isStar e = false := by rfl) :
  Ev X (.Call (.Attribute o "append" ap) [e] [] cp) σ H Q := by
 refine ev_of (pe_bm PySem.F.plainAttrs_list PySem.F.slot_list_append PySem.F.type_list_append mt_append pe_ev (pa_ea (es := [e])) hbase hfew hline hs hplain) (h.mono fun x H1 ⟨l, ex, ⟨xs, hl⟩, h2⟩ => ?_)
 subst ex
 refine ⟨.inl ⟨rfl, xs, SqL.of hl⟩, ?_⟩
 exact ea_cons (h2.mono fun y H2 ⟨ys, hy, hz, q⟩ => ea_nil ⟨l, ys, y, rfl, rfl, hy, hz, q⟩) hst
end
section
variable {X : Cx} {c : Expr} {body els rest : List Stmt} {D : Ends} {σ : St} {H : Hp} {pos : Pos}
theorem Run.nx {M M' : St → Hp → Prop} {l : List Stmt} (h : Run X l { D with nx := M } σ H) (f : ∀ σ' H', M σ' H' → M' σ' H') : Run X l { D with nx := M' } σ H :=
 ⟨fun pins s I => thn (h.run pins s I) fun fl s' q => by
  cases fl with
  | next =>
   obtain ⟨σ', H', I', m⟩ := q
   exact ⟨σ', H', I', f σ' H' m⟩
  | _ => exact q⟩
theorem run_ifM (φ ψ : Prop) (M : St → Hp → Prop) (hc : ∀ T : Bool → Hp → Prop, (∀ k : Bool, (k = true → φ) → (k = false → ψ) → T k H) → Et X c σ H T) (ht : φ → Run X body { D with nx := M } σ H) (hu : ψ → Run X els { D with nx := M } σ H)
  (hr : ∀ σ' H', M σ' H' → Run X rest D σ' H') : Run X (.If c body els pos :: rest) D σ H :=
 run_ifJ φ ψ hc (fun p => (ht p).nx hr) (fun p => (hu p).nx hr)
end
noncomputable def EqD (X : Cx) (H : Hp) (k : Nat) (x y : V) (b : Bool) : Prop := ∀ (pins : List (Addr × Obj)) (σ : St) (s : Shared) (A : Around) (u v : Value), Inv X pins σ H s → A.units + k < cLine → RelV x u → RelV y v → SeqAt.EqAt A s u v b
noncomputable def RcD (X : Cx) (H : Hp) (k : Nat) (x y : V) (b : Bool) : Prop := ∀ (pins : List (Addr × Obj)) (σ : St) (s : Shared) (A : Around) (u v : Value), Inv X pins σ H s → A.units + k < cLine → RelV x u → RelV y v → SeqAt.RcAt A s u v b
noncomputable def RnD (X : Cx) (H : Hp) (k : Nat) (x y : V) (b : Bool) : Prop := ∀ (pins : List (Addr × Obj)) (σ : St) (s : Shared) (A : Around) (u v : Value), Inv X pins σ H s → A.units + k < cLine → RelV x u → RelV y v → SeqAt.RcNeAt A s u v (!b)
section
variable {X : Cx} {H : Hp} {k : Nat} {a b : Addr} {xs ys : List V}
theorem eqD_flat {x y : V} (fx : flatV x = true) (fy : flatV y = true) : EqD X H k x y (eqV x y) := fun _ _ _ _ _ _ _ _ rx ry => eqAt_V rx ry fx fy
theorem eqD_same : EqD X H k (.ref a) (.ref a) true := fun _ _ _ _ u v _ _ rx ry => by
 cases rx
 cases ry
 exact SeqAt.EqAt.same _
theorem eqD_of (hne : a ≠ b) {c : Bool} (h : RcD X H k (.ref a) (.ref b) c) : EqD X H k (.ref a) (.ref b) c := fun pins σ s A u v I hu rx ry => by
 cases rx
 cases ry
 exact SeqAt.EqAt.of_refs hne (h pins σ s A _ _ I hu rfl rfl)
theorem vals_at {us : List Value} (r : Vals xs us) {j : Nat} (h : j < us.length) : ∃ x, xs[j]? = some x ∧ RelV x us[j] := by
 have hl := r.length
 have hj : j < xs.length := by omega
 obtain ⟨u, e, q⟩ := r.get (List.getElem?_eq_getElem hj)
 rw [List.getElem?_eq_getElem h] at e
 cases e
 exact ⟨_, List.getElem?_eq_getElem hj, q⟩
theorem rcD_list (e : Nat → Bool) (ha : SqL X.K H a xs) (hb : SqL X.K H b ys) (hl : xs.length = ys.length) (he : ∀ j x y, xs[j]? = some x → ys[j]? = some y → EqD X H k x y (e j)) : RcD X H (k + 1) (.ref a) (.ref b) ((List.range xs.length).all e) := fun pins σ s A u v I hu rx ry => by
 cases rx
 cases ry
 obtain ⟨i1, r1, p1, _⟩ := I.list ha
 obtain ⟨i2, r2, p2, _⟩ := I.list hb
 have l1 := r1.length
 have l2 := r2.length
 have q := SeqAt.RcAt.lists (A := A) (e := e) p1.isList p2.isList (by simp; omega) (by omega) fun j h1 h2 => by
  obtain ⟨x, ex, qx⟩ := vals_at r1 (j := j) (by simpa using h1)
  obtain ⟨y, ey, qy⟩ := vals_at r2 (j := j) (by simpa using h2)
  exact he j x y ex ey pins σ s A.in1 _ _ I (by show A.units + 1 + k < cLine; omega) (by simpa using qx) (by simpa using qy)
 rw [List.size_toArray, ← l1] at q
 exact q
theorem rnD_list (e : Nat → Bool) (ha : SqL X.K H a xs) (hb : SqL X.K H b ys) (hl : xs.length = ys.length) (he : ∀ j x y, xs[j]? = some x → ys[j]? = some y → EqD X H k x y (e j)) : RnD X H (k + 1) (.ref a) (.ref b) ((List.range xs.length).all e) := fun pins σ s A u v I hu rx ry => by
 cases rx
 cases ry
 obtain ⟨i1, r1, p1, _⟩ := I.list ha
 obtain ⟨i2, r2, p2, _⟩ := I.list hb
 have l1 := r1.length
 have l2 := r2.length
 have q := SeqAt.RcNeAt.lists (A := A) (e := e) p1.isList p2.isList (by simp; omega) (by omega) fun j h1 h2 => by
  obtain ⟨x, ex, qx⟩ := vals_at r1 (j := j) (by simpa using h1)
  obtain ⟨y, ey, qy⟩ := vals_at r2 (j := j) (by simpa using h2)
  exact he j x y ex ey pins σ s A.in1 _ _ I (by show A.units + 1 + k < cLine; omega) (by simpa using qx) (by simpa using qy)
 rw [List.size_toArray, ← l1] at q
 exact q
theorem rcD_lens (ha : SqL X.K H a xs) (hb : SqL X.K H b ys) (hl : xs.length ≠ ys.length) : RcD X H k (.ref a) (.ref b) false := fun pins σ s A u v I hu rx ry => by
 cases rx
 cases ry
 obtain ⟨i1, r1, p1, _⟩ := I.list ha
 obtain ⟨i2, r2, p2, _⟩ := I.list hb
 have l1 := r1.length
 have l2 := r2.length
 exact SeqAt.RcAt.lists_lengths p1.isList p2.isList (by simp; omega) (by omega)
theorem rnD_lens (ha : SqL X.K H a xs) (hb : SqL X.K H b ys) (hl : xs.length ≠ ys.length) : RnD X H k (.ref a) (.ref b) false := fun pins σ s A u v I hu rx ry => by
 cases rx
 cases ry
 obtain ⟨i1, r1, p1, _⟩ := I.list ha
 obtain ⟨i2, r2, p2, _⟩ := I.list hb
 have l1 := r1.length
 have l2 := r2.length
 exact SeqAt.RcNeAt.lists_lengths p1.isList p2.isList (by simp; omega) (by omega)
theorem rcD_tup (e : Nat → Bool) (ha : SqT X.K H a xs) (hb : SqT X.K H b ys) (hl : xs.length = ys.length) (he : ∀ j x y, xs[j]? = some x → ys[j]? = some y → EqD X H k x y (e j)) : RcD X H (k + 1) (.ref a) (.ref b) ((List.range xs.length).all e) := fun pins σ s A u v I hu rx ry => by
 cases rx
 cases ry
 obtain ⟨i1, r1, p1, _⟩ := I.tuple ha
 obtain ⟨i2, r2, p2, _⟩ := I.tuple hb
 have l1 := r1.length
 have l2 := r2.length
 have q := SeqAt.RcAt.tuples (A := A) (e := e) p1 p2 (by omega) fun j h1 h2 => by
  obtain ⟨x, ex, qx⟩ := vals_at r1 (j := j) (by simpa using h1)
  obtain ⟨y, ey, qy⟩ := vals_at r2 (j := j) (by simpa using h2)
  exact he j x y ex ey pins σ s A.in1 _ _ I (by show A.units + 1 + k < cLine; omega) (by simpa using qx) (by simpa using qy)
 rw [List.size_toArray, List.size_toArray, ← l1, ← l2, hl, Nat.min_self, ← hl] at q
 simpa using q
theorem all_true (n : Nat) : (List.range n).all (fun _ => true) = true := by simp
theorem op_eqD (hu : X.A.units + 100 < cLine) : OpR X (compareOp .Eq) (fun x y H Q => ∃ k c, k ≤ 100 ∧ RcD X H k x y c ∧ Q (.bl c) H) := by
 intro pins s σ H x y v u Q I rx ry h
 obtain ⟨k, c, hk, hc, q⟩ := h
 exact hc pins σ s X.A v u I (by omega) rx ry X.prog X.w X.xe _ ⟨.bl c, H, I, rfl, q⟩
theorem op_neD (hu : X.A.units + 100 < cLine) : OpR X (compareOp .NotEq) (fun x y H Q => ∃ k c, k ≤ 100 ∧ RnD X H k x y c ∧ Q (.bl (!c)) H) := by
 intro pins s σ H x y v u Q I rx ry h
 obtain ⟨k, c, hk, hc, q⟩ := h
 exact hc pins σ s X.A v u I (by omega) rx ry X.prog X.w X.xe _ ⟨.bl (!c), H, I, rfl, q⟩
end
end L2
namespace L2
open PySem PySem.Spec PyProof.Rows
section
variable {X : Cx} {H : Hp} {k : Nat} {a b : Addr} {xs ys : List V}
theorem rnD_tup (e : Nat → Bool) (ha : SqT X.K H a xs) (hb : SqT X.K H b ys) (hl : xs.length = ys.length) (he : ∀ j x y, xs[j]? = some x → ys[j]? = some y → EqD X H k x y (e j)) : RnD X H (k + 1) (.ref a) (.ref b) ((List.range xs.length).all e) := fun pins σ s A u v I hu rx ry => by
 cases rx
 cases ry
 obtain ⟨i1, r1, p1, _⟩ := I.tuple ha
 obtain ⟨i2, r2, p2, _⟩ := I.tuple hb
 have l1 := r1.length
 have l2 := r2.length
 have q := SeqAt.RcNeAt.tuples (A := A) (e := e) p1 p2 (by omega) fun j h1 h2 => by
  obtain ⟨x, ex, qx⟩ := vals_at r1 (j := j) (by simpa using h1)
  obtain ⟨y, ey, qy⟩ := vals_at r2 (j := j) (by simpa using h2)
  exact he j x y ex ey pins σ s A.in1 _ _ I (by show A.units + 1 + k < cLine; omega) (by simpa using qx) (by simpa using qy)
 rw [List.size_toArray, List.size_toArray, ← l1, ← l2, hl, Nat.min_self, ← hl] at q
 simpa using q
end
section
variable {X : Cx} {o e f c : Expr} {σ : St} {H : Hp} {Q : VK} {T : Bool → Hp → Prop} {ap cp pos : Pos} {body rest : List Stmt} {D : Ends}
theorem ev_m1 {name : Str} {Ty id : String} {r : V → List V → Hp → VK → Prop} (pa : PlainAttrs Ty) (slot : Slot Ty name id) (hty : typeOf (.builtin id) = pure (.type "method_descriptor")) (hm : MtR X id r)
  (h : Ev X o σ H fun x H1 => tyV X.K Ty x H1 ∧ Ev X e σ H1 fun y H2 => r x [y] H2 Q) (hbase : attributeBase o name X.env (eval o X.env) = eval o X.env := by rfl)
  (hfew : ((backTo cp (starEach [e] X.env)).all (fun x => !x.1) && (backToKw cp (keywordEach [] X.env)).all (fun x => x.1.isSome) && decide ([e].length + ([] : List Keyword).length + (if ([] : List Keyword).isEmpty then 0 else 1) < 30)) = true := by rfl)
  (hline : (ap.endLine == cp.line) = true := by rfl) (hs : starEach [e] X.env = (false, eval e X.env) :: starEach [] X.env := by rfl) (hplain : (backTo cp (starEach [] X.env)).any (·.1) = false := by rfl) (hst : isStar e = false := by rfl) : Ev X (.Call (.Attribute o name ap) [e] [] cp) σ H Q :=
 ev_of (pe_bm pa slot hty hm pe_ev (pa_ea (es := [e])) hbase hfew hline hs hplain) (h.mono fun x H1 ⟨t, h2⟩ => ⟨t, ea_cons (h2.mono fun y H2 q => ea_nil q) hst⟩)
theorem ev_m2 {name : Str} {Ty id : String} {r : V → List V → Hp → VK → Prop} (pa : PlainAttrs Ty) (slot : Slot Ty name id) (hty : typeOf (.builtin id) = pure (.type "method_descriptor")) (hm : MtR X id r)
  (h : Ev X o σ H fun x H1 => tyV X.K Ty x H1 ∧ Ev X e σ H1 fun y H2 => Ev X f σ H2 fun z H3 => r x [y, z] H3 Q) (hbase : attributeBase o name X.env (eval o X.env) = eval o X.env := by rfl)
  (hfew : ((backTo cp (starEach [e, f] X.env)).all (fun x => !x.1) && (backToKw cp (keywordEach [] X.env)).all (fun x => x.1.isSome) && decide ([e, f].length + ([] : List Keyword).length + (if ([] : List Keyword).isEmpty then 0 else 1) < 30)) = true := by rfl)
  (hline : (ap.endLine == cp.line) = true := by rfl) (hs : starEach [e, f] X.env = (false, eval e X.env) :: starEach [f] X.env := by rfl) (hplain : (backTo cp (starEach [f] X.env)).any (·.1) = false := by rfl) (hst : isStar e = false := by rfl) (hsf : isStar f = false := by rfl) : Ev X (.Call (.Attribute o name ap) [e, f] [] cp) σ H Q :=
 ev_of (pe_bm pa slot hty hm pe_ev (pa_ea (es := [e, f])) hbase hfew hline hs hplain) (h.mono fun x H1 ⟨t, h2⟩ => ⟨t, ea_cons (h2.mono fun y H2 h3 => ea_cons (h3.mono fun z H3 q => ea_nil q) hsf) hst⟩)
noncomputable def insertAt (xs : List V) (i : Nat) (y : V) : List V := xs.take i ++ y :: xs.drop i
noncomputable def rInsert : V → List V → Hp → VK → Prop := fun x vs H Q => ∃ l xs i y, x = .ref l ∧ vs = [.int i, y] ∧ H l = some (.lst xs) ∧ 0 ≤ i ∧ i.toNat ≤ xs.length ∧ xs.length < sizeLine ∧ Q .non (upd H l (.lst (insertAt xs i.toNat y)))
theorem fits_ix {i : Int} (h0 : 0 ≤ i) (h : i ≤ 16777216) : ¬ (!Builtin.List.listFitsIndex i) = true := by
 have e : Builtin.List.listFitsIndex i = true := by
  unfold Builtin.List.listFitsIndex
  rw [Bool.and_eq_true, decide_eq_true_eq, decide_eq_true_eq]
  omega
 rw [e]
 exact Bool.false_ne_true
theorem mt_insert : MtM X "list.insert" rInsert := by
 intro pins s σ H x vs v us Q I rx rv h
 obtain ⟨l, xs, i, y, rfl, rfl, hH, h0, hi, hz, q⟩ := h
 cases rx
 obtain ⟨u, w', rfl, ru, rw'⟩ := rv.two
 obtain ⟨tk, rfl⟩ := ru
 obtain ⟨z, its, n, r, hl, e⟩ := I.lstM hH
 have hs : sizeLine = 16777216 := sizeLine_eq
 have z2 : its.toArray.size ≤ sizeLine := by rw [List.size_toArray, ← hl]; exact z
 have mm := AutoSeq1.list_insert_list_int_val_1 l its.toArray n i tk w' (fits_ix h0 (by omega)) z2
 refine call_meets F.slot_list_insert ⟨_, e, rfl⟩ F.entry_list_insert (F.args_list_insert_3 _ _ _) mm ⟨e, ?_⟩
 have ef : (fun xs : Array Value => have k := if i < 0 then (i + (xs.size : Int)).toNat else min i.toNat xs.size; (xs.extract 0 k).push w' ++ xs.extract k) its.toArray = (its.take i.toNat ++ w' :: its.drop i.toNat).toArray := by
  have hn : ¬ i < 0 := by omega
  have hm : min i.toNat its.length = i.toNat := by omega
  simp only [hn, if_false, List.size_toArray, hm]
  apply Array.ext'
  simp
  exact List.take_of_length_le (by simp)
 refine ⟨.non, _, I.lset (its' := its.take i.toNat ++ w' :: its.drop i.toNat) hH e ef ((r.take i.toNat).append (.cons rw' (r.drop i.toNat))) ?_, rfl, q⟩
 rw [List.length_append, List.length_cons, List.length_take, List.length_drop]
 omega
noncomputable def rSetDef : V → List V → Hp → VK → Prop := fun x vs H Q => ∃ a kvs k y, x = .ref a ∧ vs = [kV k, y] ∧ H a = some (.dK kvs) ∧ kvs.length < sizeLine ∧
 ((∃ v, valV kvs k = some v ∧ Q v H) ∨ (valV kvs k = none ∧ Q y (upd H a (.dK (putK kvs k y)))))
theorem mt_setdef : MtM X "dict.setdefault" rSetDef := by
 intro pins s σ H x vs v us Q I rx rv h
 obtain ⟨a, kvs, k, y, rfl, rfl, hH, hz, q⟩ := h
 cases rx
 obtain ⟨u, w', rfl, ru, rw'⟩ := rv.two
 obtain ⟨z, hd, rs, rel, dd⟩ := dk_of I.hok hH
 have hl := rel.length
 refine call_meetsIn F.slot_dict_setdefault dd.typeIs F.entry_dict_setdefault (F.args_dict_setdefault_3 _ _ _) (kt_meets_setdefault (mixKind X.prog X.w) a (kV_is ru) hd w') ⟨rs, dd, by omega, fun v hv => ?_, fun hn h' dd' hs => ?_⟩
 ·have rv2 := rel.val k
  rw [hv] at rv2
  rcases q with ⟨v', e', q⟩ | ⟨e', _⟩
  ·rw [e'] at rv2
   exact ⟨v', H, I.tok _, rv2, q⟩
  ·rw [e'] at rv2
   exact rv2.elim
 ·have rv2 := rel.val k
  rw [hn] at rv2
  rcases q with ⟨v', e', _⟩ | ⟨e', q⟩
  ·rw [e'] at rv2
   exact rv2.elim
  ·have he : ∃ q, h'.get? a = some q := let ⟨q, _, _, hq, _⟩ := dd'; ⟨q, hq⟩
   have hl2 : (putK kvs k y).length ≤ sizeLine := by have := length_putK kvs k y; omega
   exact ⟨y, _, d_write I (by rw [hH]; exact True.intro) hs he (dk_new hl2 hd (rel.put k rw') dd'), rw', q⟩
theorem call_intB : CallR X (.type "int") (fun xs H Q => ∃ b : Bool, xs = [.bl b] ∧ Q (.int (if b then 1 else 0)) H) := by
 intro pins s σ H xs us Q I r h
 obtain ⟨b, rfl, q⟩ := h
 obtain ⟨u, rfl, ru⟩ := vals1 r
 cases (show u = Value.bool b from ru)
 exact call_int_bool ⟨.int (if b then 1 else 0), H, I.tok _, ⟨_, rfl⟩, q⟩
theorem run_ifH {els : List Stmt} (Φ : Bool → Hp → Prop) (M : St → Hp → Prop) (hc : Et X c σ H Φ) (ht : ∀ H1, Φ true H1 → Run X body { D with nx := M } σ H1) (hu : ∀ H1, Φ false H1 → Run X els { D with nx := M } σ H1)
  (hr : ∀ σ' H', M σ' H' → Run X rest D σ' H') : Run X (.If c body els pos :: rest) D σ H :=
 run_if (hc.mono fun k H1 p => by
  cases k with
  | true => rw [if_pos rfl]; exact (ht H1 p).nx hr
  | false => rw [if_neg Bool.false_ne_true]; exact (hu H1 p).nx hr)
theorem run_while (W : Nat → St → Hp → Prop) {m0 : Nat} (h0 : W m0 σ H)
  (turn : ∀ m σ H, W m σ H → Et X c σ H fun b H1 => if b = true then Run X body { D with nx := fun σ' H' => ∃ m', m' < m ∧ W m' σ' H', ct := fun σ' H' => ∃ m', m' < m ∧ W m' σ' H', bk := fun σ' H' => Run X rest D σ' H' } σ H1 else Run X rest D σ H1)
  (hp : PassesOwn (model X.prog X.w) X.A X.env X.xe := by exact PassesOwn.never) : Run X (.While c body [] pos :: rest) D σ H := by
 refine run_cons (ps_while hp pt_et pss_run) ⟨W, ⟨m0, h0⟩, fun m σ1 H1 w1 => (turn m σ1 H1 w1).mono fun b H2 q => ?_⟩
 cases b with
 | true =>
  rw [if_pos rfl] at q
  exact ⟨fun σ' H' => ∃ m', m' < m ∧ W m' σ' H', fun _ _ h => h, q⟩
 | false =>
  rw [if_neg Bool.false_ne_true] at q
  exact q
theorem ev_dnewK (h : ∀ p, H p = none → Q (.ref p) (upd H p (.dK []))) : Ev X (.Dict [] [] pos) σ H Q := ev_of pe_dnewK h
theorem ev_dnewT (h : ∀ p, H p = none → Q (.ref p) (upd H p (.dT []))) : Ev X (.Dict [] [] pos) σ H Q := ev_of pe_dnewT h
theorem ev_dget (hu : X.A.units + 1 < cLine) (h : Ev X o σ H fun x H1 => Ev X e σ H1 fun y H2 => ∃ a v, x = .ref a ∧ DGet H2 a y (some v) ∧ Q v H2) (hs : NoSl e := by intro _ _; rfl) : Ev X (.Subscript o e pos) σ H Q := ev_of (pe_dget hu pe_ev pe_ev hs) h
theorem et_din (hu : X.A.units + 1 < cLine) (h : Ev X e σ H fun y H1 => Ev X o σ H1 fun x H2 => ∃ a r, x = .ref a ∧ DGet H2 a y r ∧ T r.isSome H2) (hm : behindInMarks .In o = false := by with_unfolding_all rfl) : Et X (.Compare e [.In] [o] pos) σ H T :=
 et_of (pt_cmp (pc_din hu pe_ev pe_ev) hm) (h.mono fun y H1 h2 => h2.mono fun x H2 ⟨a, r, h3, h4, h5⟩ => ⟨a, r, h3, h4, _, rfl, h5⟩)
theorem et_dnotin (hu : X.A.units + 1 < cLine) (h : Ev X e σ H fun y H1 => Ev X o σ H1 fun x H2 => ∃ a r, x = .ref a ∧ DGet H2 a y r ∧ T (!r.isSome) H2) (hm : behindInMarks .NotIn o = false := by with_unfolding_all rfl) : Et X (.Compare e [.NotIn] [o] pos) σ H T :=
 et_of (pt_cmp (pc_dnotin hu pe_ev pe_ev) hm) (h.mono fun y H1 h2 => h2.mono fun x H2 ⟨a, r, h3, h4, h5⟩ => ⟨a, r, h3, h4, _, rfl, h5⟩)
theorem run_dput {p2 : Pos} (hu : X.A.units + 1 < cLine) (h : Ev X f σ H fun v H1 => Ev X o σ H1 fun x H2 => Ev X e σ H2 fun y H3 => ∃ a H4, x = .ref a ∧ DPut H3 a y v H4 ∧ Run X rest D σ H4) (hs : swapsWith f (some (.Subscript o e p2)) pos.line X.env = pure false := by rfl) :
  Run X (.Assign [.Subscript o e p2] f pos :: rest) D σ H := run_cons (ps_dput hu pe_ev pe_ev pe_ev hs) h
end
end L2
namespace Sort2
open PySem PySem.Spec PyProof.Rows
noncomputable def lexLt (a b : Int × Int) : Bool := if a.1 = b.1 then decide (a.2 < b.2) else decide (a.1 < b.1)
theorem keyLt_tuples (b : Bool) (x y : Value) : keyLt' (tuples' b) x y = (do
  let xs ← Builtin.List.listItems x
  let ys ← Builtin.List.listItems y
  for ((p, q), i) in (xs.toList.zip ys.toList).zipIdx do
   if !(← eqBool p q) then return ← oneLt' (b && i == 0) p q
  return xs.size < ys.size) := rfl
section
variable {prog : Program} {w : World} {A : Around} {E : Value → Shared → Prop} {s : Shared}
noncomputable def Pr (h : Heap) (a : Addr) (p : Int × Int) : Prop := ∃ o n t u, h.get? a = some o ∧ o.cls = .type "tuple" ∧ o.data = .seq #[.int p.1 t, .int p.2 u] n
theorem wp_eqInt {a b : Int} {t u : Tok} {Q : Bool → Shared → Prop} (h : Q (decide (a = b)) s) : wpAny (model prog w) A (eqBool (.int a t) (.int b u)) Q E s := by
 refine SeqAt.EqAt.int_int a t b u prog w E Q ?_
 have e : (a == b) = decide (a = b) := rfl
 rw [e]
 exact h
theorem wp_lt0 {a b : Int} {t u : Tok} {Q : Bool → Shared → Prop} (h : Q (decide (a < b)) s) : wpAny (model prog w) A (oneLt' false (.int a t) (.int b u)) Q E s := by
 rw [oneLt'_eq]
 simp only [Bool.false_eq_true, if_false]
 refine wpAny_bind ?_
 show wpAny _ _ (compareOp .Lt (.int a t) (.int b u)) _ _ _
 exact lt_int (wpAny_truthy_bool h)
theorem wp_keyLt {x y : Addr} {p q : Int × Int} {Q : Bool → Shared → Prop} (hx : Pr s.heap x p) (hy : Pr s.heap y q) (h : Q (lexLt p q) s) : wpAny (model prog w) A (keyLt' (tuples' true) (.ref x) (.ref y)) Q E s := by
 obtain ⟨ox, nx, tx, ux, hox, cx, dx⟩ := hx
 obtain ⟨oy, ny, ty, uy, hoy, cy, dy⟩ := hy
 rw [keyLt_tuples]
 refine wpAny_bind (listItems_at hox dx ?_)
 refine wpAny_bind (listItems_at hoy dy ?_)
 show wpAny _ _ (forIn [((Value.int p.1 tx, Value.int q.1 ty), 0), ((Value.int p.2 ux, Value.int q.2 uy), 1)] _ _ >>= _) _ _ _
 rw [List.forIn_cons]
 refine wpAny_bind (wpAny_bind ?_)
 dsimp only
 refine wpAny_bind (wp_eqInt ?_)
 by_cases c : p.1 = q.1
 ·rw [decide_eq_true c]
  simp only [Bool.not_true, Bool.false_eq_true, if_false]
  refine wpAny_pure ?_
  dsimp only
  rw [List.forIn_cons]
  refine wpAny_bind ?_
  dsimp only
  refine wpAny_bind (wp_eqInt ?_)
  by_cases c2 : p.2 = q.2
  ·rw [decide_eq_true c2]
   simp only [Bool.not_true, Bool.false_eq_true, if_false]
   refine wpAny_pure ?_
   dsimp only
   rw [List.forIn_nil]
   refine wpAny_pure (wpAny_pure ?_)
   have e : lexLt p q = false := by unfold lexLt; rw [if_pos c, c2]; simp
   rw [e] at h
   simpa using h
  ·rw [decide_eq_false c2]
   simp only [Bool.not_false, if_true]
   refine wpAny_bind (wp_lt0 (wpAny_pure ?_))
   dsimp only
   refine wpAny_pure (wpAny_pure ?_)
   have e : lexLt p q = decide (p.2 < q.2) := by unfold lexLt; rw [if_pos c]
   rw [e] at h
   exact h
 ·rw [decide_eq_false c]
  simp only [Bool.not_false, if_true]
  refine wpAny_bind (oneLt_int (wpAny_pure ?_))
  dsimp only
  refine wpAny_pure (wpAny_pure ?_)
  have e : lexLt p q = decide (p.1 < q.1) := by unfold lexLt; rw [if_neg c]
  rw [e] at h
  exact h
theorem sz2 {x y : Value} : (#[x, y] : Array Value).size ≤ sizeLine + 1 := by
 rw [sizeLine_eq]
 show 2 ≤ _
 decide
theorem first_eq (v : Value) : firstOfTuple' v = (do
  if (← typeOf v) != .type "tuple" then return none
  return (← Builtin.List.listItems v)[0]?) := rfl
theorem wp_first {x : Addr} {p : Int × Int} {Q : Option Value → Shared → Prop} (hx : Pr s.heap x p) (h : ∀ t, Q (some (.int p.1 t)) s) : wpAny (model prog w) A (firstOfTuple' (.ref x)) Q E s := by
 obtain ⟨ox, nx, tx, ux, hox, cx, dx⟩ := hx
 rw [first_eq]
 refine wpAny_bind (wpAny_typeOf (T := "tuple") ⟨ox, hox, cx⟩ ?_)
 rw [show (Value.type "tuple" != Value.type "tuple") = false by decide]
 simp only [Bool.false_eq_true, if_false]
 refine wpAny_bind (listItems_at hox dx ?_)
 exact wpAny_pure (h tx)
theorem wp_kind {x y : Addr} {p q : Int × Int} {Q : SortKind → Shared → Prop} (hx : Pr s.heap x p) (hy : Pr s.heap y q) (h : Q (tuples' true) s) : wpAny (model prog w) A (keyKind' #[.ref x, .ref y]) Q E s := by
 rw [keyKind'_eq, show (#[.ref x, .ref y] : Array Value) = [.ref x, .ref y].toArray from rfl, List.mapM_toArray]
 refine wpAny_bind (wpAny_map ?_)
 rw [List.mapM_cons]
 refine wpAny_bind (wp_first hx fun t => ?_)
 rw [List.mapM_cons]
 refine wpAny_bind (wpAny_bind (wp_first hy fun u => ?_))
 rw [List.mapM_nil]
 refine wpAny_bind (wpAny_pure (wpAny_pure (wpAny_pure ?_)))
 rw [if_pos (by simp)]
 refine wpAny_bind (wpAny_rule ?_)
 rw [oneTypeOnly'_eq]
 show wpAny _ _ ((Array.mapM typeOf [Value.int p.1 t, Value.int q.1 u].toArray >>= _) >>= _) _ _ _
 rw [List.mapM_toArray]
 have e1 : [Value.int p.1 t, Value.int q.1 u].mapM typeOf = (pure [Value.type "int", Value.type "int"] : Sem _) := rfl
 rw [e1]
 refine wpAny_pure ?_
 have e2 : (if ((#[Value.type "int", Value.type "int"] : Array Value).all fun x => x == (#[Value.type "int", Value.type "int"] : Array Value)[0]) = true then some (#[Value.type "int", Value.type "int"] : Array Value)[0] else none) = some (Value.type "int") := by
  rw [if_pos]
  ·rfl
  ·simp
 show Q (tuples' (Option.any (fun x => x != Value.type "tuple") _)) s
 rw [e2]
 exact h
theorem wp_at {st : SortSt} {x y : Addr} {p q : Int × Int} {i j : Nat} {Q : Option Bool → SortSt → Prop} (hk : kindOf st = tuples' true) (hi : (arrOf st)[i]? = some (.ref x, .ref x)) (hj : (arrOf st)[j]? = some (.ref y, .ref y)) (hx : Pr s.heap x p) (hy : Pr s.heap y q) (h : Q (some (lexLt p q)) st) :
  wpS (model prog w) A E s (ltAt' i j) Q st := by
 rw [ltAt'_eq]
 refine wpS_bind (wpS_get ?_)
 show wpS _ _ _ _ (elem' (arrOf st) i >>= fun a => elem' (arrOf st) j >>= fun b => lt' a b) Q st
 rw [elem'_eq, elem'_eq, hi, hj]
 refine wpS_bind (wpS_pure (wpS_bind (wpS_pure ?_)))
 rw [lt'_eq]
 refine wpS_bind (wpS_get ?_)
 rw [hk]
 refine wpS_bind (wpS_lift (wpAny_attempt (wp_keyLt hx hy ⟨rfl, ?_⟩)))
 exact wpS_pure h
noncomputable def sorted2 (x y : Addr) (p q : Int × Int) : Array Keyed := if lexLt q p then #[(.ref y, .ref y), (.ref x, .ref x)] else #[(.ref x, .ref x), (.ref y, .ref y)]
theorem wp_count {x y : Addr} {p q : Int × Int} {Q : Option Nat → SortSt → Prop} (hx : Pr s.heap x p) (hy : Pr s.heap y q)
  (h : Q (some 2) (SortSt.mk' (tuples' true) (sorted2 x y p q) #[] 7 none)) : wpS (model prog w) A E s (countRun' 0 2) Q (SortSt.mk' (tuples' true) #[(.ref x, .ref x), (.ref y, .ref y)] #[] 7 none) := by
 rw [countRun0_eq]
 refine wpS_bind ?_
 unfold ascLoop
 refine wpS_mono (wpS_forRange (I := fun i c st => st = SortSt.mk' (tuples' true) #[(.ref x, .ref x), (.ref y, .ref y)] #[] 7 none ∧ c = (none, i) ∧ (i = 2 → lexLt q p = false))
  (Q := fun c st => st = SortSt.mk' (tuples' true) #[(.ref x, .ref x), (.ref y, .ref y)] #[] 7 none ∧ ((c = (none, 1) ∧ lexLt q p = true) ∨ (c = (none, 2) ∧ lexLt q p = false))) ?_ ?_ ⟨rfl, rfl, fun h => by cases h⟩) ?_
 ·rintro i c st h1 h2 ⟨rfl, rfl, hI⟩
  have e : i = 1 := by omega
  subst e
  refine wpS_bind (wp_at rfl rfl rfl hy hx ?_)
  dsimp only
  cases hb : lexLt q p with
  | true =>
   rw [if_pos rfl]
   exact wpS_pure ⟨rfl, .inl ⟨rfl, rfl⟩⟩
  | false =>
   rw [if_neg Bool.false_ne_true]
   exact wpS_pure ⟨rfl, rfl, fun _ => rfl⟩
 ·rintro c st ⟨rfl, rfl, hI⟩
  exact ⟨rfl, .inr ⟨rfl, hI rfl⟩⟩
 ·rintro c st ⟨rfl, ⟨rfl, hb⟩ | ⟨rfl, hb⟩⟩
  ·dsimp only
   rw [if_neg (by decide), if_neg (by decide)]
   unfold descPart
   refine wpS_bind (wpS_lift (wpAny_rule ⟨rfl, ?_⟩))
   unfold descLoop
   refine wpS_bind (wpS_mono (wpS_forRange (I := fun i c st => c = (none, 2, 0) ∧ st = SortSt.mk' (tuples' true) #[(.ref x, .ref x), (.ref y, .ref y)] #[] 7 none) (Q := fun c st => c = (none, 2, 0) ∧ st = SortSt.mk' (tuples' true) #[(.ref x, .ref x), (.ref y, .ref y)] #[] 7 none) (fun i c st h1 h2 _ => by omega) (fun c st h => h) ⟨rfl, rfl⟩) ?_)
   rintro c st ⟨rfl, rfl⟩
   dsimp only
   rw [if_neg (by decide)]
   unfold tail3
   refine wpS_bind (wpS_reverse ?_)
   unfold ascLoop
   refine wpS_bind (wpS_mono (wpS_forRange (I := fun i c st => c = (none, 2) ∧ st = SortSt.mk' (tuples' true) #[(.ref y, .ref y), (.ref x, .ref x)] #[] 7 none) (Q := fun c st => c = (none, 2) ∧ st = SortSt.mk' (tuples' true) #[(.ref y, .ref y), (.ref x, .ref x)] #[] 7 none) (fun i c st h1 h2 _ => by omega) (fun c st h => h) ⟨rfl, rfl⟩) ?_)
   rintro c st ⟨rfl, rfl⟩
   dsimp only
   refine wpS_pure ?_
   unfold sorted2 at h
   rw [if_pos hb] at h
   exact h
  ·dsimp only
   rw [if_pos (by decide)]
   refine wpS_pure ?_
   unfold sorted2 at h
   rw [if_neg (by rw [hb]; exact Bool.false_ne_true)] at h
   exact h
theorem wp_runs {x y : Addr} {p q : Int × Int} {Q : Unit → SortSt → Prop} (hx : Pr s.heap x p) (hy : Pr s.heap y q) (h : ∀ st, arrOf st = sorted2 x y p q → failedOf st = none → Q () st) :
  wpS (model prog w) A E s sortRuns' Q (SortSt.mk' (tuples' true) #[(.ref x, .ref x), (.ref y, .ref y)] #[] 7 none) := by
 rw [sortRuns'_eq]
 refine wpS_bind (wpS_get ?_)
 dsimp only
 have hmr : minRun' 2 2 0 = 2 := by rw [minRun'_succ, if_pos (by decide)]
 show wpS _ _ _ _ ((forIn [0:2] _ _) >>= _) _ _
 have sz : (#[(Value.ref x, Value.ref x), (Value.ref y, Value.ref y)] : Array Keyed).size = 2 := rfl
 refine wpS_bind (wpS_mono (wpS_forRange (I := fun i c st => (i = 0 ∧ c = (none, 0) ∧ st = SortSt.mk' (tuples' true) #[(.ref x, .ref x), (.ref y, .ref y)] #[] 7 none) ∨ (1 ≤ i ∧ c = (none, 2) ∧ st = SortSt.mk' (tuples' true) (sorted2 x y p q) #[(0, 2, 0)] 7 none))
  (Q := fun c st => c = (none, 2) ∧ st = SortSt.mk' (tuples' true) (sorted2 x y p q) #[(0, 2, 0)] 7 none) ?_ ?_ (.inl ⟨rfl, rfl, rfl⟩)) ?_)
 ·rintro i c st h1 h2 (⟨rfl, rfl, rfl⟩ | ⟨hi, rfl, rfl⟩)
  ·dsimp only
   rw [if_neg (by show ¬ (0 ≥ 2); decide)]
   refine wpS_bind ?_
   show wpS _ _ _ _ (countRun' 0 2) _ _
   refine wp_count hx hy ?_
   dsimp only
   rw [if_neg (by show ¬ (2 < minRun' 2 2 0); rw [hmr]; decide)]
   refine wpS_bind (wpS_get ?_)
   show wpS _ _ _ _ (modify _ >>= _) _ _
   exact wpS_bind (wpS_modify (wpS_pure (.inr ⟨Nat.le_refl _, rfl, rfl⟩)))
  ·dsimp only
   rw [if_pos (by show 2 ≥ 2; decide)]
   exact wpS_pure ⟨rfl, rfl⟩
 ·rintro c st (⟨h1, _, _⟩ | ⟨_, hc, hs⟩)
  ·exact absurd h1 (by decide)
  ·exact ⟨hc, hs⟩
 ·rintro c st ⟨rfl, rfl⟩
  dsimp only
  refine wpS_bind (wpS_mono (wpS_forRange (I := fun _ c st => st = SortSt.mk' (tuples' true) (sorted2 x y p q) #[(0, 2, 0)] 7 none ∧ c = (none, ())) (Q := fun c st => st = SortSt.mk' (tuples' true) (sorted2 x y p q) #[(0, 2, 0)] 7 none ∧ c = (none, ())) ?_ (fun _ _ hh => hh) ⟨rfl, rfl⟩) ?_)
  ·rintro i c st _ _ ⟨rfl, rfl⟩
   refine wpS_bind (wpS_get ?_)
   rw [if_pos (by show 1 ≤ 1; decide)]
   exact wpS_pure ⟨rfl, rfl⟩
  ·rintro c st ⟨rfl, rfl⟩
   exact wpS_pure (h _ rfl rfl)
theorem wp_sort2 {a x y : Addr} {p q : Int × Int} {n : Nat} {P : Fin → Shared → Prop} (ho : s.heap.get? a = some (seqObj "list" #[.ref x, .ref y] n)) (hax : a ≠ x) (hay : a ≠ y) (hx : Pr s.heap x p) (hy : Pr s.heap y q)
  (h : P (.done (.ret .none)) { s with heap := sortedHeap s.heap a [.ref x, .ref y] (if lexLt p q then #[.ref y, .ref x] else #[.ref x, .ref y]) }) :
  wpAny (model prog w) A (Builtin.«list.sort» ⟨[.ref a], [(Str.ofString "reverse", .bool true)]⟩) P E s := by
 rw [list_sort_rev]
 have ha : a < s.heap.objs.size := Heap.lt_size ho
 refine wpAny_bind (listItems_at ho rfl ?_)
 refine wpAny_bind (listUpdate_at ho rfl ?_)
 obtain ⟨e1, ho1⟩ : ∃ e1, (s.heap.update a (Obj.mapSeq fun _ => #[])).get? a = some (seqObj "list" #[] e1) := ⟨_, get?_update_seq ho (fun _ => #[])⟩
 refine wpAny_bind (seqEpoch_at ho1 rfl ?_)
 refine wpAny_bind (wpAny_newTuple ?_)
 refine wpAny_bind (wpAny_newList ?_)
 refine wpAny_holding ?_
 have ho6 : (((s.heap.update a (Obj.mapSeq fun _ => #[])).push (seqObj "tuple" [Value.ref x, Value.ref y].toArray 0)).push (seqObj "list" #[] 0)).get? a = some (seqObj "list" #[] e1) :=
  Heap.get?_push_of_some _ (Heap.get?_push_of_some _ ho1)
 show wpAny (model prog w) A _ P E { s with heap := ((s.heap.update a (Obj.mapSeq fun _ => #[])).push (seqObj "tuple" [Value.ref x, Value.ref y].toArray 0)).push (seqObj "list" #[] 0) }
 have keep : ∀ z r, a ≠ z → Pr s.heap z r → Pr (((s.heap.update a (Obj.mapSeq fun _ => #[])).push (seqObj "tuple" [Value.ref x, Value.ref y].toArray 0)).push (seqObj "list" #[] 0)) z r := by
  rintro z r hz ⟨o, m, t, u, q1, q2⟩
  exact ⟨o, m, t, u, Heap.get?_push_of_some _ (Heap.get?_push_of_some _ ((Heap.get?_update_other _ _ hz).trans q1)), q2⟩
 have kx := keep x p hax hx
 have ky := keep y q hay hy
 dsimp only
 rw [if_pos rfl]
 refine wpAny_bind (wpAny_rule ?_)
 rw [if_neg (by show ¬ (2 < 2); decide)]
 refine wpAny_bind (wp_kind kx ky ?_)
 rw [if_neg (by show ¬ (2 < 2); decide)]
 have e2 : (if true = true then ((#[Value.ref x, Value.ref y] : Array Value).zip #[Value.ref x, Value.ref y]).reverse else (#[Value.ref x, Value.ref y] : Array Value).zip #[Value.ref x, Value.ref y]) = #[(Value.ref y, Value.ref y), (Value.ref x, Value.ref x)] := by
  rw [if_pos rfl]
  simp
 rw [e2]
 refine wpAny_bind (wpAny_mono (wp_runs (Q := fun _ st => arrOf st = sorted2 y x q p ∧ failedOf st = none) ky kx fun st h1 h2 => ⟨h1, h2⟩) ?_ fun _ _ e => e)
 rintro ⟨⟨⟩, st'⟩ s' ⟨rfl, hs, hf⟩
 dsimp only
 have e3 : (if true = true then ((arrOf st').map (·.2)).reverse else (arrOf st').map (·.2)) = (if lexLt p q then #[.ref y, .ref x] else #[.ref x, .ref y]) := by
  rw [if_pos rfl, hs]
  unfold sorted2
  split <;> simp
 refine wpAny_bind (seqEpoch_at ho6 rfl ?_)
 refine wpAny_bind (listUpdate_at ho6 rfl ?_ (hsz2 := by rw [e3]; split <;> exact sz2))
 rw [hf]
 simp only [bne_self_eq_false, Bool.false_eq_true, if_false]
 refine wpAny_pure ?_
 have e4 : (fun _ : Array Value => if True then ((arrOf st').map (·.2)).reverse else (arrOf st').map (·.2)) = fun _ => (if lexLt p q then #[.ref y, .ref x] else #[.ref x, .ref y]) := by
  funext _
  rw [if_pos trivial]
  rw [if_pos rfl] at e3
  exact e3
 rw [e4]
 exact h
theorem sorted2_rev {l x y : Addr} {p q : Int × Int} {Q : Value → Shared → Prop} (hl : s.heap.IsList l #[.ref x, .ref y]) (hx : Pr s.heap x p) (hy : Pr s.heap y q)
  (h : ∀ (h' : Heap) (e : Nat), (∀ b u, s.heap.get? b = some u → h'.get? b = some u) → h'.get? (s.heap.objs.size + 1) = some (seqObj "list" (if lexLt p q then #[.ref y, .ref x] else #[.ref x, .ref y]) e) → Q (.ref (s.heap.objs.size + 1)) { s with heap := h' }) :
  wpAny (model prog w) A (call (.builtin "sorted") [.ref l] [(Str.ofString "reverse", .bool true)]) Q E s := by
 refine call_function_entry_kw kind_sorted plain_sorted entry_sorted (args_sorted_rev _ _) ?_
 unfold Builtin.«sorted»
 refine wpAny_bind (m := checkCount "sorted" 1 1 _) (wpAny_pure ?_)
 refine wpAny_bind (collect_list (vs := [.ref x, .ref y]) hl ?_)
 refine wpAny_bind (wpAny_newList ?_)
 have hsz : ((s.heap.push (seqObj "list" #[] 0)).update s.heap.objs.size (Obj.mapSeq (· ++ [Value.ref x, Value.ref y].toArray))).objs.size = s.heap.objs.size + 1 := by
  rw [Heap.size_update, size_push']
 have hoL : (((s.heap.push (seqObj "list" #[] 0)).update s.heap.objs.size (Obj.mapSeq (· ++ [Value.ref x, Value.ref y].toArray))).push (seqObj "list" [Value.ref x, Value.ref y].toArray 0)).get? (s.heap.objs.size + 1) = some (seqObj "list" [Value.ref x, Value.ref y].toArray 0) := by
  rw [← hsz]; exact Heap.get?_push_size _ rfl
 have lx : x < s.heap.objs.size := let ⟨_, _, _, _, e, _⟩ := hx; Heap.lt_size e
 have ly : y < s.heap.objs.size := let ⟨_, _, _, _, e, _⟩ := hy; Heap.lt_size e
 have keep : ∀ z r, Pr s.heap z r → Pr (((s.heap.push (seqObj "list" #[] 0)).update s.heap.objs.size (Obj.mapSeq (· ++ [Value.ref x, Value.ref y].toArray))).push (seqObj "list" [Value.ref x, Value.ref y].toArray 0)) z r := by
  rintro z r ⟨o, m, t, u, q1, q2⟩
  have hz := Heap.lt_size q1
  exact ⟨o, m, t, u, Heap.get?_push_of_some _ ((Heap.get?_update_other _ _ (Nat.ne_of_gt hz)).trans (Heap.get?_push_of_some _ q1)), q2⟩
 show wpAny _ _ _ _ _ { s with heap := ((s.heap.push (seqObj "list" #[] 0)).update s.heap.objs.size (Obj.mapSeq (· ++ [Value.ref x, Value.ref y].toArray))).push (seqObj "list" [Value.ref x, Value.ref y].toArray 0) }
 rw [hsz]
 refine wpAny_bind (wpAny_holding (wpAny_call_entry_kw slot_list_sort ⟨_, hoL, rfl⟩ entry_list_sort (wp_sort2 hoL (Nat.ne_of_gt (Nat.lt_succ_of_lt lx)) (Nat.ne_of_gt (Nat.lt_succ_of_lt ly)) (keep x p hx) (keep y q hy) ⟨_, rfl, ?_⟩) (args_list_sort_rev _ _)))
 obtain ⟨e, he⟩ := sortedAll_at s.heap [Value.ref x, Value.ref y] (if lexLt p q then #[.ref y, .ref x] else #[.ref x, .ref y])
 exact wpAny_pure ⟨_, rfl, h _ e (fun b u hb => sortedAll_old hb) he⟩
end
end Sort2
namespace L2
open PySem PySem.Spec PyProof.Rows Sort2
section
variable {X : Cx} {e : Expr} {σ : St} {H : Hp} {Q : VK} {pos p kp cp : Pos} {j : Nat}
theorem pr_of {pins : List (Addr × Obj)} {s : Shared} {a : Addr} {i j : Int} (I : Inv X pins σ H s) (h : H a = some (.tup [.int i, .int j])) : Pr s.heap a (i, j) := by
 obtain ⟨its, r, pl, _⟩ := I.tuple (SqT.of h)
 obtain ⟨u, v, rfl, ⟨t, rfl⟩, ⟨t', rfl⟩⟩ := vals2 r
 obtain ⟨o, ho, hc, n, hd⟩ := pl
 exact ⟨o, n, t, t', ho, hc, hd⟩
theorem ev_sorted2 (hm : X.mg "sorted" = none) (h : Ev X e σ H fun v H1 => ∃ l x y a b c d, v = .ref l ∧ H1 l = some (.lst [.ref x, .ref y]) ∧ H1 x = some (.tup [.int a, .int b]) ∧ H1 y = some (.tup [.int c, .int d]) ∧
   ∀ r, H1 r = none → Q (.ref r) (upd H1 r (.lst (if lexLt (a, b) (c, d) then [.ref y, .ref x] else [.ref x, .ref y])))) (hg : Gl X "sorted" := by rfl)
  (he : backTo pos (starEach [e] X.env) = (false, eval e X.env) :: backTo pos (starEach [] X.env) := by rfl) (hplain : (backTo pos (starEach [e] X.env)).any (·.1) = false := by rfl) (hst : isStar e = false := by rfl) :
  Ev X (.Call (.Name "sorted" p) [e] [⟨some "reverse", .Constant (.bool true) j cp, kp⟩] pos) σ H Q := by
 refine ⟨fun pins s I => ?_⟩
 refine wpAny_Call_Name_kw (ld_blt I hg hm PyProof.Rows.boot_sorted ?_)
 have hE : Ea X [e] σ H fun vs H1 => ∃ l x y a b c d, vs = [.ref l] ∧ H1 l = some (.lst [.ref x, .ref y]) ∧ H1 x = some (.tup [.int a, .int b]) ∧ H1 y = some (.tup [.int c, .int d]) ∧
   ∀ r, H1 r = none → Q (.ref r) (upd H1 r (.lst (if lexLt (a, b) (c, d) then [.ref y, .ref x] else [.ref x, .ref y]))) :=
  ea_cons (h.mono fun v H1 ⟨l, x, y, a, b, c, d, e1, r1⟩ => ea_nil ⟨l, x, y, a, b, c, d, by rw [e1], r1⟩) hst
 refine callWith_kw (thn (hE.run pos pins s I) fun us s1 ⟨vs, H1, I1, r1, l, x, y, a, b, c, d, ev, hl, hx, hy, q⟩ => ?_) he hplain
 subst ev
 obtain ⟨u, rfl, ru⟩ := vals1 r1
 cases (show u = Value.ref l from ru)
 refine kws_cons (wpAny_pure (kws_nil ?_))
 obtain ⟨its, r2, pl, _⟩ := I1.list (SqL.of hl)
 obtain ⟨u, v, rfl, ru, rv⟩ := vals2 r2
 cases (show u = Value.ref x from ru)
 cases (show v = Value.ref y from rv)
 refine sorted2_rev pl.isList (pr_of I1 hx) (pr_of I1 hy) fun h' e kp he => ?_
 refine ⟨.ref _, _, I1.laid' (s' := { s1 with heap := h' }) kp rfl rfl (Nat.le_succ _) (show ObjOk X.prog X.w _ h' _ (.lst (if lexLt (a, b) (c, d) then [.ref y, .ref x] else [.ref x, .ref y])) from ?_), rfl, q _ (I1.hok.fresh (Nat.le_succ _))⟩
 split at he
 ·rename_i hb
  rw [if_pos hb]
  exact ⟨by show 2 ≤ sizeLine; rw [sizeLine_eq]; decide, [.ref y, .ref x], e, .cons rfl (.cons rfl .nil), he⟩
 ·rename_i hb
  rw [if_neg hb]
  exact ⟨by show 2 ≤ sizeLine; rw [sizeLine_eq]; decide, [.ref x, .ref y], e, .cons rfl (.cons rfl .nil), he⟩
end
end L2
namespace Nt
open PySem
noncomputable abbrev Net := List (Str × List Str)
noncomputable abbrev End := Nat × Nat
noncomputable def row (n : Net) (r : Nat) : List Str := ((n[r]?).map (·.2)).getD []
noncomputable def tieAt (n : Net) (e : End) : Option Str := (row n e.1)[e.2]?
noncomputable def rowSeats (r : Nat) (ts : List Str) (p : Nat) : List (Str × End) := (ts.zipIdx p).map fun x => (x.1, (r, x.2))
noncomputable def seatsFrom (r : Nat) : Net → List (Str × End)
 | [] => []
 | a :: n => rowSeats r a.2 0 ++ seatsFrom (r + 1) n
noncomputable def seats (n : Net) : List (Str × End) := seatsFrom 0 n
noncomputable def ends (n : Net) : List End := (seats n).map (·.2)
noncomputable def ties (n : Net) : List Str := n.flatMap (·.2)
noncomputable def pos (n : Net) (z : Str) : List End := ((seats n).filter fun x => decide (x.1 = z)).map (·.2)
theorem mem_rowSeats {r : Nat} {ts : List Str} {p : Nat} {z : Str} {e : End} : (z, e) ∈ rowSeats r ts p ↔ e.1 = r ∧ p ≤ e.2 ∧ ts[e.2 - p]? = some z := by
 unfold rowSeats
 rw [List.mem_map]
 constructor
 ·rintro ⟨⟨y, k⟩, hm, he⟩
  cases he
  have := List.mem_zipIdx_iff_le_and_getElem?_sub.mp hm
  exact ⟨rfl, this.1, this.2⟩
 ·rintro ⟨h1, h2, h3⟩
  refine ⟨(z, e.2), List.mem_zipIdx_iff_le_and_getElem?_sub.mpr ⟨h2, h3⟩, ?_⟩
  rw [← h1]
theorem mem_seatsFrom : ∀ {n : Net} {k : Nat} {z : Str} {e : End}, (z, e) ∈ seatsFrom k n ↔ k ≤ e.1 ∧ (row n (e.1 - k))[e.2]? = some z
 | [], k, z, e => by
  constructor
  ·intro h; cases h
  ·rintro ⟨_, h⟩
   simp [row] at h
 | a :: n, k, z, e => by
  unfold seatsFrom
  rw [List.mem_append, mem_rowSeats, mem_seatsFrom]
  constructor
  ·rintro (⟨h1, _, h3⟩ | ⟨h1, h2⟩)
   ·refine ⟨by omega, ?_⟩
    rw [show e.1 - k = 0 by omega]
    simpa [row] using h3
   ·refine ⟨by omega, ?_⟩
    rw [show e.1 - k = (e.1 - (k + 1)) + 1 by omega]
    simpa [row] using h2
  ·rintro ⟨h1, h2⟩
   rcases Nat.lt_or_ge k e.1 with h | h
   ·refine .inr ⟨h, ?_⟩
    rw [show e.1 - k = (e.1 - (k + 1)) + 1 by omega] at h2
    simpa [row] using h2
   ·refine .inl ⟨by omega, Nat.zero_le _, ?_⟩
    rw [show e.1 - k = 0 by omega] at h2
    simpa [row] using h2
theorem mem_seats {n : Net} {z : Str} {e : End} : (z, e) ∈ seats n ↔ tieAt n e = some z := by
 unfold seats tieAt
 rw [mem_seatsFrom]
 simp
theorem mem_ends {n : Net} {e : End} : e ∈ ends n ↔ ∃ z, tieAt n e = some z := by
 unfold ends
 rw [List.mem_map]
 constructor
 ·rintro ⟨⟨z, e'⟩, h, rfl⟩
  exact ⟨z, mem_seats.mp h⟩
 ·rintro ⟨z, h⟩
  exact ⟨(z, e), mem_seats.mpr h, rfl⟩
theorem mem_pos {n : Net} {z : Str} {e : End} : e ∈ pos n z ↔ tieAt n e = some z := by
 unfold pos
 rw [List.mem_map]
 constructor
 ·rintro ⟨⟨y, e'⟩, h, rfl⟩
  rw [List.mem_filter, decide_eq_true_eq] at h
  obtain ⟨h1, h2⟩ := h
  subst h2
  exact mem_seats.mp h1
 ·intro h
  exact ⟨(z, e), List.mem_filter.mpr ⟨mem_seats.mpr h, by simp⟩, rfl⟩
theorem seats_names_row (r : Nat) : ∀ (ts : List Str) (p : Nat), (rowSeats r ts p).map (·.1) = ts := by
 intro ts p
 unfold rowSeats
 rw [List.map_map]
 have : ((fun x : Str × End => x.1) ∘ fun x : Str × Nat => (x.1, (r, x.2))) = Prod.fst := rfl
 rw [this, List.zipIdx_map_fst]
theorem seats_names : ∀ (n : Net) (k : Nat), (seatsFrom k n).map (·.1) = ties n
 | [], _ => rfl
 | a :: n, k => by
  unfold seatsFrom ties
  rw [List.map_append, seats_names_row, seats_names n (k + 1), List.flatMap_cons]
  rfl
theorem rowSeats_nodup (r : Nat) (ts : List Str) (p : Nat) : ((rowSeats r ts p).map (·.2)).Nodup := by
 unfold rowSeats
 rw [List.map_map]
 have e : ((fun x : Str × End => x.2) ∘ fun x : Str × Nat => (x.1, (r, x.2))) = (fun k : Nat => (r, k)) ∘ Prod.snd := rfl
 rw [e, ← List.map_map, List.zipIdx_map_snd]
 refine List.Pairwise.map _ (R := (· ≠ ·)) ?_ List.nodup_range'
 intro a b h hab
 exact h (Prod.mk.inj hab).2
theorem ends_nodup_from : ∀ (n : Net) (k : Nat), ((seatsFrom k n).map (·.2)).Nodup
 | [], _ => List.nodup_nil
 | a :: n, k => by
  unfold seatsFrom
  rw [List.map_append, List.nodup_append]
  refine ⟨rowSeats_nodup _ _ _, ends_nodup_from n (k + 1), ?_⟩
  intro x hx y hy e
  subst e
  obtain ⟨⟨z, e1⟩, h1, rfl⟩ := List.mem_map.mp hx
  obtain ⟨⟨z2, e2⟩, h2, he⟩ := List.mem_map.mp hy
  simp only at he
  subst he
  have q1 := (mem_rowSeats.mp h1).1
  have q2 := (mem_seatsFrom.mp h2).1
  omega
theorem ends_nodup (n : Net) : (ends n).Nodup := ends_nodup_from n 0
theorem pos_nodup (n : Net) (z : Str) : (pos n z).Nodup := by
 unfold pos
 exact (ends_nodup n).sublist (List.Sublist.map _ (List.filter_sublist))
theorem pos_len (n : Net) (z : Str) : (pos n z).length = (ties n).count z := by
 unfold pos
 rw [List.length_map, ← seats_names n 0, ← List.countP_eq_length_filter, List.count, List.countP_map]
 rfl
noncomputable def Twice (n : Net) : Prop := ∀ z ∈ ties n, (ties n).count z = 2
theorem tie_mem {n : Net} {e : End} {z : Str} (h : tieAt n e = some z) : z ∈ ties n := by
 have := mem_seats.mpr h
 rw [← seats_names n 0]
 exact List.mem_map.mpr ⟨_, this, rfl⟩
noncomputable def other (n : Net) (e : End) : End := match tieAt n e with
 | some z => (match pos n z with
  | [a, b] => if a = e then b else a
  | _ => e)
 | none => e
theorem pos_two {n : Net} (T : Twice n) {e : End} {z : Str} (h : tieAt n e = some z) : ∃ a b, pos n z = [a, b] ∧ a ≠ b ∧ (e = a ∨ e = b) := by
 have hl := pos_len n z
 rw [T z (tie_mem h)] at hl
 have hn := pos_nodup n z
 have hm := mem_pos.mpr h
 match hp : pos n z, hl with
 | [a, b], _ =>
  rw [hp] at hn hm
  refine ⟨a, b, rfl, ?_, ?_⟩
  ·intro e
   subst e
   simp at hn
  ·simpa using hm
theorem other_spec {n : Net} (T : Twice n) {e : End} {z : Str} (h : tieAt n e = some z) : tieAt n (other n e) = some z ∧ other n (other n e) = e ∧ other n e ≠ e := by
 obtain ⟨a, b, hp, hab, he⟩ := pos_two T h
 have ha : tieAt n a = some z := mem_pos.mp (by rw [hp]; simp)
 have hb : tieAt n b = some z := mem_pos.mp (by rw [hp]; simp)
 rcases he with rfl | rfl
 ·have e1 : other n e = b := by unfold other; simp only [h, hp]; simp
  have e2 : other n b = e := by unfold other; simp only [hb, hp]; simp [hab]
  rw [e1]
  exact ⟨hb, e2, hab.symm⟩
 ·have e1 : other n e = a := by unfold other; simp only [h, hp]; simp [hab]
  have e2 : other n a = e := by unfold other; simp only [ha, hp]; simp
  rw [e1]
  exact ⟨ha, e2, hab⟩
noncomputable def left (n : Net) (e : End) : End := (e.1, (e.2 + 1) % (row n e.1).length)
noncomputable def step (n : Net) (e : End) : End := left n (other n e)
theorem end_lt {n : Net} {e : End} {z : Str} (h : tieAt n e = some z) : e.2 < (row n e.1).length := (List.getElem?_eq_some_iff.mp h).1
theorem row_lt {n : Net} {e : End} {z : Str} (h : tieAt n e = some z) : e.1 < n.length := by
 rcases Nat.lt_or_ge e.1 n.length with c | c
 ·exact c
 ·have := end_lt h
  unfold row at this
  rw [List.getElem?_eq_none c] at this
  simp at this
theorem end_of {n : Net} {e : End} (h : e.2 < (row n e.1).length) : ∃ z, tieAt n e = some z := ⟨_, List.getElem?_eq_getElem h⟩
theorem left_end {n : Net} {e : End} (h : e ∈ ends n) : left n e ∈ ends n := by
 obtain ⟨z, h⟩ := mem_ends.mp h
 have := end_lt h
 exact mem_ends.mpr (end_of (show (e.2 + 1) % (row n e.1).length < (row n e.1).length from Nat.mod_lt _ (by omega)))
theorem other_end {n : Net} (T : Twice n) {e : End} (h : e ∈ ends n) : other n e ∈ ends n := by
 obtain ⟨z, h⟩ := mem_ends.mp h
 exact mem_ends.mpr ⟨z, (other_spec T h).1⟩
theorem step_end {n : Net} (T : Twice n) {e : End} (h : e ∈ ends n) : step n e ∈ ends n := left_end (other_end T h)
theorem left_inj {n : Net} {a b : End} (ha : a ∈ ends n) (hb : b ∈ ends n) (h : left n a = left n b) : a = b := by
 obtain ⟨z, ha⟩ := mem_ends.mp ha
 obtain ⟨y, hb⟩ := mem_ends.mp hb
 have la := end_lt ha
 have lb := end_lt hb
 unfold left at h
 obtain ⟨h1, h2⟩ := Prod.mk.inj h
 rw [h1] at la h2
 have : a.2 = b.2 := by
  rcases Nat.lt_or_ge (a.2 + 1) (row n b.1).length with c | c <;> rcases Nat.lt_or_ge (b.2 + 1) (row n b.1).length with d | d
  ·rw [Nat.mod_eq_of_lt c, Nat.mod_eq_of_lt d] at h2; omega
  ·have e : b.2 + 1 = (row n b.1).length := by omega
   rw [Nat.mod_eq_of_lt c, e, Nat.mod_self] at h2; omega
  ·have e : a.2 + 1 = (row n b.1).length := by omega
   rw [Nat.mod_eq_of_lt d, e, Nat.mod_self] at h2; omega
  ·omega
 exact Prod.ext h1 this
theorem other_inj {n : Net} (T : Twice n) {a b : End} (ha : a ∈ ends n) (hb : b ∈ ends n) (h : other n a = other n b) : a = b := by
 obtain ⟨z, ha⟩ := mem_ends.mp ha
 obtain ⟨y, hb⟩ := mem_ends.mp hb
 rw [← (other_spec T ha).2.1, h, (other_spec T hb).2.1]
theorem step_inj {n : Net} (T : Twice n) {a b : End} (ha : a ∈ ends n) (hb : b ∈ ends n) (h : step n a = step n b) : a = b :=
 other_inj T ha hb (left_inj (other_end T ha) (other_end T hb) h)
theorem nodup_le {α : Type} [DecidableEq α] : ∀ {a b : List α}, a.Nodup → (∀ z ∈ a, z ∈ b) → a.length ≤ b.length
 | [], b, _, _ => Nat.zero_le _
 | x :: r, b, hn, hs => by
  rw [List.nodup_cons] at hn
  have hx := hs x List.mem_cons_self
  have := nodup_le (a := r) (b := b.erase x) hn.2 fun z hz => by
   have hne : z ≠ x := fun e => hn.1 (e ▸ hz)
   exact (List.mem_erase_of_ne hne).mpr (hs z (List.mem_cons_of_mem _ hz))
  rw [List.length_erase_of_mem hx] at this
  have hp : 0 < b.length := List.length_pos_of_mem hx
  rw [List.length_cons]
  omega
noncomputable def it {α : Type} (f : α → α) : Nat → α → α
 | 0, a => a
 | k + 1, a => f (it f k a)
theorem it_mem {α : Type} {f : α → α} {S : List α} (hf : ∀ a ∈ S, f a ∈ S) {a : α} (h : a ∈ S) : ∀ k, it f k a ∈ S
 | 0 => h
 | k + 1 => hf _ (it_mem hf h k)
theorem comes_back {α : Type} [DecidableEq α] {f : α → α} {S : List α} (hf : ∀ a ∈ S, f a ∈ S) (inj : ∀ a ∈ S, ∀ b ∈ S, f a = f b → a = b) {a : α} (h : a ∈ S) : ∃ k, 0 < k ∧ k ≤ S.length ∧ it f k a = a := by
 have cancel : ∀ i j, it f i a = it f (i + j) a → it f j a = a := by
  intro i
  induction i with
  | zero => intro j e; rw [Nat.zero_add] at e; exact e.symm
  | succ i ih =>
   intro j e
   refine ih j ?_
   rw [show i + 1 + j = (i + j) + 1 by omega] at e
   exact inj _ (it_mem hf h i) _ (it_mem hf h (i + j)) e
 refine Classical.byContradiction fun hn => ?_
 have nd : ((List.range (S.length + 1)).map fun i => it f i a).Nodup := by
  refine List.Pairwise.map _ (R := fun i j => i < j ∧ j < S.length + 1) ?_ ?_
  ·rintro i j ⟨h1, h2⟩ e
   refine hn ⟨j - i, by omega, by omega, cancel i (j - i) ?_⟩
   rw [show i + (j - i) = j by omega]
   exact e
  ·rw [List.pairwise_iff_getElem]
   intro i j hi hj hij
   simp only [List.getElem_range]
   simp at hj
   exact ⟨hij, hj⟩
 have := nodup_le nd fun z hz => by
  obtain ⟨i, _, rfl⟩ := List.mem_map.mp hz
  exact it_mem hf h i
 simp at this
 omega
theorem row_le : ∀ (n : Net) (r : Nat), (row n r).length ≤ (ties n).length
 | [], r => by simp [row, ties]
 | a :: n, 0 => by simp [row, ties]
 | a :: n, r + 1 => by
  have := row_le n r
  simp [row, ties] at this ⊢
  omega
theorem ties_take_le : ∀ (n : Net) (r : Nat), (ties (n.take r)).length ≤ (ties n).length
 | [], r => by simp [ties]
 | a :: n, 0 => by simp [ties]
 | a :: n, r + 1 => by
  have := ties_take_le n r
  simp [ties] at this ⊢
  omega
structure IsFace (n : Net) (e : Nt.End) (fs : List End) : Prop where
 pos : 0 < fs.length
 len : fs.length ≤ (ends n).length
 at' : ∀ i, i < fs.length → fs[i]? = some (it (step n) i e)
 back : it (step n) fs.length e = e
 first : ∀ i, 0 < i → i < fs.length → it (step n) i e ≠ e
end Nt
namespace Nt
open PySem L2
noncomputable abbrev Ls (zs : List Str) : HO := .lst (zs.map V.str)
noncomputable abbrev Tp (e : End) : HO := .tup [.int e.1, .int e.2]
structure RowsAt (H : Hp) (R : Addr) (as : List (Addr × Addr)) (n : Net) : Prop where
 len : as.length = n.length
 lst : H R = some (.lst (as.map fun a => .ref a.1))
 tup : ∀ (i : Nat) a r, as[i]? = some a → n[i]? = some r → H a.1 = some (.tup [.str r.1, .ref a.2]) ∧ H a.2 = some (Ls r.2)
 inj : (as.map (·.2)).Nodup
theorem RowsAt.same {H H' : Hp} {R : Addr} {as : List (Addr × Addr)} {n : Net} (h : RowsAt H R as n) (s : Same H H') : RowsAt H' R as n :=
 ⟨h.len, s _ _ h.lst, fun i a r h1 h2 => ⟨s _ _ (h.tup i a r h1 h2).1, s _ _ (h.tup i a r h1 h2).2⟩, h.inj⟩
theorem RowsAt.at {H : Hp} {R : Addr} {as : List (Addr × Addr)} {n : Net} (h : RowsAt H R as n) {i : Nat} (hi : i < n.length) :
  ∃ a, as[i]? = some a ∧ atI (as.map fun a => V.ref a.1) (i : Int) = some (.ref a.1) ∧ H a.1 = some (.tup [.str n[i].1, .ref a.2]) ∧ H a.2 = some (Ls (row n i)) ∧ row n i = n[i].2 := by
 have hl := h.len
 have e : as[i]? = some as[i] := List.getElem?_eq_getElem (by omega)
 have er : row n i = n[i].2 := by unfold row; rw [List.getElem?_eq_getElem hi]; rfl
 have q := h.tup i as[i] n[i] e (List.getElem?_eq_getElem hi)
 refine ⟨as[i], e, atI_nat (by rw [List.getElem?_map, e]; rfl), q.1, ?_, er⟩
 rw [er]
 exact q.2
theorem at_strs {zs : List Str} {j : Nat} {z : Str} (h : zs[j]? = some z) : atI (zs.map V.str) (j : Int) = some (.str z) := atI_nat (by rw [List.getElem?_map, h]; rfl)
inductive Pd (H : Hp) : List Addr → List End → Prop where
 | nil : Pd H [] []
 | cons {t : Addr} {e : End} {ts : List Addr} {es : List End} : H t = some (Tp e) → Pd H ts es → Pd H (t :: ts) (e :: es)
theorem Pd.append {H : Hp} {ts us : List Addr} {es fs : List End} (h : Pd H ts es) (g : Pd H us fs) : Pd H (ts ++ us) (es ++ fs) := by
 induction h with
 | nil => exact g
 | cons h1 _ ih => exact .cons h1 ih
theorem Pd.keep {H H' : Hp} {ts : List Addr} {es : List End} (h : Pd H ts es) (k : ∀ t e, H t = some (Tp e) → H' t = some (Tp e)) : Pd H' ts es := by
 induction h with
 | nil => exact .nil
 | cons h1 _ ih => exact .cons (k _ _ h1) ih
theorem Pd.length {H : Hp} {ts : List Addr} {es : List End} (h : Pd H ts es) : ts.length = es.length := by
 induction h with
 | nil => rfl
 | cons _ _ ih => rw [List.length_cons, List.length_cons, ih]
theorem Pd.at {H : Hp} {ts : List Addr} {es : List End} (h : Pd H ts es) : ∀ {i : Nat} {e : End}, es[i]? = some e → ∃ t, ts[i]? = some t ∧ H t = some (Tp e) := by
 induction h with
 | nil => intro i e h; simp at h
 | cons h1 _ ih =>
  intro i e h
  cases i with
  | zero => simp at h; subst h; exact ⟨_, rfl, h1⟩
  | succ i => simp only [List.getElem?_cons_succ] at h ⊢; exact ih h
noncomputable def posIn (done : List (Str × End)) (z : Str) : List End := (done.filter fun x => decide (x.1 = z)).map (·.2)
theorem posIn_snoc (done : List (Str × End)) (y z : Str) (e : End) : posIn (done ++ [(y, e)]) z = posIn done z ++ (if y = z then [e] else []) := by
 unfold posIn
 rw [List.filter_append, List.map_append]
 congr 1
 by_cases h : y = z
 ·rw [if_pos h]; simp [h]
 ·rw [if_neg h]; simp [h]
structure SeatsOn (H0 H : Hp) (d : Addr) (done : List (Str × End)) (kvs : List (Key × V)) (ks : List Str) (A : Str → Option (Addr × List Addr)) : Prop where
 same : Same H0 H
 free : H0 d = none
 dict : H d = some (.dK kvs)
 keys : kvs.map (·.1) = ks.map Sum.inr
 nodup : ks.Nodup
 mem : ∀ z, z ∈ ks ↔ (A z).isSome = true
 val : ∀ z, valV kvs (Sum.inr z) = (A z).map fun a => .ref a.1
 at' : ∀ z a ts, A z = some (a, ts) → H0 a = none ∧ a ≠ d ∧ H a = some (.lst (ts.map V.ref)) ∧ Pd H ts (posIn done z)
 inj : ∀ z y a ts us, A z = some (a, ts) → A y = some (a, us) → z = y
 none' : ∀ z, A z = none → posIn done z = []
 some' : ∀ z a ts, A z = some (a, ts) → posIn done z ≠ []
theorem SeatsOn.start {H : Hp} {d : Addr} (h : H d = none) : SeatsOn H (upd H d (.dK [])) d [] [] [] (fun _ => none) where
 same := fun b u q => by rw [upd_ne (ne_of_none q h)]; exact q
 free := h
 dict := upd_same
 keys := rfl
 nodup := List.nodup_nil
 mem := fun z => by simp
 val := fun z => rfl
 at' := fun z a ts h => by cases h
 inj := fun z y a ts us h => by cases h
 none' := fun z _ => rfl
 some' := fun z a ts h => by cases h
theorem tp_ne_lst {H : Hp} {t a : Addr} {e : End} {xs : List V} (h : H t = some (Tp e)) (g : H a = some (.lst xs)) : t ≠ a := ne_of h g fun z => nomatch z
theorem SeatsOn.old {H0 H : Hp} {d : Addr} {done : List (Str × End)} {kvs : List (Key × V)} {ks : List Str} {A : Str → Option (Addr × List Addr)} (S : SeatsOn H0 H d done kvs ks A) {z : Str} {e : End} {a l0 t : Addr} {ts : List Addr}
  (hA : A z = some (a, ts)) (hl : H l0 = none) (ht : (upd H l0 (.lst [])) t = none) :
  SeatsOn H0 (upd (upd (upd H l0 (.lst [])) t (Tp e)) a (.lst (ts.map V.ref ++ [.ref t]))) d (done ++ [(z, e)]) kvs ks (fun y => if y = z then some (a, ts ++ [t]) else A y) := by
 obtain ⟨q1, q2, q3, q4⟩ := S.at' z a ts hA
 have htH : H t = none := by
  by_cases c : t = l0
  ·rw [c, upd_same] at ht; cases ht
  ·rwa [upd_ne c] at ht
 have hla : l0 ≠ a := (ne_of_none q3 hl).symm
 have hta : t ≠ a := (ne_of_none q3 htH).symm
 have hat : a ≠ t := hta.symm
 have keep : ∀ b u, b ≠ a → H b = some u → (upd (upd (upd H l0 (.lst [])) t (Tp e)) a (.lst (ts.map V.ref ++ [.ref t]))) b = some u := fun b u h1 h2 => by
  rw [upd_ne h1, upd_ne (ne_of_none h2 htH), upd_ne (ne_of_none h2 hl)]
  exact h2
 have kt : ∀ b f, H b = some (Tp f) → (upd (upd (upd H l0 (.lst [])) t (Tp e)) a (.lst (ts.map V.ref ++ [.ref t]))) b = some (Tp f) := fun b f h => keep b _ (tp_ne_lst h q3) h
 have et : (upd (upd (upd H l0 (.lst [])) t (Tp e)) a (.lst (ts.map V.ref ++ [.ref t]))) t = some (Tp e) := by rw [upd_ne hta, upd_same]
 refine ⟨fun b u h => ?_, S.free, keep d _ (Ne.symm q2) S.dict, S.keys, S.nodup, fun y => ?_, fun y => ?_, fun y a' ts' h => ?_, fun y y' a' ts' us h1 h2 => ?_, fun y h => ?_, fun y a' ts' h => ?_⟩
 ·exact keep b u (ne_of_none h q1) (S.same _ _ h)
 ·rw [S.mem y]
  by_cases c : y = z
  ·rw [if_pos c, c, hA]; simp
  ·rw [if_neg c]
 ·rw [S.val y]
  by_cases c : y = z
  ·rw [if_pos c, c, hA]; rfl
  ·rw [if_neg c]
 ·by_cases c : y = z
  ·rw [if_pos c] at h
   cases h
   refine ⟨q1, q2, by rw [upd_same, List.map_append]; rfl, ?_⟩
   rw [posIn_snoc, c, if_pos rfl]
   exact (q4.keep kt).append (.cons et .nil)
  ·rw [if_neg c] at h
   obtain ⟨r1, r2, r3, r4⟩ := S.at' y a' ts' h
   have hne : a' ≠ a := fun e2 => c (S.inj y z a ts' ts (e2 ▸ h) hA)
   refine ⟨r1, r2, keep _ _ hne r3, ?_⟩
   rw [posIn_snoc, if_neg (fun h => c h.symm), List.append_nil]
   exact r4.keep kt
 ·by_cases c : y = z <;> by_cases c' : y' = z
  ·rw [c, c']
  ·rw [if_pos c] at h1
   rw [if_neg c'] at h2
   cases h1
   exact absurd (S.inj y' z a us ts h2 hA) c'
  ·rw [if_neg c] at h1
   rw [if_pos c'] at h2
   cases h2
   exact absurd (S.inj y z a ts' ts h1 hA) c
  ·rw [if_neg c] at h1
   rw [if_neg c'] at h2
   exact S.inj y y' a' ts' us h1 h2
 ·by_cases c : y = z
  ·rw [if_pos c] at h; cases h
  ·rw [if_neg c] at h
   rw [posIn_snoc, if_neg (fun h => c h.symm), List.append_nil]
   exact S.none' y h
 ·by_cases c : y = z
  ·rw [posIn_snoc, if_pos c.symm]
   simp
  ·rw [if_neg c] at h
   rw [posIn_snoc, if_neg (fun h => c h.symm), List.append_nil]
   exact S.some' y a' ts' h
theorem SeatsOn.new {H0 H : Hp} {d : Addr} {done : List (Str × End)} {kvs : List (Key × V)} {ks : List Str} {A : Str → Option (Addr × List Addr)} (S : SeatsOn H0 H d done kvs ks A) {z : Str} {e : End} {l0 t : Addr}
  (hA : A z = none) (hl : H l0 = none) (ht : (upd (upd H l0 (.lst [])) d (.dK (putK kvs (Sum.inr z) (.ref l0)))) t = none) :
  SeatsOn H0 (upd (upd (upd (upd H l0 (.lst [])) d (.dK (putK kvs (Sum.inr z) (.ref l0)))) t (Tp e)) l0 (.lst [.ref t])) d (done ++ [(z, e)]) (putK kvs (Sum.inr z) (.ref l0)) (ks ++ [z]) (fun y => if y = z then some (l0, [t]) else A y) := by
 have hdl : d ≠ l0 := ne_of_none S.dict hl
 have htd : t ≠ d := fun c => by rw [c, upd_same] at ht; cases ht
 have htl : t ≠ l0 := fun c => by rw [upd_ne htd, c, upd_same] at ht; cases ht
 have htH : H t = none := by rwa [upd_ne htd, upd_ne htl] at ht
 have vn : valV kvs (Sum.inr z) = none := by rw [S.val z, hA]; rfl
 have keep : ∀ b u, b ≠ d → H b = some u → (upd (upd (upd (upd H l0 (.lst [])) d (.dK (putK kvs (Sum.inr z) (.ref l0)))) t (Tp e)) l0 (.lst [.ref t])) b = some u := fun b u h1 h2 => by
  rw [upd_ne (ne_of_none h2 hl), upd_ne (ne_of_none h2 htH), upd_ne h1, upd_ne (ne_of_none h2 hl)]
  exact h2
 have kt : ∀ b f, H b = some (Tp f) → (upd (upd (upd (upd H l0 (.lst [])) d (.dK (putK kvs (Sum.inr z) (.ref l0)))) t (Tp e)) l0 (.lst [.ref t])) b = some (Tp f) := fun b f h => keep b _ (ne_of h S.dict fun z => nomatch z) h
 have h0l : H0 l0 = none := S.same.free hl
 have zk : z ∉ ks := fun h => by
  have := (S.mem z).mp h
  rw [hA] at this
  cases this
 refine ⟨fun b u h => ?_, S.free, ?_, ?_, ?_, fun y => ?_, fun y => ?_, fun y a' ts' h => ?_, fun y y' a' ts' us h1 h2 => ?_, fun y h => ?_, fun y a' ts' h => ?_⟩
 ·exact keep b u (ne_of_none h S.free) (S.same _ _ h)
 ·rw [upd_ne hdl, upd_ne htd.symm, upd_same]
 ·rw [putK_new _ vn, List.map_append, S.keys, List.map_append]
  rfl
 ·rw [List.nodup_append]
  exact ⟨S.nodup, by simp, fun x hx y hy e => by rw [List.mem_singleton] at hy; subst hy e; exact zk hx⟩
 ·rw [List.mem_append, List.mem_singleton, S.mem y]
  by_cases c : y = z
  ·rw [if_pos c]; simp [c]
  ·rw [if_neg c]; simp [c]
 ·rw [valV_put]
  by_cases c : y = z
  ·rw [if_pos (by rw [c]), if_pos c]; rfl
  ·rw [if_neg (fun h => c (Sum.inr.inj h)), if_neg c, S.val y]
 ·by_cases c : y = z
  ·rw [if_pos c] at h
   cases h
   refine ⟨h0l, hdl.symm, by rw [upd_same]; rfl, ?_⟩
   rw [posIn_snoc, c, if_pos rfl, S.none' z hA]
   exact .cons (by rw [upd_ne htl, upd_same]) .nil
  ·rw [if_neg c] at h
   obtain ⟨r1, r2, r3, r4⟩ := S.at' y a' ts' h
   refine ⟨r1, r2, keep _ _ r2 r3, ?_⟩
   rw [posIn_snoc, if_neg (fun h => c h.symm), List.append_nil]
   exact r4.keep kt
 ·by_cases c : y = z <;> by_cases c' : y' = z
  ·rw [c, c']
  ·rw [if_pos c] at h1
   rw [if_neg c'] at h2
   cases h1
   exact absurd hl (by rw [(S.at' y' l0 us h2).2.2.1]; exact fun h => nomatch h)
  ·rw [if_neg c] at h1
   rw [if_pos c'] at h2
   cases h2
   exact absurd hl (by rw [(S.at' y l0 ts' h1).2.2.1]; exact fun h => nomatch h)
  ·rw [if_neg c] at h1
   rw [if_neg c'] at h2
   exact S.inj y y' a' ts' us h1 h2
 ·by_cases c : y = z
  ·rw [if_pos c] at h; cases h
  ·rw [if_neg c] at h
   rw [posIn_snoc, if_neg (fun h => c h.symm), List.append_nil]
   exact S.none' y h
 ·by_cases c : y = z
  ·rw [posIn_snoc, if_pos c.symm]
   simp
  ·rw [if_neg c] at h
   rw [posIn_snoc, if_neg (fun h => c h.symm), List.append_nil]
   exact S.some' y a' ts' h
theorem seatsFrom_append : ∀ (n m : Net) (k : Nat), seatsFrom k (n ++ m) = seatsFrom k n ++ seatsFrom (k + n.length) m
 | [], m, k => rfl
 | a :: n, m, k => by
  show rowSeats k a.2 0 ++ seatsFrom (k + 1) (n ++ m) = (rowSeats k a.2 0 ++ seatsFrom (k + 1) n) ++ seatsFrom (k + (n.length + 1)) m
  rw [seatsFrom_append n m (k + 1), List.append_assoc, show k + 1 + n.length = k + (n.length + 1) by omega]
theorem seats_take {n : Net} {r : Nat} (h : r < n.length) : seats (n.take (r + 1)) = seats (n.take r) ++ rowSeats r (row n r) 0 := by
 unfold seats
 rw [List.take_add_one, List.getElem?_eq_getElem h, seatsFrom_append]
 have e : (n.take r).length = r := by rw [List.length_take]; omega
 rw [e, Nat.zero_add]
 have er : row n r = n[r].2 := by unfold row; rw [List.getElem?_eq_getElem h]; rfl
 rw [er]
 show _ ++ (rowSeats r n[r].2 0 ++ []) = _
 rw [List.append_nil]
theorem rowSeats_take {r : Nat} {ts : List Str} {p : Nat} {z : Str} (h : ts[p]? = some z) : rowSeats r (ts.take (p + 1)) 0 = rowSeats r (ts.take p) 0 ++ [(z, (r, p))] := by
 unfold rowSeats
 have hp := (List.getElem?_eq_some_iff.mp h).1
 rw [List.take_add_one, h, List.zipIdx_append, List.map_append]
 have e : (ts.take p).length = p := by rw [List.length_take]; omega
 rw [e, Nat.zero_add]
 rfl
structure SeatsAt (H : Hp) (d : Addr) (n : Net) (ks : List Str) : Prop where
 dict : ∃ kvs, H d = some (.dK kvs) ∧ kvs.map (·.1) = ks.map Sum.inr ∧ ∀ z ∈ ties n, ∃ a ts, valV kvs (Sum.inr z) = some (.ref a) ∧ H a = some (.lst (ts.map V.ref)) ∧ Pd H ts (pos n z)
 nodup : ks.Nodup
 mem : ∀ z, z ∈ ks ↔ z ∈ ties n
theorem SeatsAt.same {H H' : Hp} {d : Addr} {n : Net} {ks : List Str} (S : SeatsAt H d n ks) (s : Same H H') : SeatsAt H' d n ks := by
 obtain ⟨kvs, h1, h2, h3⟩ := S.dict
 refine ⟨⟨kvs, s _ _ h1, h2, fun z hz => ?_⟩, S.nodup, S.mem⟩
 obtain ⟨a, ts, q1, q2, q3⟩ := h3 z hz
 exact ⟨a, ts, q1, s _ _ q2, q3.keep fun t e h => s _ _ h⟩
theorem ties_pos {n : Net} {z : Str} : z ∈ ties n ↔ pos n z ≠ [] := by
 rw [← List.count_pos_iff, ← pos_len, List.length_pos_iff]
theorem SeatsOn.whole {H0 H : Hp} {d : Addr} {n : Net} {kvs : List (Key × V)} {ks : List Str} {A : Str → Option (Addr × List Addr)} (S : SeatsOn H0 H d (seats n) kvs ks A) : SeatsAt H d n ks := by
 have mem : ∀ z, z ∈ ks ↔ z ∈ ties n := fun z => by
  rw [S.mem z, ties_pos]
  cases h : A z with
  | none => simp; exact S.none' z h
  | some p =>
   obtain ⟨a, ts⟩ := p
   simp
   exact S.some' z a ts h
 refine ⟨⟨kvs, S.dict, S.keys, fun z hz => ?_⟩, S.nodup, mem⟩
 have := (S.mem z).mp ((mem z).mpr hz)
 cases h : A z with
 | none => rw [h] at this; cases this
 | some p =>
  obtain ⟨a, ts⟩ := p
  obtain ⟨q1, q2, q3, q4⟩ := S.at' z a ts h
  exact ⟨a, ts, by rw [S.val z, h]; rfl, q3, q4⟩
theorem all2 (e : Nat → Bool) : (List.range 2).all e = (e 0 && e 1) := by
 show (([0, 1] : List Nat).all e) = _
 simp
theorem dec_end (x y : End) : (eqV (.int x.1) (.int y.1) && eqV (.int x.2) (.int y.2)) = decide (x = y) := by
 obtain ⟨a, b⟩ := x
 obtain ⟨c, d⟩ := y
 by_cases h : a = c <;> by_cases h2 : b = d
 ·subst h h2; simp [eqV]
 ·have : ¬ (b : Int) = (d : Int) := fun e => h2 (by omega)
  simp [eqV, h2, this]
 ·have : ¬ (a : Int) = (c : Int) := fun e => h (by omega)
  simp [eqV, h, this]
 ·have : ¬ (a : Int) = (c : Int) := fun e => h (by omega)
  simp [eqV, h, this]
section
variable {X : Cx} {H : Hp} {s t : Addr} {x y : End}
theorem eqs_tp : ∀ (j : Nat) (u v : V), [V.int x.1, .int x.2][j]? = some u → [V.int y.1, .int y.2][j]? = some v → EqD X H 0 u v (if j = 0 then eqV (.int x.1) (.int y.1) else eqV (.int x.2) (.int y.2))
 | 0, u, v, h1, h2 => by
  cases h1
  cases h2
  exact eqD_flat rfl rfl
 | 1, u, v, h1, h2 => by
  cases h1
  cases h2
  exact eqD_flat rfl rfl
 | j + 2, u, v, h1, h2 => by simp at h1
theorem rcD_tp (hs : H s = some (Tp x)) (ht : H t = some (Tp y)) : RcD X H 1 (.ref s) (.ref t) (decide (x = y)) := by
 have := rcD_tup (X := X) (k := 0) (fun j => if j = 0 then eqV (.int x.1) (.int y.1) else eqV (.int x.2) (.int y.2)) (SqT.of hs) (SqT.of ht) rfl eqs_tp
 rw [show ([V.int (x.1 : Int), .int x.2].length) = 2 from rfl, all2] at this
 have e := dec_end x y
 simp only [if_true] at this
 rw [if_neg (by decide), e] at this
 exact this
theorem rnD_tp (hs : H s = some (Tp x)) (ht : H t = some (Tp y)) : RnD X H 1 (.ref s) (.ref t) (decide (x = y)) := by
 have := rnD_tup (X := X) (k := 0) (fun j => if j = 0 then eqV (.int x.1) (.int y.1) else eqV (.int x.2) (.int y.2)) (SqT.of hs) (SqT.of ht) rfl eqs_tp
 rw [show ([V.int (x.1 : Int), .int x.2].length) = 2 from rfl, all2] at this
 have e := dec_end x y
 simp only [if_true] at this
 rw [if_neg (by decide), e] at this
 exact this
end
end Nt
namespace Nt
open PySem L2
noncomputable abbrev lets : Str := "abcdefghijklmnopqrstuvwxyz0123456789"
theorem lets_len : lets.cps.toList.length = 36 := by decide +kernel
theorem lets_nodup : lets.cps.toList.Nodup := by decide +kernel
noncomputable def sgn (i : Int) : Nat := (atI lets.cps.toList (i % 36)).getD 0
theorem sgn_at (i : Int) : atI lets.cps.toList (i % 36) = some (sgn i) := by
 have h0 : 0 ≤ i % 36 := Int.emod_nonneg _ (by decide)
 have h1 : i % 36 < 36 := Int.emod_lt_of_pos _ (by decide)
 have hj : (i % 36).toNat < lets.cps.toList.length := by rw [lets_len]; omega
 have q := atI_nat (xs := lets.cps.toList) (j := (i % 36).toNat) (v := lets.cps.toList[(i % 36).toNat]) (by simp [hj])
 rw [show (((i % 36).toNat : Nat) : Int) = i % 36 by omega] at q
 unfold sgn
 rw [q]
 rfl
theorem sgn_inj {i j : Int} (h : sgn i = sgn j) : i % 36 = j % 36 := by
 have key : ∀ k : Int, lets.cps.toList[(k % 36).toNat]? = some (sgn k) := fun k => by
  have h0 : 0 ≤ k % 36 := Int.emod_nonneg _ (by decide)
  have h1 : k % 36 < 36 := Int.emod_lt_of_pos _ (by decide)
  have hj : (k % 36).toNat < lets.cps.toList.length := by rw [lets_len]; omega
  have q := atI_nat (xs := lets.cps.toList) (j := (k % 36).toNat) (v := lets.cps.toList[(k % 36).toNat]) (by simp [hj])
  rw [show (((k % 36).toNat : Nat) : Int) = k % 36 by omega, sgn_at] at q
  rw [List.getElem?_eq_getElem hj, Option.some.inj q]
 have hi := key i
 have hj := key j
 rw [h] at hi
 obtain ⟨l1, e1⟩ := List.getElem?_eq_some_iff.mp hi
 obtain ⟨l2, e2⟩ := List.getElem?_eq_some_iff.mp hj
 have := (List.getElem_inj (xs := lets.cps.toList) (h₀ := l1) (h₁ := l2) lets_nodup).mp (e1.trans e2.symm)
 have a0 : 0 ≤ i % 36 := Int.emod_nonneg _ (by decide)
 have b0 : 0 ≤ j % 36 := Int.emod_nonneg _ (by decide)
 omega
noncomputable def turn (b : Int) (sp : Int) (v k : Nat) : Int := b / 64 + (k : Int) * (b / 7 % 5) + (if (k : Int) = sp then (v : Int) else 0)
noncomputable def nm (b sp : Int) (v : Nat) : Nat → Str
 | 0 => ⟨#[]⟩
 | k + 1 => nm b sp v k ++ ⟨#[sgn (turn b sp v k)]⟩
theorem app_list (x y : Str) : (x ++ y).cps.toList = x.cps.toList ++ y.cps.toList := by
 show (x.cps ++ y.cps).toList = _
 simp
theorem nm_list (b sp : Int) (v : Nat) : ∀ k, (nm b sp v k).cps.toList = (List.range k).map fun j => sgn (turn b sp v j)
 | 0 => rfl
 | k + 1 => by
  show (nm b sp v k ++ ⟨#[sgn (turn b sp v k)]⟩).cps.toList = _
  rw [app_list, nm_list b sp v k, List.range_succ, List.map_append]
  rfl
theorem nm_inj {b sp : Int} {u v k : Nat} (hu : u < 36) (hv : v < 36) (h0 : 0 ≤ sp) (h1 : sp < (k : Int)) (h : nm b sp u k = nm b sp v k) : u = v := by
 have e : (nm b sp u k).cps.toList = (nm b sp v k).cps.toList := by rw [h]
 rw [nm_list, nm_list] at e
 have hk : sp.toNat < k := by omega
 have q : ((List.range k).map fun j => sgn (turn b sp u j))[sp.toNat]? = ((List.range k).map fun j => sgn (turn b sp v j))[sp.toNat]? := by rw [e]
 rw [List.getElem?_map, List.getElem?_map, List.getElem?_range hk] at q
 have q2 : sgn (turn b sp u sp.toNat) = sgn (turn b sp v sp.toNat) := Option.some.inj q
 have q3 := sgn_inj q2
 unfold turn at q3
 rw [show ((sp.toNat : Nat) : Int) = sp by omega, if_pos rfl, if_pos rfl] at q3
 omega
theorem fold_list (c : Nat) : ∀ (k : Nat) (acc : Array Nat), ((List.replicate k (#[c] : Array Nat)).foldl (· ++ ·) acc).toList = acc.toList ++ List.replicate k c
 | 0, acc => by simp
 | k + 1, acc => by
  rw [List.replicate_succ, List.foldl_cons, fold_list c k, List.replicate_succ]
  simp
theorem mul_list (c : Nat) {i : Int} (h : 1 ≤ i) : (Txt.mul ⟨#[c]⟩ i).cps.toList = List.replicate i.toNat c := by
 unfold Txt.mul
 rw [if_neg (by omega)]
 by_cases e : i = 1
 ·subst e
  rfl
 ·have e1 : (i == 1 || (⟨#[c]⟩ : Str).length == 0) = false := by
   have : (i == 1) = false := by simpa using e
   rw [this]
   rfl
  rw [e1]
  simp only [Bool.false_eq_true, if_false]
  have := fold_list c i.toNat #[]
  simpa using this
noncomputable def nameOf (b : Int) (v : Nat) : Str := if b % 3 = 2 then Txt.mul ⟨#[sgn (b / 64 + (v : Int) / 8)]⟩ (1 + (v : Int) % 8) else nm b (b / 8 % (1 + b % 8)) v (1 + b % 8).toNat
theorem nameOf_inj {b : Int} {u v : Nat} (hu : u < 36) (hv : v < 36) (h : nameOf b u = nameOf b v) : u = v := by
 have s0 : 0 ≤ b % 8 := Int.emod_nonneg _ (by decide)
 unfold nameOf at h
 by_cases c : b % 3 = 2
 ·rw [if_pos c, if_pos c] at h
  have u0 : 0 ≤ (u : Int) % 8 := Int.emod_nonneg _ (by decide)
  have v0 : 0 ≤ (v : Int) % 8 := Int.emod_nonneg _ (by decide)
  have e : (Txt.mul ⟨#[sgn (b / 64 + (u : Int) / 8)]⟩ (1 + (u : Int) % 8)).cps.toList = (Txt.mul ⟨#[sgn (b / 64 + (v : Int) / 8)]⟩ (1 + (v : Int) % 8)).cps.toList := by rw [h]
  rw [mul_list _ (by omega), mul_list _ (by omega)] at e
  have l := congrArg List.length e
  rw [List.length_replicate, List.length_replicate] at l
  have hd : (List.replicate (1 + (u : Int) % 8).toNat (sgn (b / 64 + (u : Int) / 8)))[0]? = (List.replicate (1 + (v : Int) % 8).toNat (sgn (b / 64 + (v : Int) / 8)))[0]? := by rw [e]
  rw [List.getElem?_replicate, List.getElem?_replicate, if_pos (by omega), if_pos (by omega)] at hd
  have q := sgn_inj (Option.some.inj hd)
  omega
 ·rw [if_neg c, if_neg c] at h
  refine nm_inj hu hv (Int.emod_nonneg _ (by omega)) ?_ h
  have := Int.emod_lt_of_pos (b / 8) (show 0 < 1 + b % 8 by omega)
  omega
noncomputable def namesOf (b : Int) (m : Nat) : List Str := (List.range m).map (nameOf b)
theorem namesOf_nodup {b : Int} {m : Nat} (h : m ≤ 36) : (namesOf b m).Nodup := by
 unfold namesOf
 refine List.Pairwise.map _ (R := fun i j => i < j ∧ j < m) ?_ ?_
 ·rintro i j ⟨h1, h2⟩ e
  have := nameOf_inj (by omega) (by omega) e
  omega
 ·rw [List.pairwise_iff_getElem]
  intro i j hi hj hij
  simp only [List.getElem_range]
  simp at hj
  exact ⟨hij, hj⟩
theorem namesOf_succ (b : Int) (m : Nat) : namesOf b (m + 1) = namesOf b m ++ [nameOf b m] := by
 unfold namesOf
 rw [List.range_succ, List.map_append]
 rfl
theorem namesOf_len (b : Int) (m : Nat) : (namesOf b m).length = m := by unfold namesOf; simp
theorem namesOf_at {b : Int} {m i : Nat} (h : i < m) : (namesOf b m)[i]? = some (nameOf b i) := by
 unfold namesOf
 rw [List.getElem?_map, List.getElem?_range h]
 rfl
end Nt
namespace M2
open PySem L2
noncomputable def top (i : Nat) : Stmt := PySem.Challenge.pw_threewebs_k32_cores.main.body.getD i (.Pass ⟨0, 0, 0, 0⟩)
noncomputable abbrev sEnds : Stmt := top 1
noncomputable abbrev sOrder : Stmt := top 2
noncomputable abbrev sLeft : Stmt := top 3
noncomputable abbrev sRightT : Stmt := top 4
noncomputable abbrev sOthers : Stmt := top 5
noncomputable abbrev sByEnd : Stmt := top 6
noncomputable abbrev sLS : Stmt := top 7
noncomputable abbrev sRS : Stmt := top 8
noncomputable abbrev sWks : Stmt := top 10
noncomputable abbrev sWkF : Stmt := top 11
noncomputable abbrev s_core_of : Stmt := top 12
noncomputable abbrev sCell : Stmt := top 14
noncomputable abbrev sBig : Stmt := top 15
noncomputable abbrev sNames : Stmt := top 16
noncomputable abbrev sSeats : Stmt := top 17
noncomputable abbrev sOther : Stmt := top 18
noncomputable abbrev sStep : Stmt := top 19
noncomputable abbrev sFace : Stmt := top 20
noncomputable abbrev sPut : Stmt := top 21
noncomputable abbrev sNet : Stmt := top 22
noncomputable abbrev sCopy : Stmt := top 23
noncomputable abbrev s_l_side : Stmt := top 24
noncomputable abbrev s_l_even : Stmt := top 25
noncomputable abbrev s_l_sum : Stmt := top 26
noncomputable abbrev s_l_is_set : Stmt := top 27
noncomputable abbrev s_l_core : Stmt := top 28
noncomputable abbrev sLaw : Stmt := top 29
structure Txt (mg : Str → Option Value) : Prop where
 isi : mg "isinstance" = none
 ttuple : mg "tuple" = none
 tstr : mg "str" = none
 tint : mg "int" = none
 tbool : mg "bool" = none
 tlist : mg "list" = none
 tdict : mg "dict" = none
 tset : mg "set" = none
 enum : mg "enumerate" = none
 zip : mg "zip" = none
 len : mg "len" = none
 range : mg "range" = none
 sorted : mg "sorted" = none
 max : mg "max" = none
 all : mg "all" = none
end M2
namespace M2
open PySem L2 Nt Sort2
theorem small {n : Nat} (h : n ≤ 100000) : n ≤ sizeLine := by rw [sizeLine_eq]; omega
theorem small' {n : Nat} (h : n ≤ 100000) : n < sizeLine := by rw [sizeLine_eq]; omega
theorem same_new {H : Hp} {p : Addr} (h : H p = none) (o : HO) : Same H (upd H p o) := fun b u q => by rw [upd_ne (ne_of_none q h)]; exact q
theorem same_mut {H1 H2 : Hp} {r : Addr} {o : HO} (s : Same H1 H2) (h : H1 r = none) : Same H1 (upd H2 r o) := fun b u q => by
 rw [upd_ne (ne_of_none q h)]
 exact s _ _ q
theorem ls_app {H : Hp} {l : Addr} {zs : List Str} {y : Str} : upd H l (.lst (zs.map V.str ++ [V.str y])) = upd H l (Ls (zs ++ [y])) := by
 show _ = upd H l (.lst ((zs ++ [y]).map V.str))
 rw [List.map_append]
 rfl
noncomputable def spCell (K : PySem.W.Frag) : Sp := fun vs H Q _ => ∃ (a : Addr) (ns : List Int) (k : Int), vs = [.ref a, .int k] ∧ SqL K H a (ns.map V.int) ∧ 0 ≤ k ∧ ∀ i, Q (.int i) H
noncomputable def spBig (K : PySem.W.Frag) : Sp := fun vs H Q _ => ∃ (a : Addr) (ns : List Int) (k : Int), vs = [.ref a, .int k] ∧ SqL K H a (ns.map V.int) ∧ 0 ≤ k ∧ ∀ i H', Same H H' → Q (.int i) H'
noncomputable def spNames : Sp := fun vs H Q _ => ∃ (b m : Int), vs = [.int b, .int m] ∧ 0 ≤ m ∧ m ≤ 36 ∧ ∀ l H', Same H H' → H l = none → H' l = some (Ls (namesOf b m.toNat)) → Q (.ref l) H'
noncomputable def spSeats : Sp := fun vs H Q _ => ∃ (R : Addr) (as : List (Addr × Addr)) (n : Net), vs = [.ref R] ∧ RowsAt H R as n ∧ n.length ≤ 1000 ∧ (ties n).length ≤ 1000 ∧ ∀ d ks H', Same H H' → H d = none → SeatsAt H' d n ks → Q (.ref d) H'
noncomputable def spOther : Sp := fun vs H Q _ => ∃ (R d t : Addr) (as : List (Addr × Addr)) (n : Net) (ks : List Str) (e : Nt.End), vs = [.ref R, .ref d, .ref t] ∧ RowsAt H R as n ∧ SeatsAt H d n ks ∧ Twice n ∧ H t = some (Tp e) ∧ e ∈ ends n ∧ ∀ u, H u = some (Tp (other n e)) → Q (.ref u) H
noncomputable def spStep : Sp := fun vs H Q _ => ∃ (R d t : Addr) (as : List (Addr × Addr)) (n : Net) (ks : List Str) (e : Nt.End), vs = [.ref R, .ref d, .ref t, .int 1] ∧ RowsAt H R as n ∧ SeatsAt H d n ks ∧ Twice n ∧ H t = some (Tp e) ∧ e ∈ ends n ∧ ∀ u H', Same H H' → H u = none → H' u = some (Tp (step n e)) → Q (.ref u) H'
noncomputable def spFace : Sp := fun vs H Q _ => ∃ (R d t : Addr) (as : List (Addr × Addr)) (n : Net) (ks : List Str) (e : Nt.End), vs = [.ref R, .ref d, .ref t] ∧ RowsAt H R as n ∧ SeatsAt H d n ks ∧ Twice n ∧ H t = some (Tp e) ∧ e ∈ ends n ∧ (ends n).length ≤ 1000 ∧
 ∀ l ts fs H', Same H H' → H l = none → H' l = some (.lst (ts.map V.ref)) → Pd H' ts fs → IsFace n e fs → Q (.ref l) H'
section
variable {P : Program} {w : World} {K : PySem.W.Frag} {mg : Str → Option Value} {base : Heap}
theorem scCell : FnScope ["_law_script", "_law_k"] ["_law_script", "_law_k"] (defScope sCell) := ⟨rfl, rfl, rfl, by decide +kernel, rfl, by decide +kernel, by decide +kernel⟩
theorem at_ints {ns : List Int} {k : Int} (h0 : 0 ≤ k) (h1 : k < (ns.length : Int)) : ∃ v : Int, atI (ns.map V.int) k = some (.int v) := by
 have hj : k.toNat < ns.length := by omega
 have q := atI_nat (xs := ns.map V.int) (j := k.toNat) (v := .int ns[k.toNat]) (by simp [hj])
 rw [show ((k.toNat : Nat) : Int) = k by omega] at q
 exact ⟨_, q⟩
theorem ok_cell {f : Addr} {fd : FuncData} (F : Fun K "_law_cell_at" "_law_cell_at" sCell f fd) (T : Txt mg) : FnOk P w K mg base CX0 1 f fd ["_law_script", "_law_k"] (spCell K) := by
 refine F.gb scCell (fun vs H Q E h => ?_) (fun b0 H vs Q E hr h => ?_)
 ·obtain ⟨a, ns, k, rfl, _⟩ := h
  rfl
 obtain ⟨a, ns, k, rfl, hS, h0, q⟩ := h
 show Run _ _ _ [some (.ref a), some (.int k)] H
 refine run_if (et_cmp op_lt (ev_v 1 (ev_blt call_len_seq T.len boot_len (ea_cons (ev_v 0 (ea_nil ⟨a, _, rfl, .inl hS, _, _, rfl, rfl, _, rfl, ?_⟩))))))
 refine ite2 (fun c => ?_) (fun c => ?_)
 ·have c' := of_decide_eq_true c
  obtain ⟨v, hv⟩ := at_ints (ns := ns) h0 (by rw [List.length_map] at c'; exact c')
  exact run_ret (ev_ix ix_list (ev_v 0 (ev_v 1 ⟨a, _, _, .int v, rfl, rfl, hS, hv, q v⟩)))
 ·exact run_nil (run_ret (ev_int (q 0)))
noncomputable abbrev bys : List V := [.int 48271, .int 69621, .int 16807, .int 39373, .int 21401, .int 60493, .int 87721, .int 31337]
noncomputable abbrev prs : List V := [.int 99991, .int 99989, .int 99971, .int 99961, .int 99929, .int 99923, .int 99907, .int 99901]
theorem eight {i : Int} (h0 : 0 ≤ i) (h1 : i < 8) : i = 0 ∨ i = 1 ∨ i = 2 ∨ i = 3 ∨ i = 4 ∨ i = 5 ∨ i = 6 ∨ i = 7 := by omega
theorem at_bys {i : Int} (h0 : 0 ≤ i) (h1 : i < 8) : ∃ m : Int, atI bys i = some (.int m) ∧ 0 < m ∧ m < 100000 := by
 rcases eight h0 h1 with rfl | rfl | rfl | rfl | rfl | rfl | rfl | rfl <;> exact ⟨_, rfl, by decide, by decide⟩
theorem at_prs {i : Int} (h0 : 0 ≤ i) (h1 : i < 8) : ∃ m : Int, atI prs i = some (.int m) ∧ 0 < m ∧ m < 100000 := by
 rcases eight h0 h1 with rfl | rfl | rfl | rfl | rfl | rfl | rfl | rfl <;> exact ⟨_, rfl, by decide, by decide⟩
theorem scBig : FnScope ["_law_script", "_law_at", "_law_by", "_law_prime", "_law_cell", "_law_big_here", "_law_k", "_law_one"] ["_law_script", "_law_at"] (defScope sBig) := ⟨rfl, rfl, rfl, by decide +kernel, rfl, by decide +kernel, by decide +kernel⟩
theorem ok_big {f : Addr} {fd : FuncData} (F : Fun K "_law_big" "_law_big" sBig f fd) (T : Txt mg) (G : Has P w K mg base 1 "_law_cell_at" ["_law_script", "_law_k"] (spCell K)) :
  FnOk P w K mg base CX0 2 f fd ["_law_script", "_law_at"] (spBig K) := by
 refine F.gb scBig (fun vs H Q E h => ?_) (fun b0 H vs Q E hr h => ?_)
 ·obtain ⟨a, ns, k, rfl, _⟩ := h
  rfl
 obtain ⟨a, ns, k, rfl, hS, h0, q⟩ := h
 have nd := scBig.nd
 show Run _ _ _ [some (.ref a), some (.int k), none, none, none, none, none, none] H
 refine run_set 2 nd (ev_tup (ea_cons (ev_int (ea_cons (ev_int (ea_cons (ev_int (ea_cons (ev_int (ea_cons (ev_int (ea_cons (ev_int (ea_cons (ev_int (ea_cons (ev_int (ea_nil ⟨(by show 8 ≤ sizeLine; decide), fun p hp => ?_⟩))))))))))))))))))
 refine run_set 3 nd (ev_tup (ea_cons (ev_int (ea_cons (ev_int (ea_cons (ev_int (ea_cons (ev_int (ea_cons (ev_int (ea_cons (ev_int (ea_cons (ev_int (ea_cons (ev_int (ea_nil ⟨(by show 8 ≤ sizeLine; decide), fun p2 hp2 => ?_⟩))))))))))))))))))
 have npp : p ≠ p2 := by
  intro e
  rw [← e, upd_same] at hp2
  cases hp2
 have s1 : Same H (upd H p (.tup bys)) := same_new hp _
 have s2 : Same H (upd (upd H p (.tup bys)) p2 (.tup prs)) := s1.trans (same_new hp2 _)
 have e1 : (upd (upd H p (.tup bys)) p2 (.tup prs)) p = some (.tup bys) := by rw [upd_ne npp, upd_same]
 have e2 : (upd (upd H p (.tup bys)) p2 (.tup prs)) p2 = some (.tup prs) := upd_same
 generalize upd (upd H p (.tup bys)) p2 (.tup prs) = H2 at s2 e1 e2 ⊢
 refine run_set 4 nd (ev_has G hr (ea_cons (ev_v 0 (ea_cons (ev_v 1 (ea_nil ⟨a, ns, k, rfl, s2.seq hS, h0, fun b => ?_⟩))))))
 show Run _ _ _ [some (.ref a), some (.int k), some (.ref p), some (.ref p2), some (.int b), none, none, none] H2
 refine run_ifJ True True (fun R qq => ?_) (fun _ => ?_) (fun _ => run_nil ?_)
 ·refine et_bool (ew_and (et_cmp op_eq (ev_op op_mod (ev_v 4 (ev_int ⟨_, _, rfl, rfl, (by show (0 : Int) < 2; decide), ev_int ⟨rfl, _, rfl, ?_⟩⟩)))))
  refine ite2 (fun c => ?_) (fun c => qq false (fun z => nomatch z) fun _ => trivial)
  exact ew_and1 (et_cmp op_gt (ev_v 4 (ev_op op_pow (ev_int (ev_int ⟨_, _, rfl, rfl, ⟨by decide, by decide, by decide⟩, _, _, rfl, rfl, _, rfl, qq _ (fun _ => trivial) fun _ => trivial⟩)))))
 ·exact run_ret (ev_op op_fdiv (ev_v 4 (ev_int ⟨_, _, rfl, rfl, ⟨by decide, by decide⟩, q _ _ s2⟩)))
 refine run_set 5 nd (ev_int ?_)
 refine run_forR1 T.range (ev_int ⟨60, rfl, by decide, by decide, loop_range (n := 60) (fun _ σ H3 => H3 = H2 ∧ ∃ (x : Int) (u v : Option V), σ = [some (.ref a), some (.int k), some (.ref p), some (.ref p2), some (.int b), some (.int x), u, v]) ⟨rfl, 0, _, _, rfl⟩ ?_ ?_⟩)
 ·rintro i σ H3 hi ⟨rfl, x, u, v, rfl⟩
  have i9 : 0 ≤ (0 + (i : Int)) % 9 := Int.emod_nonneg _ (by decide)
  obtain ⟨m1, f1, g1, g2⟩ := at_bys (i := (0 + (i : Int)) % 8) (Int.emod_nonneg _ (by decide)) (Int.emod_lt_of_pos _ (by decide))
  obtain ⟨m2, f2, g3, g4⟩ := at_prs (i := (0 + (i : Int)) % 8) (Int.emod_nonneg _ (by decide)) (Int.emod_lt_of_pos _ (by decide))
  refine eg_name 6 nd ?_
  refine run_set 7 nd (ev_op op_add (ev_op op_add (ev_op op_mod (ev_has G hr (ea_cons (ev_v 0 (ea_cons (ev_op op_add (ev_v 1 (ev_op op_mod (ev_v 6 (ev_int ?_))))))))))))
  refine ⟨_, _, rfl, rfl, (by show (0 : Int) < 9; decide), _, _, rfl, rfl, ea_nil ⟨a, ns, _, rfl, s2.seq hS, ?_, fun c => ?_⟩⟩
  ·show 0 ≤ k + (0 + (i : Int)) % 9
   omega
  refine ev_op op_pow (ev_int (ev_int ⟨_, _, rfl, rfl, ⟨by decide, by decide, by decide⟩, _, _, rfl, rfl, (by show (0 : Int) < 10 ^ (18 : Int).toNat; decide), ev_int ⟨_, _, rfl, rfl, ?_⟩⟩))
  refine ev_op op_mul (ev_v 6 (ev_v 6 ?_))
  refine ⟨_, _, rfl, rfl, .inl ⟨by omega, by omega⟩, _, _, rfl, rfl, ?_⟩
  refine run_set 5 nd (ev_op op_add (ev_op op_mul (ev_v 5 (ev_int ⟨_, _, rfl, rfl, .inr ⟨by decide, by decide⟩, ?_⟩))))
  refine ev_op op_mod (ev_op op_mod (ev_op op_mul (ev_v 7 (ev_ix ix_tup (ev_v 2 (ev_op op_mod (ev_v 6 (ev_int ⟨_, _, rfl, rfl, (by show (0 : Int) < 8; decide), p, _, _, _, rfl, rfl, SqT.of e1, f1, _, _, rfl, rfl, .inr ⟨by omega, by omega⟩, ?_⟩))))))))
  refine ev_ix ix_tup (ev_v 3 (ev_op op_mod (ev_v 6 (ev_int ⟨_, _, rfl, rfl, (by show (0 : Int) < 8; decide), p2, _, _, _, rfl, rfl, SqT.of e2, f2, _, _, rfl, rfl, g3, ev_int ⟨_, _, rfl, rfl, (by show (0 : Int) < 7919; decide), _, _, rfl, rfl, ?_⟩⟩))))
  exact run_nil ⟨rfl, _, _, _, rfl⟩
 ·rintro σ H3 ⟨rfl, x, u, v, rfl⟩
  exact run_ret (ev_v 5 (q x _ s2))
noncomputable abbrev NN : List Str := ["_law_stem", "_law_many", "_law_signs", "_law_size", "_law_spot", "_law_names_here", "_law_v", "_law_name", "_law_k", "_law_turn"]
theorem scNames : FnScope NN ["_law_stem", "_law_many"] (defScope sNames) := ⟨rfl, rfl, rfl, by decide +kernel, rfl, by decide +kernel, by decide +kernel⟩
theorem ok_names {f : Addr} {fd : FuncData} (F : Fun K "_law_names" "_law_names" sNames f fd) (T : Txt mg) : FnOk P w K mg base CX0 1 f fd ["_law_stem", "_law_many"] spNames := by
 refine F.gb scNames (fun vs H Q E h => ?_) (fun b0 H vs Q E hr h => ?_)
 ·obtain ⟨b, m, rfl, _⟩ := h
  rfl
 obtain ⟨b, m, rfl, m0, m1, q⟩ := h
 have nd := scNames.nd
 have s0 : 0 ≤ b % 8 := Int.emod_nonneg _ (by decide)
 have s1 : b % 8 < 8 := Int.emod_lt_of_pos _ (by decide)
 show Run _ _ _ [some (.int b), some (.int m), none, none, none, none, none, none, none, none] H
 refine run_set 2 nd (ev_str ?_)
 refine run_set 3 nd (ev_op op_add (ev_int (ev_op op_mod (ev_v 0 (ev_int ⟨_, _, rfl, rfl, (by show (0 : Int) < 8; decide), _, _, rfl, rfl, ?_⟩)))))
 refine run_set 4 nd (ev_op op_mod (ev_op op_fdiv (ev_v 0 (ev_int ⟨_, _, rfl, rfl, ⟨by decide, by decide⟩, ev_v 3 ⟨_, _, rfl, rfl, (by show 0 < 1 + b % 8; omega), ?_⟩⟩))))
 refine run_set 5 nd (ev_lst (ea_nil ⟨(by show 0 ≤ sizeLine; decide), fun l hl => ?_⟩))
 show Run _ _ _ [some (.int b), some (.int m), some (.str lets), some (.int (1 + b % 8)), some (.int (b / 8 % (1 + b % 8))), some (.ref l), none, none, none, none] _
 have spE : b / 8 % (1 + b % 8) = b / 8 % (1 + b % 8) := rfl
 refine run_forR1 T.range (ev_v 1 ⟨m, rfl, by omega, by omega, loop_range (n := m.toNat) (fun i σ H3 => H3 = upd H l (Ls (namesOf b i)) ∧ ∃ u1 u2 u3 u4, σ = [some (.int b), some (.int m), some (.str lets), some (.int (1 + b % 8)), some (.int (b / 8 % (1 + b % 8))), some (.ref l), u1, u2, u3, u4]) ⟨rfl, _, _, _, _, rfl⟩ ?_ ?_⟩)
 ·rintro i σ H3 hi ⟨rfl, u1, u2, u3, u4, rfl⟩
  refine eg_name 6 nd ?_
  refine run_set 7 nd (ev_str ?_)
  refine run_forR1 T.range (ev_v 3 ⟨_, rfl, by omega, by omega, loop_range (n := (1 + b % 8).toNat) (fun j σ H4 => H4 = upd H l (Ls (namesOf b i)) ∧ ∃ (u3 u4 : Option V), σ = [some (.int b), some (.int m), some (.str lets), some (.int (1 + b % 8)), some (.int (b / 8 % (1 + b % 8))), some (.ref l), some (.int (0 + (i : Int))), some (.str (nm b (b / 8 % (1 + b % 8)) i j)), u3, u4]) ⟨rfl, _, _, rfl⟩ ?_ ?_⟩)
  ·rintro j σ H4 hj ⟨rfl, v3, v4, rfl⟩
   have t0 : 0 ≤ b / 7 % 5 := Int.emod_nonneg _ (by decide)
   have t1 : b / 7 % 5 < 5 := Int.emod_lt_of_pos _ (by decide)
   have nl : (nm b (b / 8 % (1 + b % 8)) i j).length = j := by
    have := congrArg List.length (nm_list b (b / 8 % (1 + b % 8)) i j)
    show (nm b (b / 8 % (1 + b % 8)) i j).cps.size = j
    simpa using this
   refine eg_name 8 nd ?_
   refine run_set 9 nd (ev_op op_add (ev_op op_fdiv (ev_v 0 (ev_int ⟨_, _, rfl, rfl, ⟨by decide, by decide⟩, ev_op op_mul (ev_v 8 (ev_op op_mod (ev_op op_fdiv (ev_v 0 (ev_int ⟨_, _, rfl, rfl, ⟨by decide, by decide⟩, ev_int ⟨_, _, rfl, rfl, (by show (0 : Int) < 5; decide), ?_⟩⟩)))))⟩))))
   refine ⟨_, _, rfl, rfl, .inr ⟨by omega, by omega⟩, _, _, rfl, rfl, ?_⟩
   refine run_ifM ((0 + (j : Int)) = b / 8 % (1 + b % 8)) (¬ (0 + (j : Int)) = b / 8 % (1 + b % 8)) (fun σ' H' => H' = upd H l (Ls (namesOf b i)) ∧ σ' = [some (.int b), some (.int m), some (.str lets), some (.int (1 + b % 8)), some (.int (b / 8 % (1 + b % 8))), some (.ref l), some (.int (0 + (i : Int))), some (.str (nm b (b / 8 % (1 + b % 8)) i j)), some (.int (0 + (j : Int))), some (.int (turn b (b / 8 % (1 + b % 8)) i j))]) (fun R qq => ?_) (fun hc => ?_) (fun hc => run_nil ⟨rfl, ?_⟩) ?_
   ·refine et_cmp op_eq (ev_v 8 (ev_v 4 ⟨rfl, _, rfl, ?_⟩))
    by_cases hc : (0 + (j : Int)) = b / 8 % (1 + b % 8)
    ·rw [decide_eq_true (show V.int (0 + (j : Int)) = V.int (b / 8 % (1 + b % 8)) by rw [hc])]
     exact qq true (fun _ => hc) fun h => by cases h
    ·rw [decide_eq_false fun h => hc (V.int.inj h)]
     exact qq false (fun h => by cases h) fun _ => hc
   ·refine run_set 9 nd (ev_op op_add (ev_v 9 (ev_v 6 ⟨_, _, rfl, rfl, run_nil ⟨rfl, ?_⟩⟩)))
    have e : b / 64 + (0 + (j : Int)) * (b / 7 % 5) + (0 + (i : Int)) = turn b (b / 8 % (1 + b % 8)) i j := by
     unfold turn
     rw [if_pos (by omega), Int.zero_add, Int.zero_add]
    rw [← e]
    rfl
   ·have e : b / 64 + (0 + (j : Int)) * (b / 7 % 5) = turn b (b / 8 % (1 + b % 8)) i j := by
     unfold turn
     rw [if_neg (by omega), Int.zero_add, Int.add_zero]
    rw [← e]
    rfl
   ·rintro σ' H' ⟨rfl, rfl⟩
    refine run_set 7 nd (ev_op op_add_str (ev_v 7 (ev_ix ix_str (ev_v 2 (ev_op op_mod (ev_v 9 (ev_int ⟨_, _, rfl, rfl, (by show (0 : Int) < 36; decide), lets, _, sgn (turn b (b / 8 % (1 + b % 8)) i j), rfl, rfl, by decide +kernel, sgn_at _, _, _, rfl, rfl, small (by show (nm b (b / 8 % (1 + b % 8)) i j).length + 1 ≤ 100000; omega), run_nil ⟨rfl, _, _, rfl⟩⟩)))))))
  ·rintro σ H4 ⟨rfl, v3, v4, rfl⟩
   refine run_ifM (b % 3 = 2) (¬ b % 3 = 2) (fun σ' H' => H' = upd H l (Ls (namesOf b i)) ∧ σ' = [some (.int b), some (.int m), some (.str lets), some (.int (1 + b % 8)), some (.int (b / 8 % (1 + b % 8))), some (.ref l), some (.int (0 + (i : Int))), some (.str (nameOf b i)), v3, v4]) (fun R qq => ?_) (fun hc => ?_) (fun hc => run_nil ⟨rfl, ?_⟩) ?_
   ·refine et_cmp op_eq (ev_op op_mod (ev_v 0 (ev_int ⟨_, _, rfl, rfl, (by show (0 : Int) < 3; decide), ev_int ⟨rfl, _, rfl, ?_⟩⟩)))
    by_cases hc : b % 3 = 2
    ·rw [decide_eq_true (show V.int (b % 3) = V.int 2 by rw [hc])]
     exact qq true (fun _ => hc) fun h => by cases h
    ·rw [decide_eq_false fun h => hc (V.int.inj h)]
     exact qq false (fun h => by cases h) fun _ => hc
   ·have e0 : 0 ≤ (0 + (i : Int)) % 8 := Int.emod_nonneg _ (by decide)
    have e1 : (0 + (i : Int)) % 8 < 8 := Int.emod_lt_of_pos _ (by decide)
    refine run_set 7 nd (ev_op op_repS (ev_ix ix_str (ev_v 2 (ev_op op_mod (ev_op op_add (ev_op op_fdiv (ev_v 0 (ev_int ⟨_, _, rfl, rfl, ⟨by decide, by decide⟩, ev_op op_fdiv (ev_v 6 (ev_int ⟨_, _, rfl, rfl, ⟨by decide, by decide⟩, _, _, rfl, rfl, ev_int ⟨_, _, rfl, rfl, (by show (0 : Int) < 36; decide), lets, _, sgn (b / 64 + (0 + (i : Int)) / 8), rfl, rfl, by decide +kernel, sgn_at _, ?_⟩⟩))⟩))))))))
    refine ev_op op_add (ev_int (ev_op op_mod (ev_v 6 (ev_int ⟨_, _, rfl, rfl, (by show (0 : Int) < 8; decide), _, _, rfl, rfl, ?_⟩))))
    refine ⟨_, _, rfl, rfl, by omega, by omega, ?_, run_nil ⟨rfl, ?_⟩⟩
    ·show 1 * _ ≤ _
     omega
    ·have e : Txt.mul ⟨#[sgn (b / 64 + (0 + (i : Int)) / 8)]⟩ (1 + (0 + (i : Int)) % 8) = nameOf b i := by
      unfold nameOf
      rw [if_pos hc, Int.zero_add]
     rw [← e]
     rfl
   ·have e : nm b (b / 8 % (1 + b % 8)) i (1 + b % 8).toNat = nameOf b i := by
     unfold nameOf
     rw [if_neg hc]
    rw [← e]
   ·rintro σ' H' ⟨rfl, rfl⟩
    refine run_expr (ev_append (ev_v 5 ⟨l, rfl, ⟨_, upd_same⟩, ev_v 7 ⟨_, upd_same, ?_, ?_⟩⟩))
    ·rw [List.length_map, namesOf_len]
     exact small' (by omega)
    ·rw [upd_upd]
     refine run_nil ⟨?_, _, _, _, _, rfl⟩
     rw [namesOf_succ]
     exact ls_app
 ·rintro σ H3 ⟨rfl, u1, u2, u3, u4, rfl⟩
  exact run_ret (ev_v 5 (q l _ (same_new hl _) hl upd_same))
end
end M2
namespace M2
open PySem L2 Nt Sort2
section
variable {P : Program} {w : World} {K : PySem.W.Frag} {mg : Str → Option Value} {base : Heap}
theorem ty_dK {H : Hp} {d : Addr} {kvs : List (Key × V)} (h : H d = some (.dK kvs)) : tyV K "dict" (.ref d) H := Or.inr (Or.inr (Or.inl ⟨rfl, Or.inl ⟨kvs, h⟩⟩))
noncomputable abbrev NS : List Str := ["_law_rows", "_law_seats_here", "_law_r", "_law_place"]
theorem scSeats : FnScope NS ["_law_rows"] (defScope sSeats) := ⟨rfl, rfl, rfl, by decide +kernel, rfl, by decide +kernel, by decide +kernel⟩
theorem ok_seats {f : Addr} {fd : FuncData} (F : Fun K "_law_seats" "_law_seats" sSeats f fd) (T : Txt mg) : FnOk P w K mg base CX0 1 f fd ["_law_rows"] spSeats := by
 refine F.gb scSeats (fun vs H Q E h => ?_) (fun b0 H vs Q E hr h => ?_)
 ·obtain ⟨R, as, n, rfl, _⟩ := h
  rfl
 obtain ⟨R, as, n, rfl, hR, hn, ht, q⟩ := h
 have nd := scSeats.nd
 have hal := hR.len
 show Run _ _ _ [some (.ref R), none, none, none] H
 refine run_set 1 nd (ev_dnewK fun d hd => ?_)
 refine run_forR1 T.range (ev_blt call_len_seq T.len boot_len (ea_cons (ev_v 0 (ea_nil ⟨R, _, rfl, .inl (SqL.of (same_new hd _ _ _ hR.lst)), _, rfl, by omega, by rw [List.length_map]; omega, ?_⟩))))
 rw [List.length_map, hal, Int.toNat_natCast]
 refine loop_range (fun r σ H3 => ∃ kvs ks A u1 u2, SeatsOn H H3 d (seats (n.take r)) kvs ks A ∧ σ = [some (.ref R), some (.ref d), u1, u2]) ⟨_, _, _, _, _, SeatsOn.start hd, rfl⟩ ?_ ?_
 ·rintro r σ H3 hi ⟨kvs, ks, A', u1, u2, S, rfl⟩
  rw [Int.zero_add]
  refine eg_name 2 nd ?_
  obtain ⟨a, ea, eat, et, el, er⟩ := (hR.same S.same).at hi
  refine run_forR1 T.range (ev_blt call_len_seq T.len boot_len (ea_cons (ev_ix ix_tup (ev_ix ix_list (ev_v 0 (ev_v 2 ⟨R, _, _, .ref a.1, rfl, rfl, SqL.of (S.same _ _ hR.lst), eat, ev_int ⟨a.1, _, _, .ref a.2, rfl, rfl, SqT.of et, rfl, ea_nil ⟨a.2, _, rfl, .inl (SqL.of el), _, rfl, by omega, ?_, ?_⟩⟩⟩))))))
  ·have : (row n r).length ≤ 1000 := by
    have h1 : (row n r).length ≤ (ties n).length := by
     exact row_le n r
    omega
   rw [List.length_map]
   omega
  rw [List.length_map, Int.toNat_natCast]
  refine loop_range (fun p σ H4 => ∃ kvs ks A u2, SeatsOn H H4 d (seats (n.take r) ++ rowSeats r ((row n r).take p) 0) kvs ks A ∧ σ = [some (.ref R), some (.ref d), some (.int (r : Int)), u2]) ⟨kvs, ks, A', _, by simpa [rowSeats] using S, rfl⟩ ?_ ?_
  ·rintro p σ H4 hp ⟨kvs, ks, A', u2, S, rfl⟩
   rw [Int.zero_add]
   refine eg_name 3 nd ?_
   obtain ⟨a, ea, eat, et, el, er⟩ := (hR.same S.same).at hi
   have hz : (row n r)[p]? = some (row n r)[p] := List.getElem?_eq_getElem hp
   generalize (row n r)[p] = z at hz
   have next : seats (n.take r) ++ rowSeats r ((row n r).take (p + 1)) 0 = (seats (n.take r) ++ rowSeats r ((row n r).take p) 0) ++ [(z, (r, p))] := by
    rw [rowSeats_take hz, List.append_assoc]
   have hlen : kvs.length < sizeLine := by
    have h1 : ks.length ≤ 1000 := by
     refine Nat.le_trans (nodup_le (b := ties n) S.nodup fun y hy => ?_) ht
     have h2 := (S.mem y).mp hy
     cases hA : A' y with
     | none => rw [hA] at h2; cases h2
     | some pr =>
      obtain ⟨a2, ts2⟩ := pr
      have h3 := S.some' y a2 ts2 hA
      unfold posIn at h3
      obtain ⟨x, hx⟩ := List.exists_mem_of_ne_nil _ h3
      obtain ⟨⟨y2, e2⟩, hm, _⟩ := List.mem_map.mp hx
      rw [List.mem_filter, decide_eq_true_eq] at hm
      obtain ⟨hm, rfl⟩ := hm
      have : (y2, e2) ∈ seats n := by
       rcases List.mem_append.mp hm with hm | hm
       ·have q1 := mem_seats.mp hm
        refine mem_seats.mpr ?_
        have q2 := row_lt q1
        unfold tieAt row at q1 ⊢
        rw [List.length_take] at q2
        rwa [List.getElem?_take_of_lt (by omega)] at q1
       ·have q1 := mem_rowSeats.mp hm
        refine mem_seats.mpr ?_
        unfold tieAt
        rw [q1.1]
        have q3 := q1.2.2
        rw [Nat.sub_zero] at q3
        have q4 := (List.getElem?_eq_some_iff.mp q3).1
        rw [List.length_take] at q4
        rwa [List.getElem?_take_of_lt (by omega)] at q3
      exact tie_mem (mem_seats.mp this)
    have h2 := congrArg List.length S.keys
    rw [List.length_map, List.length_map] at h2
    exact small' (by omega)
   refine run_expr (ev_append (ev_m2 PySem.F.plainAttrs_dict PySem.F.slot_dict_setdefault PySem.F.type_dict_setdefault mt_setdef (ev_v 1 ⟨ty_dK S.dict, ev_ix ix_list (ev_ix ix_tup (ev_ix ix_list (ev_v 0 (ev_v 2 ⟨R, _, _, .ref a.1, rfl, rfl, SqL.of (S.same _ _ hR.lst), eat, ev_int ⟨a.1, _, _, .ref a.2, rfl, rfl, SqT.of et, rfl, ev_v 3 ⟨a.2, _, _, .str z, rfl, rfl, SqL.of el, at_strs hz, ?_⟩⟩⟩))))⟩)))
   refine ev_lst (ea_nil ⟨(by show 0 ≤ sizeLine; decide), fun l0 hl0 => ?_⟩)
   have hdl : d ≠ l0 := ne_of_none S.dict hl0
   refine ⟨d, kvs, Sum.inr z, .ref l0, rfl, rfl, by rw [upd_ne hdl]; exact S.dict, hlen, ?_⟩
   cases hA : A' z with
   | some pr =>
    obtain ⟨a2, ts2⟩ := pr
    obtain ⟨q1, q2, q3, q4⟩ := S.at' z a2 ts2 hA
    have hla : a2 ≠ l0 := ne_of_none q3 hl0
    refine .inl ⟨.ref a2, by rw [S.val z, hA]; rfl, a2, rfl, ⟨_, by rw [upd_ne hla]; exact q3⟩, ?_⟩
    refine ev_tup (ea_cons (ev_v 2 (ea_cons (ev_v 3 (ea_nil ⟨(by show 2 ≤ sizeLine; decide), fun t ht2 => ?_⟩)))))
    have hta : a2 ≠ t := fun e => by rw [← e, upd_ne hla, q3] at ht2; cases ht2
    refine ⟨ts2.map V.ref, by rw [upd_ne hta, upd_ne hla]; exact q3, ?_, ?_⟩
    ·rw [List.length_map, q4.length]
     have h1 : (posIn (seats (n.take r) ++ rowSeats r ((row n r).take p) 0) z).length ≤ 100000 := by
      unfold posIn
      rw [List.length_map]
      refine Nat.le_trans (List.length_filter_le _ _) ?_
      rw [List.length_append]
      have h2 : (seats (n.take r)).length ≤ 1000 := by
       have := congrArg List.length (seats_names (n.take r) 0)
       rw [List.length_map] at this
       unfold seats
       rw [this]
       exact Nat.le_trans (ties_take_le n r) ht
      have h3 : (rowSeats r ((row n r).take p) 0).length ≤ 1000 := by
       unfold rowSeats
       rw [List.length_map, List.length_zipIdx, List.length_take]
       have h1 : (row n r).length ≤ (ties n).length := by
        exact row_le n r
       omega
      omega
     exact small' h1
    ·refine run_nil ⟨kvs, ks, (fun y => if y = z then some (a2, ts2 ++ [t]) else A' y), _, ?_, rfl⟩
     rw [next]
     exact S.old (e := (r, p)) hA hl0 ht2
   | none =>
    refine .inr ⟨by rw [S.val z, hA]; rfl, l0, rfl, ⟨_, by rw [upd_ne hdl.symm]; exact upd_same⟩, ?_⟩
    refine ev_tup (ea_cons (ev_v 2 (ea_cons (ev_v 3 (ea_nil ⟨(by show 2 ≤ sizeLine; decide), fun t ht2 => ?_⟩)))))
    have htl : l0 ≠ t := fun e => by rw [← e, upd_ne hdl.symm, upd_same] at ht2; cases ht2
    refine ⟨[], by rw [upd_ne htl, upd_ne hdl.symm, upd_same], by show 0 < sizeLine; decide, ?_⟩
    refine run_nil ⟨putK kvs (Sum.inr z) (.ref l0), ks ++ [z], (fun y => if y = z then some (l0, [t]) else A' y), _, ?_, rfl⟩
    rw [next]
    exact S.new (e := (r, p)) hA hl0 ht2
  ·rintro σ H4 ⟨kvs, ks, A', u2, S, rfl⟩
   refine run_nil ⟨kvs, ks, A', _, _, ?_, rfl⟩
   rw [seats_take hi]
   rwa [List.take_length] at S
 ·rintro σ H3 ⟨kvs, ks, A', u1, u2, S, rfl⟩
  rw [List.take_length] at S
  exact run_ret (ev_v 1 (q d ks H3 S.same S.free S.whole))
noncomputable abbrev NO : List Str := ["_law_rows", "_law_seats_here", "_law_end", "_law_pair"]
theorem scOther : FnScope NO ["_law_rows", "_law_seats_here", "_law_end"] (defScope sOther) := ⟨rfl, rfl, rfl, by decide +kernel, rfl, by decide +kernel, by decide +kernel⟩
theorem ok_other {f : Addr} {fd : FuncData} (F : Fun K "_law_other" "_law_other" sOther f fd) (T : Txt mg) : FnOk P w K mg base CX0 1 f fd ["_law_rows", "_law_seats_here", "_law_end"] spOther := by
 refine F.gb scOther (fun vs H Q E h => ?_) (fun b0 H vs Q E hr h => ?_)
 ·obtain ⟨R, d, t, as, n, ks, e, rfl, _⟩ := h
  rfl
 obtain ⟨R, d, t, as, n, ks, e, rfl, hR, hS, hT, ht, he, q⟩ := h
 have nd := scOther.nd
 have hu := hr.u100
 obtain ⟨z, hz⟩ := mem_ends.mp he
 have hlt := row_lt hz
 obtain ⟨a, ea, eat, et, el, er⟩ := hR.at hlt
 obtain ⟨kvs, h1, h2, h3⟩ := hS.dict
 obtain ⟨pa, ts, v1, v2, v3⟩ := h3 z (tie_mem hz)
 obtain ⟨x, y, hp, hxy, hor⟩ := pos_two hT hz
 rw [hp] at v3
 cases v3 with
 | cons x1 v3 =>
 cases v3 with
 | cons y1 v3 =>
 cases v3
 rename_i tx ty
 show Run _ _ _ [some (.ref R), some (.ref d), some (.ref t), none] H
 have hu1 := hr.u1
 refine run_set 3 nd (ev_dget hu1 (ev_v 1 (ev_ix ix_list (ev_ix ix_tup (ev_ix ix_list (ev_v 0 (ev_ix ix_tup (ev_v 2 (ev_int ⟨t, _, _, .int (e.1 : Int), rfl, rfl, SqT.of ht, rfl, R, _, _, .ref a.1, rfl, rfl, SqL.of hR.lst, eat, ev_int ⟨a.1, _, _, .ref a.2, rfl, rfl, SqT.of et, rfl, ?_⟩⟩)))))))))
 refine ev_ix ix_tup (ev_v 2 (ev_int ⟨t, _, _, .int (e.2 : Int), rfl, rfl, SqT.of ht, rfl, a.2, _, _, .str z, rfl, rfl, SqL.of el, at_strs hz, d, .ref pa, rfl, by rw [← v1]; exact DGet.k (k := Sum.inr z) h1, ?_⟩))
 show Run _ _ _ [some (.ref R), some (.ref d), some (.ref t), some (.ref pa)] H
 refine run_ret (ev_ix ix_list (ev_v 3 (ev_typ call_intB T.tint PyProof.Rows.boot_int (ea_cons (ev_cmp (op_eqD hu) (ev_ix ix_list (ev_v 3 (ev_int ⟨pa, _, _, .ref tx, rfl, rfl, SqL.of v2, rfl, ev_v 2 ⟨1, _, by decide, rcD_tp x1 ht, ?_⟩⟩))))))))
 by_cases c : x = e
 ·rw [decide_eq_true c]
  refine ea_nil ⟨_, rfl, pa, [.ref tx, .ref ty], 1, .ref ty, rfl, rfl, SqL.of v2, rfl, q ty ?_⟩
  have e1 : other n e = y := by unfold other; simp only [hz, hp]; simp [c]
  rw [e1]
  exact y1
 ·rw [decide_eq_false c]
  refine ea_nil ⟨_, rfl, pa, [.ref tx, .ref ty], 0, .ref tx, rfl, rfl, SqL.of v2, rfl, q tx ?_⟩
  have e1 : other n e = x := by unfold other; simp only [hz, hp]; simp [c]
  rw [e1]
  exact x1
noncomputable abbrev NT : List Str := ["_law_rows", "_law_seats_here", "_law_end", "_law_turn", "_law_other_here"]
theorem scStep : FnScope NT ["_law_rows", "_law_seats_here", "_law_end", "_law_turn"] (defScope sStep) := ⟨rfl, rfl, rfl, by decide +kernel, rfl, by decide +kernel, by decide +kernel⟩
theorem ok_step {f : Addr} {fd : FuncData} (F : Fun K "_law_step" "_law_step" sStep f fd) (T : Txt mg) (G : Has P w K mg base 1 "_law_other" ["_law_rows", "_law_seats_here", "_law_end"] spOther) :
  FnOk P w K mg base CX0 2 f fd ["_law_rows", "_law_seats_here", "_law_end", "_law_turn"] spStep := by
 refine F.gb scStep (fun vs H Q E h => ?_) (fun b0 H vs Q E hr h => ?_)
 ·obtain ⟨R, d, t, as, n, ks, e, rfl, _⟩ := h
  rfl
 obtain ⟨R, d, t, as, n, ks, e, rfl, hR, hS, hT, ht, he, q⟩ := h
 have nd := scStep.nd
 have ho := other_end hT he
 obtain ⟨z, hz⟩ := mem_ends.mp ho
 have hlt := row_lt hz
 have hpl := end_lt hz
 obtain ⟨a, ea, eat, et, el, er⟩ := hR.at hlt
 show Run _ _ _ [some (.ref R), some (.ref d), some (.ref t), some (.int 1), none] H
 refine run_set 4 nd (ev_has G hr (ea_cons (ev_v 0 (ea_cons (ev_v 1 (ea_cons (ev_v 2 (ea_nil ⟨R, d, t, as, n, ks, e, rfl, hR, hS, hT, ht, he, fun u hu => ?_⟩))))))))
 show Run _ _ _ [some (.ref R), some (.ref d), some (.ref t), some (.int 1), some (.ref u)] H
 refine run_ret (ev_tup (ea_cons (ev_ix ix_tup (ev_v 4 (ev_int ⟨u, _, _, .int ((other n e).1 : Int), rfl, rfl, SqT.of hu, rfl, ?_⟩)))))
 refine ea_cons (ev_op op_mod (ev_op op_add (ev_ix ix_tup (ev_v 4 (ev_int ⟨u, _, _, .int ((other n e).2 : Int), rfl, rfl, SqT.of hu, rfl, ev_v 3 ⟨_, _, rfl, rfl, ?_⟩⟩)))))
 refine ev_blt call_len_seq T.len boot_len (ea_cons (ev_ix ix_tup (ev_ix ix_list (ev_v 0 (ev_ix ix_tup (ev_v 4 (ev_int ⟨u, _, _, .int ((other n e).1 : Int), rfl, rfl, SqT.of hu, rfl, R, _, _, .ref a.1, rfl, rfl, SqL.of hR.lst, eat, ev_int ⟨a.1, _, _, .ref a.2, rfl, rfl, SqT.of et, rfl, ea_nil ⟨a.2, _, rfl, .inl (SqL.of el), ?_⟩⟩⟩)))))))
 rw [List.length_map]
 refine ⟨_, _, rfl, rfl, by omega, ea_nil ⟨(by show 2 ≤ sizeLine; decide), fun p hp => ?_⟩⟩
 refine q p _ (same_new hp _) hp ?_
 rw [upd_same]
 unfold Nt.step Nt.left
 show some (HO.tup [.int ((other n e).1 : Int), .int ((((other n e).2 : Int) + 1) % ((row n (other n e).1).length : Int))]) = some (HO.tup [.int ((other n e).1 : Int), .int ((((other n e).2 + 1) % (row n (other n e).1).length : Nat) : Int)])
 rw [Int.natCast_emod]
 rfl
noncomputable abbrev NF : List Str := ["_law_rows", "_law_seats_here", "_law_end", "_law_face_here", "_law_here"]
theorem scFace : FnScope NF ["_law_rows", "_law_seats_here", "_law_end"] (defScope sFace) := ⟨rfl, rfl, rfl, by decide +kernel, rfl, by decide +kernel, by decide +kernel⟩
noncomputable def orb (n : Net) (e : Nt.End) (j : Nat) : List Nt.End := (List.range j).map fun i => it (step n) i e
theorem orb_succ (n : Net) (e : Nt.End) (j : Nat) : orb n e (j + 1) = orb n e j ++ [it (step n) j e] := by
 unfold orb
 rw [List.range_succ, List.map_append]
 rfl
theorem ok_face {f : Addr} {fd : FuncData} (F : Fun K "_law_face" "_law_face" sFace f fd) (T : Txt mg) (G : Has P w K mg base 2 "_law_step" ["_law_rows", "_law_seats_here", "_law_end", "_law_turn"] spStep) :
  FnOk P w K mg base CX0 3 f fd ["_law_rows", "_law_seats_here", "_law_end"] spFace := by
 refine F.gb scFace (fun vs H Q E h => ?_) (fun b0 H vs Q E hr h => ?_)
 ·obtain ⟨R, d, t, as, n, ks, e, rfl, _⟩ := h
  rfl
 obtain ⟨R, d, t, as, n, ks, e, rfl, hR, hS, hT, ht, he, hb, q⟩ := h
 have nd := scFace.nd
 have hu := hr.u100
 obtain ⟨k, k0, k1, k2⟩ := comes_back (f := step n) (S := ends n) (fun a ha => step_end hT ha) (fun a ha b hb => step_inj hT ha hb) he
 show Run _ _ _ [some (.ref R), some (.ref d), some (.ref t), none, none] H
 refine run_set 3 nd (ev_lst (ea_cons (ev_v 2 (ea_nil ⟨(by show 1 ≤ sizeLine; decide), fun l hl => ?_⟩))))
 have g1 := same_new hl (.lst [.ref t])
 refine run_set 4 nd (ev_has G hr (ea_cons (ev_v 0 (ea_cons (ev_v 1 (ea_cons (ev_v 2 (ea_cons (ev_int (ea_nil ⟨R, d, t, as, n, ks, e, rfl, hR.same g1, hS.same g1, hT, g1 _ _ ht, he, fun u H1 s1 nu eu => ?_⟩))))))))))
 show Run _ _ _ [some (.ref R), some (.ref d), some (.ref t), some (.ref l), some (.ref u)] H1
 refine run_while (fun m σ H2 => ∃ (j : Nat) (ts : List Addr) (u : Addr), m = k - j ∧ 0 < j ∧ j ≤ k ∧ Same H H2 ∧ H2 l = some (.lst (ts.map V.ref)) ∧ Pd H2 ts (orb n e j) ∧ H2 u = some (Tp (it (step n) j e)) ∧ (∀ i, 0 < i → i < j → it (step n) i e ≠ e) ∧ σ = [some (.ref R), some (.ref d), some (.ref t), some (.ref l), some (.ref u)])
  (m0 := k - 1) ⟨1, [t], u, rfl, Nat.one_pos, k0, g1.trans s1, s1 _ _ upd_same, .cons (s1 _ _ (g1 _ _ ht)) .nil, eu, fun i h1 h2 => by omega, rfl⟩ ?_
 rintro m σ H2 ⟨j, ts, u, rfl, j0, j1, sH, el, ep, eu, hf, rfl⟩
 refine et_cmp (op_neD hu) (ev_v 4 (ev_v 2 ⟨1, _, by decide, rnD_tp eu (sH _ _ ht), _, rfl, ?_⟩))
 have pl := ep.length
 have ol : (orb n e j).length = j := by unfold orb; simp
 by_cases c : it (step n) j e = e
 ·rw [decide_eq_true c]
  refine iteF (run_ret (ev_v 3 (q l ts (orb n e j) H2 sH hl el ep ⟨by omega, by omega, fun i hi => ?_, by rw [ol]; exact c, fun i h1 h2 => hf i h1 (by omega)⟩)))
  unfold orb
  rw [List.getElem?_map, List.getElem?_range (by omega)]
  rfl
 ·rw [decide_eq_false c]
  have jk : j < k := by
   rcases Nat.lt_or_ge j k with h | h
   ·exact h
   ·have : j = k := by omega
    subst this
    exact absurd k2 c
  refine iteT (run_expr (ev_append (ev_v 3 ⟨l, rfl, ⟨_, el⟩, ev_v 4 ⟨_, el, by rw [List.length_map]; exact small' (by omega), ?_⟩⟩)))
  have s2 : Same H (upd H2 l (.lst (ts.map V.ref ++ [.ref u]))) := same_mut sH hl
  have kt : ∀ b f, H2 b = some (Tp f) → (upd H2 l (.lst (ts.map V.ref ++ [.ref u]))) b = some (Tp f) := fun b f h => by
   rw [upd_ne (tp_ne_lst h el)]
   exact h
  have eu2 := kt u _ eu
  refine run_set 4 nd (ev_has G hr (ea_cons (ev_v 0 (ea_cons (ev_v 1 (ea_cons (ev_v 4 (ea_cons (ev_int (ea_nil ⟨R, d, u, as, n, ks, it (step n) j e, rfl, hR.same s2, hS.same s2, hT, eu2, it_mem (fun a ha => step_end hT ha) he j, fun v H3 s3 nv ev => ?_⟩))))))))))
  refine run_nil ⟨k - (j + 1), by omega, j + 1, ts ++ [u], v, rfl, Nat.succ_pos _, jk, s2.trans s3, ?_, ?_, ev, fun i h1 h2 => ?_, rfl⟩
  ·rw [List.map_append]
   exact s3 _ _ upd_same
  ·rw [orb_succ]
   exact (ep.keep fun b f h => s3 _ _ (kt b f h)).append (.cons (s3 _ _ eu2) .nil)
  ·rcases Nat.lt_succ_iff_lt_or_eq.mp h2 with h | h
   ·exact hf i h1 h
   ·rw [h]; exact c
end
end M2
namespace Nt
open PySem L2
noncomputable def Full (n : Net) : Prop := (∃ nm, n = [(nm, [])]) ∨ (n ≠ [] ∧ ∀ i, i < n.length → row n i ≠ [])
noncomputable def Corner (n : Net) (c : End) : Prop := c.1 < n.length ∧ c.2 < max 1 (row n c.1).length
noncomputable def ins (n : Net) (c : End) (z : Str) : Net := n.modify c.1 fun r => (r.1, r.2.take c.2 ++ z :: r.2.drop c.2)
theorem ins_len (n : Net) (c : End) (z : Str) : (ins n c z).length = n.length := by unfold ins; rw [List.length_modify]
theorem ins_names (n : Net) (c : End) (z : Str) : (ins n c z).map (·.1) = n.map (·.1) := by
 unfold ins
 refine List.ext_getElem? fun i => ?_
 rw [List.getElem?_map, List.getElem?_map, List.getElem?_modify]
 cases n[i]? with
 | none => rfl
 | some r => by_cases h : c.1 = i <;> simp [h]
theorem row_ins (n : Net) (c : End) (z : Str) (i : Nat) (hc : c.1 < n.length) : row (ins n c z) i = if c.1 = i then (row n i).take c.2 ++ z :: (row n i).drop c.2 else row n i := by
 unfold row ins
 rw [List.getElem?_modify]
 by_cases h : c.1 = i
 ·subst h
  rw [List.getElem?_eq_getElem hc]
  simp
 ·rw [if_neg h]
  cases n[i]? with
  | none => simp [h]
  | some r => simp [h]
theorem ties_ins : ∀ (n : Net) (c : End) (z : Str), c.1 < n.length → (ties (ins n c z)).Perm (z :: ties n)
 | [], c, z, h => by simp at h
 | a :: n, (0, p), z, h => by
  unfold ins ties
  simp only [List.modify_zero_cons, List.flatMap_cons]
  have : (a.2.take p ++ z :: a.2.drop p).Perm (z :: a.2) := by
   refine List.perm_middle.trans ?_
   rw [List.take_append_drop]
  exact this.append_right _
 | a :: n, (i + 1, p), z, h => by
  have ih := ties_ins n (i, p) z (by simpa using h)
  unfold ins ties at ih ⊢
  simp only [List.modify_succ_cons, List.flatMap_cons]
  refine (ih.append_left a.2).trans ?_
  exact List.perm_middle
theorem full_ins {n : Net} {c : End} {z : Str} (F : Full n) (hc : c.1 < n.length) : n.length = 1 ∨ (∀ i, i < n.length → row n i ≠ []) → (∀ i, i < (ins n c z).length → row (ins n c z) i ≠ []) ∧ ins n c z ≠ [] := by
 intro h
 have hl := ins_len n c z
 refine ⟨fun i hi => ?_, fun e => ?_⟩
 ·rw [row_ins n c z i hc]
  by_cases q : c.1 = i
  ·rw [if_pos q]; simp
  ·rw [if_neg q]
   rcases h with h | h
   ·rw [hl] at hi
    omega
   ·exact h i (by omega)
 ·rw [e] at hl
  simp at hl
  omega
theorem Full.some {n : Net} (F : Full n) : n ≠ [] := by
 rcases F with ⟨nm, rfl⟩ | h
 ·simp
 ·exact h.1
theorem Full.either {n : Net} (F : Full n) : n.length = 1 ∨ (∀ i, i < n.length → row n i ≠ []) := by
 rcases F with ⟨nm, rfl⟩ | h
 ·exact .inl rfl
 ·exact .inr h.2
theorem Full.corner {n : Net} (F : Full n) (h0 : row n 0 ≠ []) {c : End} (hc : Corner n c) : c ∈ ends n := by
 rcases F with ⟨nm, rfl⟩ | h
 ·exact absurd rfl h0
 ·have := h.2 c.1 hc.1
  have hp : 0 < (row n c.1).length := List.length_pos_iff.mpr this
  have hlt : c.2 < (row n c.1).length := by
   have := hc.2
   omega
  exact mem_ends.mpr (end_of hlt)
theorem corner_of {n : Net} {e : End} (h : e ∈ ends n) : Corner n e := by
 obtain ⟨z, h⟩ := mem_ends.mp h
 have := end_lt h
 exact ⟨row_lt h, by omega⟩
noncomputable def Keep (H H' : Hp) (bad : List Addr) : Prop := ∀ b o, H b = some o → b ∉ bad → H' b = some o
theorem ls_ins (zs : List Str) (i : Nat) (z : Str) : insertAt (zs.map V.str) i (.str z) = (zs.take i ++ z :: zs.drop i).map V.str := by
 unfold insertAt
 rw [List.map_append, List.map_cons, List.map_take, List.map_drop]
theorem RowsAt.ins {H : Hp} {R : Addr} {as : List (Addr × Addr)} {n : Net} (h : RowsAt H R as n) {c : End} {z : Str} {a : Addr × Addr} (ha : as[c.1]? = some a) (hc : c.1 < n.length) :
  RowsAt (upd H a.2 (Ls ((row n c.1).take c.2 ++ z :: (row n c.1).drop c.2))) R as (Nt.ins n c z) := by
 have q0 := h.tup c.1 a n[c.1] ha (List.getElem?_eq_getElem hc)
 have hRa : R ≠ a.2 := by
  intro e
  have h1 := h.lst
  rw [e, q0.2] at h1
  have h2 := HO.lst.inj (Option.some.inj h1)
  have h3 := congrArg List.length h2
  cases hm : n[c.1].2 with
  | nil =>
   rw [hm] at h2
   have : as.map (fun a => V.ref a.1) = [] := h2.symm
   have hl := congrArg List.length this
   rw [List.length_map, h.len] at hl
   rw [hl] at hc
   exact absurd hc (Nat.not_lt_zero _)
  | cons y r =>
   rw [hm] at h2
   cases as with
   | nil => simp at h2
   | cons b bs =>
    simp at h2
 have er : row n c.1 = n[c.1].2 := by unfold row; rw [List.getElem?_eq_getElem hc]; rfl
 refine ⟨by rw [ins_len]; exact h.len, by rw [upd_ne hRa]; exact h.lst, fun i b r hb hr => ?_, h.inj⟩
 unfold Nt.ins at hr
 rw [List.getElem?_modify] at hr
 cases hn : n[i]? with
 | none => rw [hn] at hr; by_cases q : c.1 = i <;> simp [q] at hr
 | some r0 =>
  rw [hn] at hr
  have q1 := h.tup i b r0 hb hn
  have t1 : b.1 ≠ a.2 := ne_of q1.1 q0.2 fun e => nomatch e
  by_cases q : c.1 = i
  ·subst q
   rw [List.getElem?_eq_getElem hc] at hn
   cases hn
   rw [ha] at hb
   cases hb
   simp at hr
   subst hr
   refine ⟨by rw [upd_ne t1]; exact q1.1, ?_⟩
   rw [upd_same, er]
  ·simp [q] at hr
   subst hr
   have t2 : b.2 ≠ a.2 := fun e => by
    have l1 : i < as.length := (List.getElem?_eq_some_iff.mp hb).1
    have l2 : c.1 < as.length := (List.getElem?_eq_some_iff.mp ha).1
    have x1 : (as.map (·.2))[i]? = some b.2 := by rw [List.getElem?_map, hb]; rfl
    have x2 : (as.map (·.2))[c.1]? = some a.2 := by rw [List.getElem?_map, ha]; rfl
    obtain ⟨y1, z1⟩ := List.getElem?_eq_some_iff.mp x1
    obtain ⟨y2, z2⟩ := List.getElem?_eq_some_iff.mp x2
    exact q ((List.getElem_inj (h₀ := y2) (h₁ := y1) h.inj).mp (z2.trans (e.symm.trans z1.symm)))
   exact ⟨by rw [upd_ne t1]; exact q1.1, by rw [upd_ne t2]; exact q1.2⟩
theorem RowsAt.more {H : Hp} {R t l : Addr} {as : List (Addr × Addr)} {n : Net} {pt : Str} {zs : List Str} (h : RowsAt H R as n) (ht : H t = some (.tup [.str pt, .ref l])) (hl : H l = some (Ls zs)) (hn : l ∉ as.map (·.2)) (hR : l ≠ R) :
  RowsAt (upd H R (.lst (as.map (fun a => V.ref a.1) ++ [.ref t]))) R (as ++ [(t, l)]) (n ++ [(pt, zs)]) := by
 have hal := h.len
 refine ⟨by rw [List.length_append, List.length_append, hal]; rfl, by rw [upd_same, List.map_append]; rfl, fun i b r hb hr => ?_, ?_⟩
 ·rcases Nat.lt_or_ge i as.length with c | c
  ·rw [List.getElem?_append_left c] at hb
   rw [List.getElem?_append_left (by omega)] at hr
   have q := h.tup i b r hb hr
   have t1 : b.1 ≠ R := ne_of q.1 h.lst fun e => nomatch e
   have t2 : b.2 ≠ R := by
    intro e
    have h1 := h.lst
    rw [← e, q.2] at h1
    have h2 := HO.lst.inj (Option.some.inj h1)
    cases as with
    | nil => simp at c
    | cons b' bs =>
     cases hm : r.2 with
     | nil => rw [hm] at h2; simp at h2
     | cons y r => rw [hm] at h2; simp at h2
   exact ⟨by rw [upd_ne t1]; exact q.1, by rw [upd_ne t2]; exact q.2⟩
  ·have e : i = as.length := by
    have := (List.getElem?_eq_some_iff.mp hb).1
    rw [List.length_append] at this
    simp at this
    omega
   subst e
   rw [List.getElem?_append_right (Nat.le_refl _)] at hb
   rw [hal, List.getElem?_append_right (Nat.le_refl _)] at hr
   simp at hb hr
   subst hb hr
   have t1 : t ≠ R := ne_of ht h.lst fun e => nomatch e
   exact ⟨by rw [upd_ne t1]; exact ht, by rw [upd_ne hR]; exact hl⟩
 ·rw [List.map_append, List.nodup_append]
  exact ⟨h.inj, by simp, fun x hx y hy e => by simp at hy; subst hy e; exact hn hx⟩
theorem RowsAt.lists {H : Hp} {R : Addr} {as : List (Addr × Addr)} {n : Net} (h : RowsAt H R as n) {x : Addr × Addr} (hx : x ∈ as) : ∃ zs, H x.2 = some (Ls zs) := by
 obtain ⟨i, hi, e⟩ := List.mem_iff_getElem.mp hx
 have hl := h.len
 exact ⟨_, (h.tup i x (n[i]'(by omega)) (by rw [← e]; exact List.getElem?_eq_getElem hi) (List.getElem?_eq_getElem (by omega))).2⟩
theorem RowsAt.fresh {H : Hp} {R l : Addr} {as : List (Addr × Addr)} {n : Net} (h : RowsAt H R as n) (hl : H l = none) {x : Addr × Addr} (hx : x ∈ as) : l ≠ x.2 := by
 obtain ⟨zs, e⟩ := h.lists hx
 exact (ne_of_none e hl).symm
theorem ends_len (n : Net) : (ends n).length = (ties n).length := by
 unfold ends seats
 rw [List.length_map, ← seats_names n 0, List.length_map]
theorem IsFace.ends {n : Net} (T : Twice n) {e : End} {fs : List End} (h : IsFace n e fs) (he : e ∈ ends n) : ∀ c ∈ fs, c ∈ Nt.ends n := by
 intro c hc
 obtain ⟨i, hi, e2⟩ := List.mem_iff_getElem.mp hc
 have := h.at' i hi
 rw [List.getElem?_eq_getElem hi, e2] at this
 rw [Option.some.inj this]
 exact it_mem (fun a ha => step_end T ha) he i
theorem corner_ins {n : Net} {c k : End} {z : Str} (hc : Corner n c) (hk : k.1 < n.length) : Corner (ins n k z) c := by
 refine ⟨by rw [ins_len]; exact hc.1, ?_⟩
 rw [row_ins n k z c.1 hk]
 have := hc.2
 split
 ·rw [List.length_append, List.length_cons, List.length_take, List.length_drop]
  omega
 ·exact this
end Nt
namespace Nt
open PySem L2
noncomputable def dbl (zs : List Str) : List Str := zs.flatMap fun z => [z, z]
theorem dbl_count (y : Str) : ∀ zs : List Str, (dbl zs).count y = 2 * zs.count y
 | [] => rfl
 | z :: r => by
  unfold dbl
  rw [List.flatMap_cons]
  have ih := dbl_count y r
  unfold dbl at ih
  rw [List.count_append, ih, List.count_cons, List.count_cons, List.count_cons, List.count_nil]
  omega
theorem dbl_mem {y : Str} {zs : List Str} : y ∈ dbl zs ↔ y ∈ zs := by
 rw [← List.count_pos_iff, dbl_count, ← List.count_pos_iff]
 omega
theorem dbl_len : ∀ zs : List Str, (dbl zs).length = 2 * zs.length
 | [] => rfl
 | z :: r => by
  unfold dbl
  rw [List.flatMap_cons, List.length_append]
  have ih := dbl_len r
  unfold dbl at ih
  rw [ih, List.length_cons]
  simp
  omega
theorem dbl_snoc (zs : List Str) (z : Str) : dbl (zs ++ [z]) = dbl zs ++ [z, z] := by
 unfold dbl
 rw [List.flatMap_append]
 rfl
theorem twice_of {n : Net} {zs : List Str} (hn : zs.Nodup) (p : (ties n).Perm (dbl zs)) : Twice n := fun z hz => by
 rw [p.count_eq, dbl_count]
 have h1 : z ∈ zs := dbl_mem.mp (p.mem_iff.mp hz)
 rw [hn.count, if_pos h1]
noncomputable def NE (n : Net) : Prop := ∀ r ∈ n, r.2 ≠ []
theorem row_eq {n : Net} {i : Nat} (h : i < n.length) : row n i = n[i].2 := by unfold row; rw [List.getElem?_eq_getElem h]; rfl
theorem ne_full {n : Net} (h : NE n) (h0 : n ≠ []) : Full n := .inr ⟨h0, fun i hi => by rw [row_eq hi]; exact h _ (List.getElem_mem hi)⟩
theorem Full.ne {n : Net} (h : Full n) : (∃ nm, n = [(nm, [])]) ∨ NE n := by
 rcases h with h | ⟨_, h⟩
 ·exact .inl h
 ·refine .inr fun r hr => ?_
  obtain ⟨i, hi, rfl⟩ := List.mem_iff_getElem.mp hr
  have := h i hi
  rwa [row_eq hi] at this
theorem ties_erase : ∀ (n : Net) (k : Nat) (h : k < n.length), (ties n).Perm (n[k].2 ++ ties (n.eraseIdx k))
 | [], k, h => by simp at h
 | a :: n, 0, h => by unfold ties; simp
 | a :: n, k + 1, h => by
  have ih := ties_erase n k (by simpa using h)
  unfold ties at ih ⊢
  simp only [List.flatMap_cons, List.getElem_cons_succ, List.eraseIdx_cons_succ]
  refine (ih.append_left a.2).trans ?_
  rw [← List.append_assoc, ← List.append_assoc]
  exact List.perm_append_comm.append_right _
theorem names_erase (n : Net) (k : Nat) (h : k < n.length) : (n.map (·.1)).Perm (n[k].1 :: (n.eraseIdx k).map (·.1)) := by
 have := (SetT.pick_perm n k h).map (·.1)
 exact this.symm
theorem rot_perm (zs : List Str) (i : Nat) : (zs.drop i ++ zs.take i).Perm zs := by
 refine List.perm_append_comm.trans ?_
 rw [List.take_append_drop]
theorem RowsAt.upd {H : Hp} {R x : Addr} {as : List (Addr × Addr)} {n : Net} (h : RowsAt H R as n) {xs : List V} {o : HO} (hx : H x = some (.lst xs)) (hR : R ≠ x) (ha : ∀ a ∈ as, a.2 ≠ x) : RowsAt (upd H x o) R as n := by
 refine ⟨h.len, by rw [upd_ne hR]; exact h.lst, fun i a r h1 h2 => ?_, h.inj⟩
 have q := h.tup i a r h1 h2
 exact ⟨by rw [upd_ne (ne_of q.1 hx fun e => nomatch e)]; exact q.1, by rw [upd_ne (ha a (List.mem_of_getElem? h1))]; exact q.2⟩
theorem erase_at {α : Type} (l : List α) (k i : Nat) : (l.eraseIdx k)[i]? = if i < k then l[i]? else l[i + 1]? := by
 rw [List.getElem?_eraseIdx]
theorem RowsAt.erase {H : Hp} {R : Addr} {as : List (Addr × Addr)} {n : Net} (h : RowsAt H R as n) {k : Nat} (hk : k < n.length) :
  RowsAt (L2.upd H R (.lst ((as.map fun a => V.ref a.1).eraseIdx k))) R (as.eraseIdx k) (n.eraseIdx k) := by
 have hl := h.len
 refine ⟨by rw [List.length_eraseIdx, List.length_eraseIdx, hl], ?_, fun i a r h1 h2 => ?_, ?_⟩
 ·rw [upd_same]
  congr 2
  refine List.ext_getElem? fun i => ?_
  rw [erase_at, List.getElem?_map, List.getElem?_map, List.getElem?_map, erase_at]
  split <;> rfl
 ·rw [erase_at] at h1 h2
  have q : H a.1 = some (.tup [.str r.1, .ref a.2]) ∧ H a.2 = some (Ls r.2) := by
   by_cases c : i < k
   ·rw [if_pos c] at h1 h2
    exact h.tup i a r h1 h2
   ·rw [if_neg c] at h1 h2
    exact h.tup (i + 1) a r h1 h2
  have t2 : a.2 ≠ R := by
   intro e
   have h3 := h.lst
   rw [← e, q.2] at h3
   have h4 := HO.lst.inj (Option.some.inj h3)
   cases as with
   | nil => simp at hl; simp [← hl] at hk
   | cons b bs =>
    cases hm : r.2 with
    | nil => rw [hm] at h4; simp at h4
    | cons y r => rw [hm] at h4; simp at h4
  exact ⟨by rw [upd_ne (ne_of q.1 h.lst fun e => nomatch e)]; exact q.1, by rw [upd_ne t2]; exact q.2⟩
 ·have : ((as.eraseIdx k).map (·.2)).Sublist (as.map (·.2)) := (List.eraseIdx_sublist as k).map _
  exact h.inj.sublist this
theorem cut_from (zs : List Str) (i : Nat) : cutV (zs.map V.str) (some (i : Int)) none = (zs.drop i).map V.str := by
 unfold cutV
 rw [HT.sIx_nat, HT.sIx_none, List.length_map]
 rw [List.take_of_length_le (by rw [List.length_drop, List.length_map]; omega), List.map_drop]
 rcases Nat.le_total i zs.length with h | h
 ·rw [Nat.min_eq_left h]
 ·rw [Nat.min_eq_right h, List.drop_of_length_le (by simp), List.drop_of_length_le (by simpa using h)]
theorem cut_to (zs : List Str) (i : Nat) : cutV (zs.map V.str) none (some (i : Int)) = (zs.take i).map V.str := by
 unfold cutV
 rw [HT.sIx_nat, HT.sIx_none, List.length_map, List.drop_zero, Nat.sub_zero, List.map_take]
 rcases Nat.le_total i zs.length with h | h
 ·rw [Nat.min_eq_left h]
 ·rw [Nat.min_eq_right h, List.take_of_length_le (by simp), List.take_of_length_le (by simpa using h)]
end Nt
namespace L2
open PySem PySem.Spec PyProof.Rows
theorem is_kV {P : Program} {w : World} {k : Key} {u : Value} (h : (mixKind P w).is k u = true) : RelV (kV k) u := by
 rcases keyIs_shape h with ⟨i, t, rfl, rfl⟩ | ⟨x, t, rfl, rfl⟩ <;> exact ⟨t, rfl⟩
section
variable {X : Cx} {pins : List (Addr × Obj)} {σ : St} {H : Hp} {s : Shared}
theorem inv_freeze {d : Addr} {kvs : List (Key × V)} (I : Inv X pins σ H s) (e : H d = some (.dK kvs)) : ∃ o, s.heap.get? d = some o ∧ Inv X pins σ (upd H d (.frz o (.dK kvs))) s := by
 obtain ⟨z, hd, vs, rel, dd⟩ := dk_of I.hok e
 obtain ⟨o, es, ep, ho, rest⟩ := id dd
 refine ⟨o, ho, ?_⟩
 exact d_write (t' := s.toks) I (by rw [e]; exact True.intro) ⟨rfl, fun _ _ => rfl⟩ ⟨o, ho⟩ (show ObjOk X.prog X.w _ s.heap d (.frz o (.dK kvs)) from ⟨ho, z, hd, vs, rel, dd⟩)
noncomputable def Itk (d : Addr) (o : Obj) (kvs : List (Key × V)) : It :=
 ⟨fun i H => H d = some (.frz o (.dK kvs)) ∧ i < kvs.length, fun i H x H' => H' = H ∧ ∃ p, kvs[i]? = some p ∧ x = kV p.1, fun i H => H d = some (.frz o (.dK kvs)) ∧ kvs.length ≤ i⟩
theorem frz_at {P : Program} {w : World} {h : Heap} {d : Addr} {o : Obj} {es : Array DictEntry} {ep : Nat} {kvs : List (Key × V)} (hok : HOk P w H h) (e : H d = some (.frz o (.dK kvs))) (hd : o.data = .dict es ep) : ∃ vs, KV kvs vs ∧ h.DictAt (mixKind P w) d vs ep := by
 obtain ⟨ho, z, _, vs, rel, dd⟩ := (show ObjOk P w H h d (.frz o (.dK kvs)) from hok d _ e)
 obtain ⟨ep', o', es', ho', r1, r2, r3⟩ := dd.dictAt
 have : o = o' := Option.some.inj (ho.symm.trans ho')
 subst this
 rw [hd] at r2
 injection r2 with e1 e2
 subst e1
 subst e2
 exact ⟨vs, rel, o, es, ho', r1, hd, r3⟩
theorem turn_dict {P : Program} {w : World} {K : PySem.W.Frag} {tg : Expr} (d it : Addr) (o : Obj) (es : Array DictEntry) (ep : Nat) (kvs : List (Key × V)) (hod : o.data = .dict es ep) : Turn P w K tg (Itk d o kvs) [it] it (fun i h => h.IsKeyIter it d i kvs.length ep) where
 mem := by simp
 obj := fun i h st b hb => by
  have e : b = it := by simpa using hb
  subst e
  obtain ⟨o, e, c, d⟩ := st
  exact ⟨o, e, fun v z => by rw [d] at z; cases z⟩
 keep := fun i h h' st k => let ⟨o, ho, r⟩ := st; ⟨o, k it (by simp) o ho, r⟩
 item := by
  intro X hP hw hK hc i pins s σ H E I hf st hg
  subst hP hw hK
  obtain ⟨f0, f1, f2, f3, f4, f5⟩ := hf it (by simp)
  obtain ⟨hd, hi⟩ := hg
  obtain ⟨vs, rel, da⟩ := frz_at I.hok hd hod
  have hl := rel.length
  have hi' : i < vs.length := by omega
  have hx : vs[i]? = some vs[i] := List.getElem?_eq_getElem hi'
  rw [hl] at st
  refine wpAny_pyNext_dict_item (k := vs[i].1) (v := vs[i].2) st da hx fun key h' hk st' hs' => ?_
  have I1 : Inv X pins σ H { s with heap := h' } := I.turned (t' := s.toks) (fun b o hb e => hs'.extBut b o hb e) f0 f1 f3 f4 f5
  obtain ⟨o2, e2, c2, d2⟩ := id st'
  refine ⟨_, rfl, go_of (s := { s with heap := h' }) e2 c2 d2 (by decide) ⟨kV vs[i].1, H, I1, is_kV hk, ⟨rfl, kvs[i], List.getElem?_eq_getElem hi, ?_⟩, by rw [hl]; exact st', fun b hb => (hf b hb).1⟩⟩
  have ek := rel.keys
  have e3 : (kvs.map (·.1))[i]? = (vs.map (·.1))[i]? := by rw [ek]
  rw [List.getElem?_map, List.getElem?_map, List.getElem?_eq_getElem hi, hx] at e3
  have e4 : kvs[i].1 = vs[i].1 := Option.some.inj e3
  rw [e4]
 done := by
  intro X hP hw hK hc i pins s σ H E I hf st hg
  subst hP hw hK
  obtain ⟨f0, f1, f2, f3, f4, f5⟩ := hf it (by simp)
  obtain ⟨hd, hi⟩ := hg
  obtain ⟨vs, rel, da⟩ := frz_at I.hok hd hod
  have hl := rel.length
  rw [hl] at st
  exact wpAny_pyNext_dict_end (I.ok.hd hc) st da (by rw [List.getElem?_eq_none]; omega) fun h' eb => ⟨rfl, I.turned (t' := s.toks) (fun b o hb e => eb b o hb e) f0 f1 f3 f4 f5⟩
 self := fun _ _ _ _ _ st h => wpAny_pyIter_keyiter st h
end
section
variable {X : Cx} {elt tg : Expr} {ifs : List Expr} {scope : Scope} {σ : St} {H : Hp} {N' : List Str} {A a d : Addr} {xs : List V} {kvs : List (Key × V)} {after : Hp → Prop}
theorem comp_listP (Pv : Nat → St → Hp → Prop) (h0 : Pv 0 σ H) (hl : ∀ i σ' H', i ≤ xs.length → Pv i σ' H' → SqL X.K H' a xs)
  (hs : ∀ i x σ' H', xs[i]? = some x → Pv i σ' H' → CEg X N' scope tg x σ' H' fun σ2 H3 => CEi X N' scope ifs σ2 H3 fun b H4 =>
   if b = true then CEv X N' scope elt σ2 H4 fun v H5 => ∃ ys, H5 A = some (.lst ys) ∧ ys.length < sizeLine ∧ Pv (i + 1) σ2 (upd H5 A (.lst (ys ++ [v]))) else Pv (i + 1) σ2 H4)
  (hd : ∀ σ' H', Pv xs.length σ' H' → after H') : CompL X N' scope tg ifs elt (Itl X.K a) A after σ H := by
 refine ⟨fun i m σ' H' => m = xs.length - i ∧ i ≤ xs.length ∧ Pv i σ' H', ⟨_, rfl, Nat.zero_le _, h0⟩, ?_⟩
 rintro i m σ' H' ⟨rfl, hi, p⟩
 have q := hl i σ' H' hi p
 by_cases hlt : i < xs.length
 ·refine .inr ⟨⟨xs, xs[i], q, by simp [hlt]⟩, Pv (i + 1), fun σ' H' p' => ⟨xs.length - (i + 1), by omega, rfl, hlt, p'⟩, fun x H2 y => ?_⟩
  obtain ⟨e, y⟩ := y
  subst e
  exact hs i x σ' _ (y xs q) p
 ·have e : i = xs.length := by omega
  subst e
  exact .inl ⟨⟨xs, q, Nat.le_refl _⟩, hd σ' H' p⟩
theorem comp_filt {zs : List Str} (f : Str → Bool) (hz : zs.length < sizeLine) (ha : H a = some (.lst (zs.map V.str))) (hA : H A = none)
  (hg : ∀ cl C s₀ H₀ ex v v0 H' R, R (σ ++ [some v]) H' → Eg (cxComp X N' scope cl C s₀ H₀ ex) tg v (σ ++ [v0]) H' R)
  (hi : ∀ cl C s₀ H₀ ex z ys T, T (f z) (upd H A (.lst ys)) → Ei (cxComp X N' scope cl C s₀ H₀ ex) ifs (σ ++ [some (.str z)]) (upd H A (.lst ys)) T)
  (he : ∀ cl C s₀ H₀ ex z H' R, R (V.str z) H' → Ev (cxComp X N' scope cl C s₀ H₀ ex) elt (σ ++ [some (.str z)]) H' R) (q : after (upd H A (.lst ((zs.filter f).map V.str)))) :
  CompL X N' scope tg ifs elt (Itl X.K a) A after (σ ++ List.replicate 1 none) (upd H A (.lst [])) := by
 have ne : a ≠ A := ne_of_none ha hA
 refine comp_listP (xs := zs.map V.str) (fun k σ' H' => (∃ v, σ' = σ ++ [v]) ∧ H' = upd H A (.lst (((zs.take k).filter f).map V.str))) ⟨⟨none, rfl⟩, by simp⟩ ?_ ?_ ?_
 ·rintro i σ' H' _ ⟨_, rfl⟩
  exact SqL.of (by rw [upd_ne ne]; exact ha)
 ·rintro i x σ' H' hx ⟨⟨v, rfl⟩, rfl⟩
  rw [List.getElem?_map, Option.map_eq_some_iff] at hx
  obtain ⟨z, hz', rfl⟩ := hx
  intro cl C s₀ H₀ ex
  refine hg cl C s₀ H₀ ex _ _ _ _ ?_
  intro cl C s₀ H₀ ex
  refine hi cl C s₀ H₀ ex z _ _ ?_
  have e : (zs.take (i + 1)).filter f = (zs.take i).filter f ++ (if f z = true then [z] else []) := by
   rw [List.take_add_one, hz', List.filter_append]
   congr 1
   cases hf : f z <;> simp [hf]
  have hlen : ((zs.take i).filter f).length ≤ zs.length := Nat.le_trans (List.length_filter_le _ _) (by rw [List.length_take]; omega)
  by_cases hf : f z = true
  ·rw [if_pos hf]
   intro cl C s₀ H₀ ex
   refine he cl C s₀ H₀ ex z _ _ ⟨_, upd_same, by rw [List.length_map]; omega, ⟨_, rfl⟩, ?_⟩
   rw [upd_upd, e, if_pos hf, List.map_append]
   rfl
  ·rw [if_neg hf]
   refine ⟨⟨_, rfl⟩, ?_⟩
   rw [e, if_neg hf, List.append_nil]
 ·rintro σ' H' ⟨_, rfl⟩
  have e2 : zs.take (zs.map V.str).length = zs := List.take_of_length_le (by simp)
  rw [e2]
  exact q
theorem inV_strs (z : Str) (zs : List Str) : inV (.str z) (zs.map V.str) = zs.contains z := by
 unfold inV
 induction zs with
 | nil => rfl
 | cons y r ih =>
  rw [List.map_cons, List.any_cons, ih, List.contains_cons]
  congr 1
  show eqV (.str y) (.str z) = (z == y)
  by_cases h : y = z
  ·subst h; simp [eqV]
  ·have h' : z ≠ y := fun q => h q.symm
   show (y == z) = (z == y)
   rw [beq_eq_false_iff_ne.mpr h, beq_eq_false_iff_ne.mpr h']
theorem flat_strs (zs : List Str) : (zs.map V.str).all flatV = true := by
 rw [List.all_eq_true]
 intro x hx
 obtain ⟨z, _, rfl⟩ := List.mem_map.mp hx
 rfl
theorem Eg.mono {e : Expr} {v : V} {R R' : St → Hp → Prop} (h : Eg X e v σ H R) (f : ∀ σ' H', R σ' H' → R' σ' H') : Eg X e v σ H R' :=
 ⟨fun pins s u I r => thn (h.run pins s u I r) fun _ s' ⟨σ', H', I', q⟩ => ⟨σ', H', I', f σ' H' q⟩⟩
theorem eg_pair {e1 e2 : Expr} {k : Nat} {pos : Pos} {t : Addr} {x y : V} {R : St → Hp → Prop} (hc : X.calm = true) (ht : SqT X.K H t [x, y]) (h : Eg X e1 x σ H fun σ1 H1 => Eg X e2 y σ1 H1 R)
  (hn : (assignEach [e1, e2] X.env).length = 2 := by rfl) (hst : (assignEach [e1, e2] X.env).findIdx? (·.1) = none := by rfl)
  (hs1 : (assignEach [e1, e2] X.env).map (·.2) = assign e1 X.env :: (assignEach [e2] X.env).map (·.2) := by rfl) (hs2 : (assignEach [e2] X.env).map (·.2) = assign e2 X.env :: (assignEach [] X.env).map (·.2) := by rfl) :
  Eg X (.Tuple [e1, e2] k pos) (.ref t) σ H R :=
 eg_of (pg_tup (t := gCons (fun v σ H Q => Eg X e1 v σ H Q) (gCons (fun v σ H Q => Eg X e2 v σ H Q) gNil)) hc (pgs_cons pg_eg (pgs_cons pg_eg pgs_nil hs2) hs1) hn hst) ⟨t, _, rfl, ht, rfl, _, _, rfl, h.mono fun σ1 H1 h1 => ⟨_, _, rfl, h1.mono fun σ2 H2 q => ⟨rfl, q⟩⟩⟩
end
end L2
namespace PySem
theorem getAttr?_miss_list {prog : Program} {w : World} {A : Around} {E : Value → Shared → Prop} {s : Shared} {a : Addr} {o : Obj} {xs : Array Value} {k : Nat} {name : Str} {Q : Option Value → Shared → Prop}
  (hx : s.heap.get? a = some o) (hc : o.cls = .type "list") (hdat : o.data = .seq xs k) (hd : o.dict = none) (hmiss : typeLookup (.type "list") name = pure none) (hname : (["__module__", "__name__", "__qualname__", "__doc__", "__annotations__"] : List Str).contains name = false) (hA : A.handled = none)
  (h : ∀ h' tk e, Heap.NewExcOf s.heap h' e "AttributeError" → Q none { s with heap := h', toks := tk }) (hsz : name.length + 100 ≤ sizeLine := by size_fits) :
  wpAny (model prog w) A (getAttr? (.ref a) name) Q E s := by
 obtain ⟨c, dct, dat, sl⟩ := o
 simp only at hc hdat hd
 subst hc hdat hd
 obtain ⟨hp, g, d, tk, os⟩ := s
 have hT : ∀ tk', (⟨hp, g, d, tk', os⟩ : Shared).TypeIs (.ref a) "list" := fun _ => ⟨_, hx, rfl⟩
 have f1 := sub_AttributeError
 have f3 := F.slot_list_getattribute.lookup
 have f4 := F.slot_list_getattribute.bind (.ref a)
 have f5 := am_list_getattr_none
 unfold getAttr? getAttrBy? getAttrBy
 repeat (any_goals (first | assumption | exact hT _ | ((with_reducible show wpAny _ _ (call (Value.builtin "list.__getattribute__") _ _) _ _ _); refine call_meets F.slot_list_getattribute (hT _) am_entry_list_getattribute (F.args_list_getattribute_2 _ _) (meets_getattribute_miss_list a xs k sl name _ hmiss hname hsz) ⟨hx, hA, fun h' tk' e hx' => ?_⟩) | wp_step))
 obtain ⟨t', u', he⟩ := hx'.there
 show wpAny _ _ (getattributeRaised _ _ _ _ _ _ _) _ _ _
 unfold getattributeRaised
 repeat (any_goals (first | assumption | wp_step))
 exact h _ _ _ hx'.of
end PySem
namespace PySem
namespace F
theorem entry_dict_update_loop : entryFor table "dict.update.loop" = some Builtin.«dict.update.loop» := entryFor_of_tree (by kernel_rfl)
theorem plain_dict_update_loop : plainId "dict.update.loop" = true := by decide +kernel
theorem list_no_keys : typeLookup (.type "list") "keys" = pure none := by rw [typeLookup_type, builtinLookup_eq_fast]; kernel_rfl
end F
section
variable {prog : Program} {w : World} {K : Type} [DecidableEq K] {knd : KeyKind prog w K} {A : Around} {R : Result → Shared → Prop}
noncomputable def PairsAt (knd : KeyKind prog w K) (h : Heap) (items : List Value) (prs : List (K × Value)) : Prop :=
 items.length = prs.length ∧ ∀ (j : Nat) it, items[j]? = some it → ∃ T key k v o n, it = .ref T ∧ prs[j]? = some (k, v) ∧ knd.is k key = true ∧ h.get? T = some o ∧ o.cls = .type "tuple" ∧ o.data = .seq #[key, v] n
theorem length_stored (kvs : List (K × Value)) (k : K) (v : Value) : (stored kvs k v).length ≤ kvs.length + 1 := by
 unfold stored
 split
 ·rw [List.length_map]; omega
 ·rw [List.length_append]; simp
theorem pairs_loop {hB : Heap} {d I l : Addr} {items : List Value} {prs : List (K × Value)} (hd : hB.objs.size ≤ d) (hI : hB.objs.size ≤ I) (hdI : d ≠ I) (hl : hB.IsList l items.toArray) (hp : PairsAt knd hB items prs) (hn : items.length < sizeLine) (hh : A.handled = none) :
  ∀ (k i : Nat) (s : Shared) (acc : List (K × Value)), items.length - i = k → i ≤ items.length → (∀ b o, hB.get? b = some o → s.heap.get? b = some o) → s.heap.IsListIter I l i → s.heap.DictOf knd d acc → acc.length ≤ i →
   (∀ h' tk, (∀ b o, b ≠ I → b ≠ d → s.heap.get? b = some o → h'.get? b = some o) → h'.DictOf knd d ((prs.drop i).foldl (fun a p => stored a p.1 p.2) acc) → R (.ok (.ret .none)) { s with heap := h', toks := tk }) →
   codeAny (model prog w) A (.builtin "dict.update.loop" ⟨[.ref d, .ref I, rawInt i, .none], []⟩) R s := by
 have nb : ∀ b o, hB.get? b = some o → b ≠ I ∧ b ≠ d := fun b o e => ⟨Nat.ne_of_lt (Nat.lt_of_lt_of_le (Heap.lt_size e) hI), Nat.ne_of_lt (Nat.lt_of_lt_of_le (Heap.lt_size e) hd)⟩
 intro k
 induction k with
 | zero =>
  intro i s acc hk hi hkeep hst hD hal hR
  have hin : i = items.length := by omega
  refine codeAny_builtin F.entry_dict_update_loop ?_
  rw [Around.under_plainId F.plain_dict_update_loop _]
  show wpAny _ A.in1 (pyNext (.ref I) >>= _) _ _ s
  have hl' : s.heap.IsList l items.toArray := let ⟨o, ho, r⟩ := hl; ⟨o, hkeep _ _ ho, r⟩
  refine wpAny_bind (wpAny_pyNext_list_end hh hst hl' (by simp; omega) fun h' eb => ?_)
  show wpAny _ A.in1 (Builtin.Dict.addKeywords d [] >>= _) _ _ _
  refine wpAny_bind (wpAny_pure (wpAny_pure ?_))
  refine hR h' s.toks (fun b o hb _ e => eb b o hb e) ?_
  rw [List.drop_eq_nil_of_le (by have := hp.1; omega)]
  exact hD.extBut eb hdI
 | succ k ih =>
  intro i s acc hk hi hkeep hst hD hal hR
  have hlt : i < items.length := by omega
  have hx : items[i]? = some items[i] := List.getElem?_eq_getElem hlt
  obtain ⟨T, key, kk, v, o, n, e1, e2, e3, e4, e5, e6⟩ := hp.2 i _ hx
  rw [e1] at hx
  refine codeAny_builtin F.entry_dict_update_loop ?_
  rw [Around.under_plainId F.plain_dict_update_loop _]
  show wpAny _ A.in1 (pyNext (.ref I) >>= _) _ _ s
  have hl' : s.heap.IsList l items.toArray := let ⟨o, ho, r⟩ := hl; ⟨o, hkeep _ _ ho, r⟩
  refine wpAny_bind (wpAny_pyNext_list_item hst hl' (x := .ref T) (by simpa using hx) fun h' st' sb => ?_)
  have eT : h'.get? T = some o := (sb.2 T (nb T o e4).1).trans (hkeep _ _ e4)
  refine wpAny_bind (wpAny_holding (wpAny_bind (wpAny_tryCatch ?_)))
  unfold Builtin.Dict.pairItems
  refine wpAny_bind (wpAny_typeOf (T := "tuple") ⟨o, eT, e5⟩ ?_)
  rw [if_pos (by decide)]
  refine wpAny_bind (wpAny_seqItems (s := { s with heap := h' }) eT e6 (wpAny_pure ?_))
  show wpAny _ _ (holding [key, v] (dictSet d key v)) _ _ _
  refine wpAny_holding (wpAny_dictSet_pairs (knd := knd) (s := { s with heap := h' }) (k := kk) e3 (hD.extBut sb.extBut hdI) (fun h2 D2 sb2 => ?_) (by omega))
  refine wpAny_pure ⟨plainId_quiet F.plain_dict_update_loop _, ?_⟩
  have hki : ∀ b o, b ≠ I → b ≠ d → s.heap.get? b = some o → h2.get? b = some o := fun b o h1 h3 e => (sb2.2 b h3).trans ((sb.2 b h1).trans e)
  refine ih (i + 1) { s with heap := h2, toks := s.toks + 1 } (stored acc kk v) (by omega) hlt (fun b o e => hki b o (nb b o e).1 (nb b o e).2 (hkeep _ _ e)) (st'.extBut sb2.extBut (Ne.symm hdI)) D2 (by have := length_stored acc kk v; omega) fun h3 tk k3 D3 => ?_
  refine hR h3 tk (fun b o h1 h2' e => k3 b o h1 h2' (hki b o h1 h2' e)) ?_
  have e7 : prs.drop i = (kk, v) :: prs.drop (i + 1) := by
   obtain ⟨hj, e8⟩ := List.getElem?_eq_some_iff.mp e2
   rw [List.drop_eq_getElem_cons hj, e8]
  rw [e7]
  exact D3
theorem call_dict_pairs {E : Value → Shared → Prop} {s : Shared} {Q : Value → Shared → Prop} {l : Addr} {ol : Obj} {nl : Nat} {items : List Value} {prs : List (K × Value)} (ho : s.heap.get? l = some ol) (hc : ol.cls = .type "list") (hod : ol.dict = none) (hdt : ol.data = .seq items.toArray nl) (hp : PairsAt knd s.heap items prs) (hn : items.length < sizeLine) (hh : A.handled = none)
  (h : ∀ h' tk, (∀ b o, s.heap.get? b = some o → h'.get? b = some o) → h'.DictOf knd s.heap.objs.size (prs.foldl (fun a p => stored a p.1 p.2) []) → Q (.ref s.heap.objs.size) { s with heap := h', toks := tk }) :
  wpAny (model prog w) A (call (.type "dict") [.ref l]) Q E s := by
 refine callType_codes (Q₁ := fun obj s₁ => obj = .ref s.heap.objs.size ∧ s₁ = { s with heap := s.heap.push { cls := .type "dict", data := .dict #[] } }) F.kt_called_dict (F.kt_typeCall_dict_1 _) F.entry_dict_init (kt_code_dict_new _ ⟨rfl, rfl⟩) ?_
 rintro obj s₁ ⟨rfl, rfl⟩
 have hnew : (s.heap.push { cls := .type "dict", data := .dict #[] }).DictOf knd s.heap.objs.size [] := Heap.DictOf.new s.heap
 have ho' : (s.heap.push { cls := .type "dict", data := .dict #[] }).get? l = some ol := Heap.get?_push_of_some _ ho
 refine ⟨hnew.typeIs, F.args_dict_init_2 _ _, ?_⟩
 unfold Builtin.«dict.__init__»
 refine wpAny_bind ?_
 unfold Builtin.Dict.selfAndRest
 refine wpAny_bind (wpAny_notOrdered_dict hnew.typeIs ?_)
 show wpAny _ _ (pure (s.heap.objs.size, [Value.ref l])) _ _ _
 refine wpAny_pure ?_
 show wpAny _ _ (Builtin.Dict.updateFrom "dict.__init__" s.heap.objs.size (.ref l) [] .none) _ _ _
 unfold Builtin.Dict.updateFrom
 refine wpAny_bind (wpAny_typeOf (T := "list") ⟨ol, ho', hc⟩ ?_)
 rw [if_pos (by decide)]
 refine wpAny_bind (getAttr?_miss_list ho' hc hdt hod F.list_no_keys (by decide) (by exact hh) (fun h' tk e ne => ?_))
 rw [if_pos (show (none : Option Value).isNone = true from rfl)]
 have kp : ∀ b o, s.heap.get? b = some o → h'.get? b = some o := fun b o e => ne.keeps b o (Heap.get?_push_of_some _ e)
 refine wpAny_bind (wpAny_rule ?_)
 have hL : h'.IsList l items.toArray := ⟨ol, kp _ _ ho, hc, nl, hdt⟩
 refine wpAny_bind (wpAny_pyIter_list hL ?_)
 refine wpAny_pure ⟨plainId_quiet F.plain_dict_update_loop _, ?_⟩
 have hD' : h'.DictOf knd s.heap.objs.size [] := let ⟨o, es, ep, ho, r⟩ := hnew; ⟨o, es, ep, ne.keeps _ _ ho, r⟩
 have hlt : s.heap.objs.size < h'.objs.size := let ⟨o, es, ep, ho, r⟩ := hD'; Heap.lt_size ho
 refine pairs_loop (hB := s.heap) (d := s.heap.objs.size) (I := h'.objs.size) (l := l) (Nat.le_refl _) (Nat.le_of_lt hlt) (Nat.ne_of_lt hlt) ⟨ol, ho, hc, nl, hdt⟩ hp hn (by exact hh) _ 0 _ [] rfl (Nat.zero_le _) (fun b o e => Heap.get?_push_of_some _ (kp b o e)) ⟨_, Heap.get?_push_size _ rfl, rfl, rfl⟩ (hD'.push _) (Nat.zero_le _) fun h2 tk2 k2 D2 => ?_
 refine ⟨rfl, h h2 tk2 (fun b o e => k2 b o (Nat.ne_of_lt (Heap.lt_size (kp b o e))) (Nat.ne_of_lt (Heap.lt_size e)) (Heap.get?_push_of_some _ (kp b o e))) D2⟩
end
end PySem
namespace L2
open PySem PySem.Spec PyProof.Rows
section
variable {X : Cx} {pins : List (Addr × Obj)} {σ : St} {H : Hp} {s : Shared}
theorem fold_stored {kvs : List (Key × V)} : ∀ {ps : List (Key × V)} {acc : List (Key × Value)} {rs : List (Key × Value)}, KV ps acc → KV kvs rs → KV (kvs.foldl (fun a p => putK a p.1 p.2) ps) (rs.foldl (fun a p => stored a p.1 p.2) acc) := by
 induction kvs with
 | nil => intro ps acc rs h g; cases g; exact h
 | cons p r ih =>
  intro ps acc rs h g
  cases g with
  | @cons _ q _ r' hq hr =>
   obtain ⟨e1, e2⟩ := hq
   rw [List.foldl_cons, List.foldl_cons]
   refine ih ?_ hr
   rw [← e1]
   exact h.put p.1 e2
theorem pairs_ex {P : Program} {w : World} {h : Heap} : ∀ {kvs : List (Key × V)} {ts : List Addr}, ts.length = kvs.length → (∀ (j : Nat) t kv, ts[j]? = some t → kvs[j]? = some kv → ∃ key v o m, (mixKind P w).is kv.1 key = true ∧ RelV kv.2 v ∧ h.get? t = some o ∧ o.cls = .type "tuple" ∧ o.data = .seq #[key, v] m) →
  ∃ rs : List (Key × Value), KV kvs rs ∧ ∀ (j : Nat) t, ts[j]? = some t → ∃ key k v o m, rs[j]? = some (k, v) ∧ (mixKind P w).is k key = true ∧ h.get? t = some o ∧ o.cls = .type "tuple" ∧ o.data = .seq #[key, v] m
 | [], ts, hl, _ => by
  have : ts = [] := List.length_eq_zero_iff.mp hl
  subst this
  exact ⟨[], .nil, fun j t h => by simp at h⟩
 | kv :: r, [], hl, _ => by simp at hl
 | kv :: r, t :: ts, hl, hp => by
  obtain ⟨key, v, o, m, q1, q2, q3, q4, q5⟩ := hp 0 t kv rfl rfl
  obtain ⟨rs, hk, hr⟩ := pairs_ex (kvs := r) (ts := ts) (by simpa using hl) fun j t kv h1 h2 => hp (j + 1) t kv (by simpa using h1) (by simpa using h2)
  refine ⟨(kv.1, v) :: rs, .cons ⟨rfl, q2⟩ hk, fun j t' ht => ?_⟩
  cases j with
  | zero =>
   cases ht
   exact ⟨key, kv.1, v, o, m, rfl, q1, q3, q4, q5⟩
  | succ j =>
   obtain ⟨key, k, v, o, m, e, z⟩ := hr j t' (by simpa using ht)
   exact ⟨key, k, v, o, m, by simpa using e, z⟩
theorem call_dict_list (hc : X.calm = true) : CallR X (.type "dict") (fun xs H Q => ∃ (a : Addr) (ts : List Addr) (kvs : List (Key × V)), xs = [.ref a] ∧ H a = some (.lst (ts.map V.ref)) ∧ ts.length = kvs.length ∧ ts.length < sizeLine ∧ (∀ (j : Nat) t kv, ts[j]? = some t → kvs[j]? = some kv → H t = some (.tup [kV kv.1, kv.2])) ∧
  ∀ d, H d = none → Q (.ref d) (upd H d (.dK (kvs.foldl (fun a p => putK a p.1 p.2) [])))) := by
 intro pins s σ H xs us Q I r h
 obtain ⟨a, ts, kvs, rfl, hH, hl, hz, ht, q⟩ := h
 obtain ⟨u, rfl, ru⟩ := vals1 r
 cases (show u = Value.ref a from ru)
 obtain ⟨z, its, n, rv, e⟩ := (show ObjOk X.prog X.w H s.heap a (.lst (ts.map V.ref)) from I.hok a _ hH)
 have hil := rv.length
 rw [List.length_map] at hil
 have its_at : ∀ (j : Nat) t, ts[j]? = some t → its[j]? = some (.ref t) := fun j t hj => by
  obtain ⟨u, hu, ru⟩ := rv.get (i := j) (x := .ref t) (by rw [List.getElem?_map, hj]; rfl)
  cases (show u = Value.ref t from ru)
  exact hu
 have pair : ∀ (j : Nat) t kv, ts[j]? = some t → kvs[j]? = some kv → ∃ key v o m, (mixKind X.prog X.w).is kv.1 key = true ∧ RelV kv.2 v ∧ s.heap.get? t = some o ∧ o.cls = .type "tuple" ∧ o.data = .seq #[key, v] m := fun j t kv h1 h2 => by
  obtain ⟨z2, its2, rv2, o, eo, co, m, dm⟩ := (show ObjOk X.prog X.w H s.heap t (.tup [kV kv.1, kv.2]) from I.hok t _ (ht j t kv h1 h2))
  obtain ⟨key, v, e3, r1, r2⟩ := rv2.two
  refine ⟨key, v, o, m, kV_is r1, r2, eo, co, ?_⟩
  rw [dm, e3]
 obtain ⟨rs, hk, hr⟩ := pairs_ex hl pair
 have hkl := hk.length
 have hP : PairsAt (mixKind X.prog X.w) s.heap its rs := by
  refine ⟨by omega, fun j it hj => ?_⟩
  have hjl : j < ts.length := by have := (List.getElem?_eq_some_iff.mp hj).1; omega
  have htj : ts[j]? = some ts[j] := List.getElem?_eq_getElem hjl
  have e2 := its_at j _ htj
  rw [hj] at e2
  obtain ⟨key, k, v, o, m, q1, q2, q3, q4, q5⟩ := hr j _ htj
  exact ⟨ts[j], key, k, v, o, m, Option.some.inj e2, q1, q2, q3, q4, q5⟩
 refine call_dict_pairs (knd := mixKind X.prog X.w) e rfl rfl rfl hP (by omega) (I.ok.hd hc) fun h' tk kp D => ?_
 have hlen : ∀ (l : List (Key × V)) (a : List (Key × V)), (l.foldl (fun a p => putK a p.1 p.2) a).length ≤ a.length + l.length := by
  intro l
  induction l with
  | nil => intro a; exact Nat.le_refl _
  | cons p r ih =>
   intro a
   rw [List.foldl_cons, List.length_cons]
   have h1 := ih (putK a p.1 p.2)
   have h2 := length_putK a p.1 p.2
   omega
 have hb := I.big
 refine ⟨.ref s.heap.objs.size, _, I.laid (t' := tk) kp (Nat.le_refl _) (show ObjOk X.prog X.w _ h' _ (.dK (kvs.foldl (fun a p => putK a p.1 p.2) [])) from ⟨?_, ?_, _, fold_stored (kvs := kvs) (ps := []) (acc := []) .nil hk, D⟩), rfl, q _ (I.hok.fresh (Nat.le_refl _))⟩
 ·have := hlen kvs []
  rw [List.length_nil] at this
  omega
 ·exact beq_eq_false_iff_ne.mpr (Nat.ne_of_gt hb)
end
end L2
namespace L2
open PySem PySem.Spec PyProof.Rows
section
variable {X : Cx} {pins : List (Addr × Obj)} {σ : St} {H : Hp} {s : Shared} {h' : Heap}
theorem Inv.turnedL {t' : Nat} {ch : List Addr} (I : Inv X pins σ H s) (hf : ∀ b ∈ ch, FpOk X pins H b) (k : ∀ b o, b ∉ ch → s.heap.get? b = some o → h'.get? b = some o) : Inv X pins σ H { s with heap := h', toks := t' } := by
 have nit : ∀ b u, H b = some u → b ∉ ch := fun b u e z => by rw [(hf b z).1] at e; cases e
 refine I.step (g' := s.gens) (d' := s.drawn) (ch := ch) (fun b hb => ?_) (fun b o _ _ hc e _ => k b o hc e) (fun b o _ _ hc e _ => ⟨o.slots, k b o hc e⟩) (fun _ _ _ _ n => n)
  (fun b o hc e => ⟨o, k b o hc e⟩) (fun _ _ e => e) (fun _ _ _ e => e) (fun b ps e => ⟨#[], by rw [e]; simp⟩) (fun m hm => ?_) (fun b u e => ?_) I.bare
 ·obtain ⟨f0, f1, f2, f3, f4, f5⟩ := hf b hb
  exact ⟨f3, f1, f4, f5⟩
 ·obtain ⟨o, es, ep, ho, r⟩ := hm
  exact ⟨o, es, ep, k _ o (fun z => (hf _ z).2.1 rfl) ho, r⟩
 ·refine (I.hok b u e).stay (fun c v hc q => k c v ?_ q) (fun _ q => q) fun _ _ q => q
  rcases hc with z | z
  ·rw [z]; exact nit b u e
  ·exact nit c _ z
noncomputable def Itz (K : PySem.W.Frag) (a b : Addr) : It :=
  ⟨fun i H => ∃ xs ys x y, SqL K H a xs ∧ SqL K H b ys ∧ xs[i]? = some x ∧ ys[i]? = some y,
   fun i H v H' => ∃ T x y, H T = none ∧ v = .ref T ∧ H' = upd H T (.tup [x, y]) ∧ (∀ xs, SqL K H a xs → xs[i]? = some x) ∧ ∀ ys, SqL K H b ys → ys[i]? = some y,
   fun i H => ∃ xs ys, SqL K H a xs ∧ SqL K H b ys ∧ (xs.length ≤ i ∨ ys.length ≤ i)⟩
noncomputable def ZipTn (m a b : Addr) (i : Nat) (h : Heap) : Prop :=
 IsZip h (m + 4) (m + 2) (m + 3) .none ∧ IsPair h (m + 2) (.ref m) (.ref (m + 1)) ∧ (∃ x y, IsPair h (m + 3) x y) ∧ h.IsListIter m a i ∧ h.IsListIter (m + 1) b i
theorem zip_apart {h : Heap} {m a b : Addr} {i : Nat} {xs ys : Array Value} (z : ZipTn m a b i h) (ha : h.IsList a xs) (hb : h.IsList b ys) : ZipApart (m + 4) (m + 2) (m + 3) m (m + 1) a b := by
  obtain ⟨z1, z2, ⟨x, y, z3⟩, ⟨o4, e4, c4, _⟩, ⟨o5, e5, c5, _⟩⟩ := z
  have cls : ∀ {l : Addr} {vs : Array Value} {c : Addr} {o : Obj}, h.IsList l vs → h.get? c = some o → o.cls ≠ .type "list" → l ≠ c := fun hl hc hn e => by
    obtain ⟨ol, hol, hcl, _⟩ := hl
    rw [e, hc] at hol
    cases hol
    exact hn hcl
  exact { TIz := by simp, TOz := by simp, i1z := by simp, i2z := by simp, TITO := by simp, TIi1 := by simp, TIi2 := by simp, TOi1 := by simp, TOi2 := by simp, i12 := by simp
          l1z := cls ha z1 (by show Value.type "zip" ≠ Value.type "list"; decide), l1TO := cls ha z3 (by show Value.type "tuple" ≠ Value.type "list"; decide), l1i1 := cls ha e4 (by rw [c4]; decide), l1i2 := cls ha e5 (by rw [c5]; decide)
          l2z := cls hb z1 (by show Value.type "zip" ≠ Value.type "list"; decide), l2TO := cls hb z3 (by show Value.type "tuple" ≠ Value.type "list"; decide), l2i1 := cls hb e4 (by rw [c4]; decide), l2i2 := cls hb e5 (by rw [c5]; decide) }
theorem turn_zip {P : Program} {w : World} {K : PySem.W.Frag} {elts : List Expr} {k : Nat} {tp : Pos} (m a b : Addr) : Turn P w K (.Tuple elts k tp) (Itz K a b) [m, m + 1, m + 2, m + 3, m + 4] (m + 4) (ZipTn m a b) where
 mem := by simp
 obj := fun i h st c hc => by
  obtain ⟨z1, z2, ⟨x, y, z3⟩, ⟨o4, e4, c4, d4⟩, ⟨o5, e5, c5, d5⟩⟩ := st
  simp only [List.mem_cons, List.not_mem_nil, or_false] at hc
  rcases hc with rfl | rfl | rfl | rfl | rfl
  ·exact ⟨_, e4, fun v z => by rw [d4] at z; cases z⟩
  ·exact ⟨_, e5, fun v z => by rw [d5] at z; cases z⟩
  ·exact ⟨_, z2, fun v z => by cases z⟩
  ·exact ⟨_, z3, fun v z => by cases z⟩
  ·exact ⟨_, z1, fun v z => by cases z⟩
 keep := fun i h h' st kp => by
  obtain ⟨z1, z2, ⟨x, y, z3⟩, ⟨o4, e4, r4⟩, ⟨o5, e5, r5⟩⟩ := st
  exact ⟨kp _ (by simp) _ z1, kp _ (by simp) _ z2, ⟨x, y, kp _ (by simp) _ z3⟩, ⟨o4, kp _ (by simp) _ e4, r4⟩, ⟨o5, kp _ (by simp) _ e5, r5⟩⟩
 item := by
  intro X hP hw hK hc i pins s σ H E I hf st hg
  subst hP hw hK
  obtain ⟨xs, ys, x, y, hxs, hys, hx, hy⟩ := hg
  obtain ⟨its1, rv1, p1, hz1⟩ := I.list hxs
  obtain ⟨its2, rv2, p2, hz2⟩ := I.list hys
  obtain ⟨u1, hu1, ru1⟩ := rv1.get hx
  obtain ⟨u2, hu2, ru2⟩ := rv2.get hy
  have D := zip_apart st p1.isList p2.isList
  obtain ⟨z1, z2, ⟨x0, y0, z3⟩, z4, z5⟩ := id st
  refine wpAny_pyNext_zip_item D z1 z2 z3 z4 z5 p1.isList p2.isList (x := u1) (y := u2) (by simpa using hu1) (by simpa using hu2) fun h' a1 a2 a3 a4 a5 a6 kp => ?_
  have hT : H s.heap.objs.size = none := I.hok.fresh (Nat.le_refl _)
  have nT : ∀ c ∈ [m, m + 1, m + 2, m + 3, m + 4], c ≠ s.heap.objs.size := fun c hc' => by
   have : ∃ o, s.heap.get? c = some o := by
    obtain ⟨o4, e4, _⟩ := z4
    obtain ⟨o5, e5, _⟩ := z5
    simp only [List.mem_cons, List.not_mem_nil, or_false] at hc'
    rcases hc' with rfl | rfl | rfl | rfl | rfl
    ·exact ⟨_, e4⟩
    ·exact ⟨_, e5⟩
    ·exact ⟨_, z2⟩
    ·exact ⟨_, z3⟩
    ·exact ⟨_, z1⟩
   obtain ⟨o, e⟩ := this
   exact Nat.ne_of_lt (Heap.lt_size e)
  have I1 : Inv X pins σ (upd H s.heap.objs.size (.tup [x, y])) { s with heap := s.heap.push { cls := .type "tuple", data := .seq #[u1, u2] } } :=
   I.laid (t' := s.toks) (fun b o e => Heap.get?_push_of_some _ e) (Nat.le_refl _) (show ObjOk X.prog X.w _ _ _ (.tup [x, y]) from ⟨(by show 2 ≤ sizeLine; decide), [u1, u2], .cons ru1 (.cons ru2 .nil), ⟨_, Heap.get?_push_size _ rfl, rfl, _, rfl⟩⟩)
  have f1 : ∀ c ∈ [m, m + 1, m + 2, m + 3, m + 4], FpOk X pins (upd H s.heap.objs.size (.tup [x, y])) c := fun c hc' => ⟨by rw [upd_ne (nT c hc')]; exact (hf c hc').1, (hf c hc').2⟩
  have kp2 : ∀ c o, c ∉ [m, m + 1, m + 2, m + 3, m + 4] → (s.heap.push { cls := .type "tuple", data := .seq #[u1, u2] }).get? c = some o → h'.get? c = some o := fun c o hc' e => by
   rcases Heap.get?_push_cases e with ⟨ec, eo⟩ | e'
   ·rw [ec, eo]
    exact a5
   ·simp only [List.mem_cons, List.not_mem_nil, or_false, not_or] at hc'
    exact kp c o hc'.2.2.2.2 hc'.2.2.2.1 hc'.1 hc'.2.1 e'
  have I2 := Inv.turnedL (h' := h') (t' := s.toks) I1 f1 kp2
  refine ⟨_, rfl, wpAny_letOwnedTupleGo_zip (s := { s with heap := h' }) a1 fun h2 b1 sb => ?_⟩
  have z2' : IsPair h' (m + 2) (.ref m) (.ref (m + 1)) := kp _ _ (by simp) (by simp) (by simp) (by simp) z2
  have kp3 : ∀ c o, c ∉ [m + 4] → h'.get? c = some o → h2.get? c = some o := fun c o hc' e => (sb.2 c (by simpa using hc')).trans e
  have I3 := Inv.turnedL (h' := h2) (t' := s.toks) I2 (ch := [m + 4]) (fun c hc' => f1 c (by simp at hc'; simp [hc'])) kp3
  refine ⟨.ref s.heap.objs.size, _, I3, rfl, ⟨_, x, y, hT, rfl, rfl, fun zs hz => by rw [I.list_inj hz hxs]; exact hx, fun zs hz => by rw [I.list_inj hz hys]; exact hy⟩, ?_, fun c hc' => (f1 c hc').1⟩
  have sx : ∀ c o, c ≠ m + 4 → h'.get? c = some o → h2.get? c = some o := fun c o hc' e => (sb.2 c hc').trans e
  obtain ⟨o3, e3, r3⟩ := a3
  obtain ⟨o4, e4, r4⟩ := a4
  exact ⟨b1, sx _ _ (by simp) z2', ⟨u1, u2, sx _ _ (by simp) a2⟩, ⟨o3, sx _ _ (by simp) e3, r3⟩, ⟨o4, sx _ _ (by simp) e4, r4⟩⟩
 done := by
  intro X hP hw hK hc i pins s σ H E I hf st hg
  subst hP hw hK
  obtain ⟨xs, ys, hxs, hys, hend⟩ := hg
  obtain ⟨its1, rv1, p1, hz1⟩ := I.list hxs
  obtain ⟨its2, rv2, p2, hz2⟩ := I.list hys
  have l1 := rv1.length
  have l2 := rv2.length
  have D := zip_apart st p1.isList p2.isList
  obtain ⟨z1, z2, ⟨x0, y0, z3⟩, z4, z5⟩ := id st
  refine wpAny_pyNext_zip_end (I.ok.hd hc) D z1 z2 z3 z4 z5 p1.isList p2.isList ?_ fun h' kp => ⟨rfl, I.turnedL (t' := s.toks) (ch := [m, m + 1, m + 2, m + 3, m + 4]) hf fun c o hc' e => ?_⟩
  ·rcases hend with h | h
   ·exact .inl (by simp; omega)
   ·exact .inr (by simp; omega)
  ·simp only [List.mem_cons, List.not_mem_nil, or_false, not_or] at hc'
   exact kp c o hc'.2.2.2.2 hc'.2.2.2.1 hc'.1 hc'.2.1 e
 self := fun _ _ _ _ _ st h => wpAny_pyIter_zip st.1 h
end
section
variable {X : Cx}
noncomputable def iZip (K : PySem.W.Frag) (ta : TA) : TI := fun σ H R => ta σ H fun vs H1 => ∃ a b, vs = [.ref a, .ref b] ∧ (∃ xs, SqL K H1 a xs) ∧ (∃ ys, SqL K H1 b ys) ∧ R (Itz K a b) H1
theorem pi_zip {elts : List Expr} {k : Nat} {tp : Pos} {a b : Expr} {ta : TA} {p pos : Pos} (hg : Gl X "zip") (hm : X.mg "zip" = none) (ha : PA X [a, b] ta) (hs : starEach [a, b] X.env = [(false, eval a X.env), (false, eval b X.env)] := by rfl) (hs2 : starEach [b] X.env = [(false, eval b X.env)] := by rfl) :
  PI X (.Tuple elts k tp) (.Call (.Name "zip" p) [a, b] [] pos) (iZip X.K ta) := by
 intro pins s σ H R I h
 refine Call_ (ld_blt I hg hm boot_zip (PyProof.Rows.callWith_type1 (thn (ha pos pins s σ H _ I h) fun us s1 ⟨vs, H1, I1, r1, q1⟩ => ?_) (by rw [hs, hs2]) (by rw [hs2]; rfl)))
 obtain ⟨x, y, e, ⟨xs, hx⟩, ⟨ys, hy⟩, q⟩ := q1
 subst e
 obtain ⟨u, v, rfl, ru, rv⟩ := r1.two
 cases (show u = Value.ref x from ru)
 cases (show v = Value.ref y from rv)
 obtain ⟨its1, rv1, p1, hz1⟩ := I1.list hx
 obtain ⟨its2, rv2, p2, hz2⟩ := I1.list hy
 refine call_zip_2 p1.isList p2.isList fun h' a1 a2 a3 a4 a5 a6 kp => ?_
 refine wpAny_pyIter_zip (s := { s1 with heap := h' }) a1 ?_
 refine ⟨s1.heap.objs.size + 4, [s1.heap.objs.size, s1.heap.objs.size + 1, s1.heap.objs.size + 2, s1.heap.objs.size + 3, s1.heap.objs.size + 4], _, _, H1, rfl, I1.kept (t' := s1.toks) kp, turn_zip s1.heap.objs.size x y, ⟨a1, a2, ⟨_, _, a3⟩, a4, a5⟩, fun b hb => ?_, q⟩
 have hle : s1.heap.objs.size ≤ b := by
  simp only [List.mem_cons, List.not_mem_nil, or_false] at hb
  rcases hb with rfl | rfl | rfl | rfl | rfl <;> omega
 exact I1.fpOk hle (I1.hok.fresh hle)
end
end L2
namespace L2
open PySem PySem.Spec PyProof.Rows
structure Clause (e : Expr) (d : Nat) (tg iter : Expr) (ifs : List Expr) (acc : Value) (env : Env) (inner : Sem Unit) : Prop where
 at' : (clausesOf e)[d]? = some ⟨tg, iter, ifs, 0⟩
 quiet : ∀ it, (Code.compLoop e d it acc env).quiet = true
 den : ∀ (prog : Program) (w : World) it, (model prog w).den (.compLoop e d it acc env) = (compTurn e d it acc env).onRaise (fun x => do noteFrame x env; theTreesLotGoes x)
 und : ∀ (A : Around) it, A.under (.compLoop e d it acc env) = A
 denS : ∀ (prog : Program) (w : World) it, (model prog w).den (.compStart e d it acc env) = (compStart e d it acc env).onRaise (fun x => do noteFrame x env; standAt theWindowsPlace)
 undS : ∀ (A : Around) it, A.under (.compStart e d it acc env) = A
 turn : ∀ it, compTurn e d it acc env = (do
   standAt iter.pos
   match ← pyNext it with
   | none => pure (.done .next)
   | some v =>
    letOwnedTupleGo tg it v
    assign tg env v
    let mut ok := true
    for c in ifs do
     if ok then ok ← isTrue c env (eval c env)
    if ok then
     inner
    again (.compLoop e d it acc env))
section
variable {prog : Program} {w : World} {A : Around} {R : Result → Shared → Prop} {s : Shared}
theorem codeAny_compLoop_any {e : Expr} {d : Nat} {tg iter : Expr} {ifs : List Expr} {it acc : Value} {env : Env} {inner : Sem Unit} (C : Clause e d tg iter ifs acc env inner) (I : Nat → Shared → Prop)
  (turn : ∀ n s, I n s → wpAny (model prog w) A (pyNext it) (fun r s₁ => match r with
   | none => R (.ok .next) s₁
   | some v => wpAny (model prog w) A (letOwnedTupleGo tg it v) (fun _ s₁' => wpAny (model prog w) A (assign tg env v) (fun _ s₂ =>
     wpAny (model prog w) A (forIn ifs true fun c r => if r = true then do let ok ← isTrue c env (eval c env); pure (ForInStep.yield ok) else pure (ForInStep.yield r)) (fun ok s₃ =>
      if ok = true then wpAny (model prog w) A inner (fun _ s₄ => ∃ m, m < n ∧ I m s₄) (notedBy (model prog w) A env fun e s' => R (.error e) s') s₃
      else ∃ m, m < n ∧ I m s₃) (notedBy (model prog w) A env fun e s' => R (.error e) s') s₂) (notedBy (model prog w) A env fun e s' => R (.error e) s') s₁') (notedBy (model prog w) A env fun e s' => R (.error e) s') s₁) (notedBy (model prog w) A env fun e s' => R (.error e) s') s)
  (n : Nat) (h : I n s) :
  codeAny (model prog w) A (.compLoop e d it acc env) R s := by
 refine codeAny_loop (C.quiet it) I (fun n s hI => ?_) n h
 rw [C.und, C.den]
 refine wpAny_noted ?_
 rw [C.turn]
 refine wpAny_bind (wpAny_standAt (wpAny_bind (wpAny_mono (turn n s hI) (fun r s₁ h₁ => ?_) fun _ _ h' => h')))
 cases r with
 | none => exact wpAny_pure h₁
 | some v =>
  refine wpAny_bind (wpAny_mono h₁ (fun _ s₁' h₁' => ?_) fun _ _ h' => h')
  refine wpAny_bind (wpAny_mono h₁' (fun _ s₂ h₂ => wpAny_bind (wpAny_mono h₂ (fun ok s₃ h₃ => ?_) fun _ _ h' => h')) fun _ _ h' => h')
  cases ok with
  | false => exact wpAny_pure ⟨rfl, h₃⟩
  | true => exact wpAny_bind (wpAny_mono h₃ (fun _ s₄ h₄ => wpAny_pure ⟨rfl, h₄⟩) fun _ _ h' => h')
theorem codeAny_compStart_any {e : Expr} {d : Nat} {tg iter : Expr} {ifs : List Expr} {it acc : Value} {env : Env} {inner : Sem Unit} (C : Clause e d tg iter ifs acc env inner)
  (h0 : codeAny (model prog w) A (.compLoop e d it acc env) R s)
  (h : wpAny (model prog w) A (pyIter it) (fun it' s' => codeAny (model prog w) A (.compLoop e d it' acc env) R s') (notedBy (model prog w) A env fun x s' => R (.error x) s') s) :
  codeAny (model prog w) A (.compStart e d it acc env) R s := by
 refine codeAny_of_tree ?_
 rw [C.undS, C.denS]
 refine wpAny_notedAt ?_
 unfold compStart
 rw [C.at']
 show wpAny _ _ (ask >>= _) _ _ s
 refine wpAny_bind (wpAny_askSetting (wpAny_ite ?_))
 split
 ·first
   | exact wpAny_bind (wpAny_pure (wpAny_pure (And.intro (C.quiet _) h0)))
   | exact wpAny_pure (And.intro (C.quiet _) h0)
 ·first
   | exact wpAny_bind (wpAny_rule (wpAny_bind (wpAny_standAt (wpAny_bind (wpAny_mono h (fun it' s' h' => wpAny_pure (And.intro (C.quiet _) h')) fun _ _ x => x)))))
   | (refine wpAny_bind (wpAny_rule ?_); show wpAny _ _ (standAt iter.pos >>= _) _ _ s; exact wpAny_bind (wpAny_standAt (wpAny_bind (wpAny_mono h (fun it' s' h' => wpAny_pure (And.intro (C.quiet _) h')) fun _ _ x => x))))
end
structure Ein (X : Cx) (m : Sem Unit) (σ : St) (H : Hp) (Q : St → Hp → Prop) : Prop where
 run : ∀ (pins : List (Addr × Obj)) (s : Shared), Inv X pins σ H s → wpAny (model X.prog X.w) X.A m (fun _ s' => ∃ σ' H', Inv X pins σ' H' s' ∧ Q σ' H') X.xe s
noncomputable def ClauseL (X : Cx) (tg : Expr) (ifs : List Expr) (inner : Sem Unit) (J : It) (after : St → Hp → Prop) (σ : St) (H : Hp) : Prop :=
 ∃ W : Nat → Nat → St → Hp → Prop, (∃ m, W 0 m σ H) ∧ ∀ i m σ' H', W i m σ' H' →
  (J.stop i H' ∧ after σ' H') ∨ (J.go i H' ∧ ∃ N : St → Hp → Prop, (∀ σ' H', N σ' H' → ∃ m', m' < m ∧ W (i + 1) m' σ' H') ∧ ∀ x H2, J.yld i H' x H2 → Eg X tg x σ' H2 fun σ2 H3 => Ei X ifs σ2 H3 fun b H4 =>
   if b = true then Ein X inner σ2 H4 N else N σ2 H4)
theorem clause_loop {X : Cx} (hxe : X.xe = fun _ _ => False) (hc : X.calm = true) {e : Expr} {d : Nat} {tg iter : Expr} {ifs : List Expr} {acc : Value} {inner : Sem Unit} (C : Clause e d tg iter ifs acc X.env inner) {pins : List (Addr × Obj)} {σ : St} {H : Hp} {s : Shared}
  {it : Addr} {fp : List Addr} {tn : Nat → Heap → Prop} {J : It} {after : St → Hp → Prop} {R : Result → Shared → Prop} (I : Inv X pins σ H s) (T : Turn X.prog X.w X.K tg J fp it tn) (st : tn 0 s.heap) (hf : ∀ b ∈ fp, FpOk X pins H b) (h : ClauseL X tg ifs inner J after σ H)
  (hR : ∀ σ' H' s', Inv X pins σ' H' s' → after σ' H' → R (.ok .next) s') :
  codeAny (model X.prog X.w) X.A (.compStart e d (.ref it) acc X.env) R s := by
 obtain ⟨W, ⟨m0, w0⟩, turn⟩ := h
 have stat : ∀ {H' : Hp}, (∀ b ∈ fp, H' b = none) → ∀ b ∈ fp, FpOk X pins H' b := fun hn b hb => ⟨hn b hb, (hf b hb).2⟩
 have loop : codeAny (model X.prog X.w) X.A (.compLoop e d (.ref it) acc X.env) R s := by
  refine codeAny_compLoop_any C (fun k s' => ∃ i σ' H', Inv X pins σ' H' s' ∧ tn i s'.heap ∧ (∀ b ∈ fp, H' b = none) ∧ W i k σ' H') ?_ m0 ⟨0, σ, H, I, st, fun b hb => (hf b hb).1, w0⟩
  rintro k s4 ⟨i, σ4, H4, J4, st4, fr4, w4⟩
  rcases turn i k σ4 H4 w4 with ⟨stop, qn⟩ | ⟨go, N, hN, step⟩
  ·have d1 := T.done X rfl rfl rfl hc i pins s4 σ4 H4 (fun _ _ => False) J4 (stat fr4) st4 stop
   refine thnF d1 fun r s5 ⟨hr, I5⟩ => ?_
   subst hr
   exact hR _ _ _ I5 qn
  ·have d1 := T.item X rfl rfl rfl hc i pins s4 σ4 H4 (fun _ _ => False) J4 (stat fr4) st4 go
   refine thnF d1 fun r s5 ⟨u, hr, h5⟩ => ?_
   subst hr
   refine thnF h5 fun _ s6 ⟨x, H6, I6, r6, y6, st6, fr6⟩ => ?_
   have I6' := I6.pinned (stat fr6) (T.obj _ _ st6)
   have again : ∀ {σ7 : St} {H7 : Hp} {s7 : Shared}, Inv X (pins ++ pinsAt fp s6.heap) σ7 H7 s7 → N σ7 H7 → ∃ m, m < k ∧ ∃ i σ' H', Inv X pins σ' H' s7 ∧ tn i s7.heap ∧ (∀ b ∈ fp, H' b = none) ∧ W i m σ' H' := fun {σ7 H7 s7} I7 n7 => by
    obtain ⟨m', hm, w7⟩ := hN σ7 H7 n7
    refine ⟨m', hm, i + 1, σ7, H7, I7.unpinned, T.keep _ _ _ st6 fun b hb o e => (I7.pin (b, o) (List.mem_append_right _ (List.mem_append_right _ (mem_pinsAt hb e)))).1, fun b hb => ?_, w7⟩
    obtain ⟨o, e, d⟩ := T.obj _ _ st6 b hb
    exact (I7.pin (b, o) (List.mem_append_right _ (List.mem_append_right _ (mem_pinsAt hb e)))).2.1
   have a1 := (step x H6 y6).run _ s6 u I6' r6
   rw [hxe] at a1
   refine thnF a1 fun _ s7 ⟨σ7, H7, I7, q7⟩ => ?_
   have a2 := q7.run _ s7 I7
   rw [hxe] at a2
   refine thnF a2 fun ok s8 ⟨H8, I8, q8⟩ => ?_
   cases ok with
   | false =>
    rw [if_neg Bool.false_ne_true] at q8 ⊢
    exact again I8 q8
   | true =>
    rw [if_pos rfl] at q8 ⊢
    have a3 := q8.run _ s8 I8
    rw [hxe] at a3
    exact thnF a3 fun _ s9 ⟨σ9, H9, I9, q9⟩ => again I9 q9
 exact codeAny_compStart_any C loop (T.self _ 0 _ _ _ st loop)
end L2
namespace L2
open PySem PySem.Spec PyProof.Rows
theorem comp_core_any {X : Cx} {e : Expr} {tg iter : Expr} {ifs : List Expr} {scope : Scope} {N' : List Str} {newAcc : Sem Value} {o0 : Obj} {u0 : Addr → HO} {n : Nat} {inner : Value → Env → Sem Unit} {pins : List (Addr × Obj)} {σ : St} {H2 : Hp} {s2 : Shared} {E : Value → Shared → Prop} {RR : Value → Addr → Result → Shared → Prop} {it : Addr} {fp : List Addr} {tn : Nat → Heap → Prop} {J : It} {Q : VK}
  (hnew : ∀ (Q : Value → Shared → Prop) (E : Value → Shared → Prop) (s : Shared), Q (.ref s.heap.objs.size) { s with heap := s.heap.push o0 } → wpAny (model X.prog X.w) X.A newAcc Q E s) (hobj : ∀ (H : Hp) (h : Heap), sysModules < h.objs.size → ObjOk X.prog X.w H (h.push o0) h.objs.size (u0 h.objs.size))
  (hc : X.calm = true) (ck : CompOk X.env.scope scope X.N N') (hl : N'.length = X.N.length + n) (hC : ∀ acc env, Clause e 0 tg iter ifs acc env (inner acc env))
  (I2 : Inv X pins σ H2 s2) (T : Turn X.prog X.w X.K tg J fp it tn) (st2 : tn 0 s2.heap) (f2 : ∀ b ∈ fp, FpOk X pins H2 b)
  (q : ∀ D, H2 D = none → ∀ cl C s₀ H₀ ex, ClauseL (cxComp X N' scope cl C s₀ H₀ ex) tg ifs (inner (.ref D) (compEnvC scope cl C X.env)) J (fun _ H' => Q (.ref D) H') (σ ++ List.replicate n none) (upd H2 D (u0 D)))
  (hRR : ∀ D C H' s' m, Inv X pins σ H' s' → s'.heap.Ns C m → H' C = none → C ≠ X.env.locals → X.s₀.heap.objs.size ≤ C → (∀ x c, X.env.cells.lookup x = some c → c ≠ C) → (∀ p ∈ X.pn ++ pins, p.1 ≠ C) → Q (.ref D) H' → RR (.ref D) C (.ok .next) s') :
  wpAny (model X.prog X.w) X.A newAcc (fun acc s₃ => wpAny (model X.prog X.w) X.A (newFunctionEnv scope X.env.globals (closeL scope.names X.env.cells []) [] X.env.qual none .none (some X.env)) (fun cenv s₄ =>
   codeAny (model X.prog X.w) X.A (.compStart e 0 (.ref it) acc { cenv with scope := relabel scope X.env }) (RR acc cenv.locals) s₄) E s₃) E s2 := by
 refine hnew _ _ _ (wpAny_newFunctionEnv ck.cell (by intro y hy; simp at hy) (fun h₁ hns₁ hsb₁ => ?_) ck.kind)
 have hD : H2 s2.heap.objs.size = none := I2.hok.fresh (Nat.le_refl _)
 have q0 := q s2.heap.objs.size hD (closeL scope.names X.env.cells [])
 have fl : ∀ b ∈ fp, b < s2.heap.objs.size := fun b hb => by
  obtain ⟨o, e, _⟩ := T.obj 0 _ st2 b hb
  exact Heap.lt_size e
 have I3 : Inv X pins σ (upd H2 s2.heap.objs.size (u0 s2.heap.objs.size)) { s2 with heap := s2.heap.push o0 } :=
  I2.laid (t' := s2.toks) (fun b o e => Heap.get?_push_of_some _ e) (Nat.le_refl _) (hobj _ _ I2.big)
 generalize hs3 : ({ s2 with heap := s2.heap.push o0 } : Shared) = s3 at I3 hns₁ hsb₁ ⊢
 have hz3 : s3.heap.objs.size = s2.heap.objs.size + 1 := by rw [← hs3]; exact Heap.size_push ..
 have old2 : ∀ b o, s2.heap.get? b = some o → s3.heap.get? b = some o := fun b o e => by rw [← hs3]; exact Heap.get?_push_of_some _ e
 have old : ∀ b o, s3.heap.get? b = some o → h₁.get? b = some o := fun b o e =>
  hsb₁.extBut b o (Nat.ne_of_lt (Heap.lt_size e)) (Heap.get?_push_of_some _ e)
 have f3 : ∀ b ∈ fp, FpOk X pins (upd H2 s2.heap.objs.size (u0 s2.heap.objs.size)) b ∧ b < s3.heap.objs.size := fun b hb => by
  refine ⟨⟨?_, (f2 b hb).2⟩, by rw [hz3]; exact Nat.lt_succ_of_lt (fl b hb)⟩
  rw [upd_ne (Nat.ne_of_lt (fl b hb))]
  exact (f2 b hb).1
 have I4 := fun (t' : Nat) => inv_comp (N' := N') (scope := scope) (n := n) (fp := fp) (h₁ := h₁) (t' := t') I3 ck hl hns₁ old f3
 generalize hX : cxComp X N' scope (closeL scope.names X.env.cells []) s3.heap.objs.size s3 (upd H2 s2.heap.objs.size (u0 s2.heap.objs.size)) fp = X' at I4
 have eP : X'.prog = X.prog := by rw [← hX]; rfl
 have ew : X'.w = X.w := by rw [← hX]; rfl
 have eK : X'.K = X.K := by rw [← hX]; rfl
 have eA : X'.A = X.A := by rw [← hX]; rfl
 have eE : X'.env = compEnvC scope (closeL scope.names X.env.cells []) s3.heap.objs.size X.env := by rw [← hX]; rfl
 have ec : X'.calm = true := by rw [← hX]; exact hc
 have ex' : X'.xe = fun _ _ => False := by rw [← hX]; rfl
 have stat : ∀ {H' : Hp}, (∀ b ∈ fp, H' b = none) → ∀ b ∈ fp, FpOk X' [] H' b := fun hn b hb => by
  refine ⟨hn b hb, ?_, ?_, ?_, ?_, ?_⟩
  ·rw [eE]; exact Nat.ne_of_lt (f3 b hb).2
  ·rw [← hX]
   intro hf
   rcases List.mem_cons.mp (I3.stkSub b hf) with z | z
   ·exact (f3 b hb).1.2.1 z
   ·exact (f3 b hb).1.2.2.1 z
  ·rw [← hX]; exact .inl hb
  ·rw [eE]
   intro x c e
   exact (f3 b hb).1.2.2.2.2.1 x c (closeL_sub _ _ _ (fun _ _ z => by simp at z) x c (PySem.mem_of_lookup e))
  ·rw [← hX]; intro p hp; exact absurd hp (by simp [cxComp])
 have fin : ∀ {σ' : St} {H' : Hp} {s' : Shared}, Inv X' [] σ' H' s' → Q (.ref s2.heap.objs.size) H' → RR (.ref s2.heap.objs.size) s3.heap.objs.size (.ok .next) s' := fun {σ' H' s'} I' q' => by
  obtain ⟨m', hn', _⟩ := id I'.loc
  rw [eE] at hn'
  have hos : s'.os = s3.os := by have := I'.os; rw [← hX] at this; exact this
  have hun : Un (frs X.stack) fp (upd H2 s2.heap.objs.size (u0 s2.heap.objs.size)) H' s3.heap s'.heap := by have := I'.base; rw [← hX] at this; exact this
  have hok : HOk X.prog X.w H' s'.heap := by have := I'.hok; rw [eP, ew] at this; exact this
  have IX : Inv X pins σ H' s' := I3.call' (ch := fp) hos hun hok I'.bare fun b hb => ⟨(f3 b hb).1.2.2.2.1, (f3 b hb).1.2.1, (f3 b hb).1.2.2.2.2.1, (f3 b hb).1.2.2.2.2.2⟩
  have hfr := I'.free
  rw [eE] at hfr
  refine hRR _ _ H' s' m' IX hn' hfr (Nat.ne_of_gt I3.lt) I3.sz (fun x c e z => ?_) (fun p hp z => ?_) q'
  ·obtain ⟨v, o, ho, _⟩ := I3.cell x c e
   exact absurd (Heap.lt_size ho) (by rw [z]; exact Nat.lt_irrefl _)
  ·exact absurd (Heap.lt_size (I3.pin p hp).1) (by rw [z]; exact Nat.lt_irrefl _)
 have fs0 : ∀ b ∈ fp, FpOk X' [] (upd H2 s2.heap.objs.size (u0 s2.heap.objs.size)) b := stat fun b hb => (f3 b hb).1.1
 have q1 : ClauseL X' tg ifs (inner (.ref s2.heap.objs.size) X'.env) J (fun _ H' => Q (.ref s2.heap.objs.size) H') (σ ++ List.replicate n none) (upd H2 s2.heap.objs.size (u0 s2.heap.objs.size)) := by
  rw [eE, ← hX]
  exact q0 _ _ _ _
 have T' : Turn X'.prog X'.w X'.K tg J fp it tn := by rw [eP, ew, eK]; exact T
 have fin2 := clause_loop (s := { s3 with heap := h₁, toks := s3.toks }) ex' ec (hC (.ref s2.heap.objs.size) X'.env) (I4 s3.toks) T' (T.keep 0 _ _ st2 fun b _ o e => old b o (old2 b o e)) fs0 q1 (R := RR (.ref s2.heap.objs.size) s3.heap.objs.size) fun σ' H' s' I' a' => fin I' a'
 rw [eP, ew, eA, eE] at fin2
 exact fin2
end L2
namespace L2
open PySem PySem.Spec PyProof.Rows
noncomputable def next2 (elt t1 i1 : Expr) (f1 : List Expr) (t2 i2 : Expr) (f2 : List Expr) (scope : Scope) (pos : Pos) (acc : Value) (env : Env) : Sem Unit := do
 let x ← eval i2 env
 standAt i2.pos
 let x ← foldedSetIterable i2 env x
 let _ ← runOwn (.compStart (.ListComp elt [⟨t1, i1, f1, 0⟩, ⟨t2, i2, f2, 0⟩] scope pos) 1 (← holding [x] (pyIter x)) acc env) env
noncomputable def emit (elt : Expr) (acc : Value) (env : Env) : Sem Unit := do let _ ← call (.builtin "list.append") [acc, ← eval elt env]
section
variable {X : Cx} {elt t1 i1 t2 i2 : Expr} {f1 f2 : List Expr} {scope : Scope} {pos : Pos} {σ : St} {H : Hp} {acc : Value} {env : Env}
theorem clause0 : Clause (.ListComp elt [⟨t1, i1, f1, 0⟩, ⟨t2, i2, f2, 0⟩] scope pos) 0 t1 i1 f1 acc env (next2 elt t1 i1 f1 t2 i2 f2 scope pos acc env) := ⟨rfl, fun _ => rfl, fun _ _ _ => rfl, fun _ _ => rfl, fun _ _ _ => rfl, fun _ _ => rfl, fun it => by
 unfold next2
 simp only [bind_assoc, pure_bind]
 rfl⟩
theorem clause1 : Clause (.ListComp elt [⟨t1, i1, f1, 0⟩, ⟨t2, i2, f2, 0⟩] scope pos) 1 t2 i2 f2 acc env (emit elt acc env) := ⟨rfl, fun _ => rfl, fun _ _ _ => rfl, fun _ _ => rfl, fun _ _ _ => rfl, fun _ _ => rfl, fun _ => rfl⟩
theorem ein_emit {D : Addr} {Q : St → Hp → Prop} (h : Ev X elt σ H fun v H1 => ∃ ys, H1 D = some (.lst ys) ∧ ys.length < sizeLine ∧ Q σ (upd H1 D (.lst (ys ++ [v])))) : Ein X (emit elt (.ref D) X.env) σ H Q := by
 refine ⟨fun pins s I => ?_⟩
 unfold emit
 refine wpAny_bind (thn (h.run pins s I) fun v s1 ⟨x, H1, I1, r1, ys, hy, hz, q⟩ => ?_)
 refine wpAny_bind (thn (mt_append (X := X) _ s1 σ H1 (.ref D) [x] (.ref D) [v] (fun _ H' => Q σ H') I1 rfl (.cons r1 .nil) ⟨_, ys, x, rfl, rfl, hy, hz, q⟩) fun _ s2 ⟨_, H2, I2, _, q2⟩ => wpAny_pure ⟨σ, H2, I2, q2⟩)
theorem ein_next {wi : TI} {Q : St → Hp → Prop} (hxe : X.xe = fun _ _ => False) (hc : X.calm = true) (hi : PI X t2 i2 wi) (h : wi σ H fun J H1 => ClauseL X t2 f2 (emit elt acc X.env) J Q σ H1)
  (hs : ∀ x, foldedSetIterable i2 X.env x = pure x := by intro _; rfl) : Ein X (next2 elt t1 i1 f1 t2 i2 f2 scope pos acc X.env) σ H Q := by
 refine ⟨fun pins s I => ?_⟩
 unfold next2
 refine wpAny_bind (thn (hi pins s σ H _ I h) fun x s1 h1 => ?_)
 refine wpAny_bind (wpAny_standAt (wpAny_bind (wpAny_of_eq (hs x) (wpAny_bind (wpAny_holding (wpAny_mono h1 (fun itv s2 h2 => ?_) fun _ _ e => e))))))
 obtain ⟨it, fp, tn, J, H2, e, I2, T, st2, f2', q⟩ := h2
 subst e
 refine wpAny_bind (wpAny_runOwn (Q := fun _ s' => wpAny (model X.prog X.w) X.A (pure ()) (fun _ s' => ∃ σ' H', Inv X pins σ' H' s' ∧ Q σ' H') X.xe s') ?_)
 exact clause_loop hxe hc clause1 I2 T st2 f2' q fun σ' H' s' I' q' => wpAny_pure ⟨σ', H', I', q'⟩
theorem ev_comp2 {wi : TI} {Q : VK} (sc : Scope) (N N' : List Str) (n : Nat) (hi : PI X t1 i1 wi)
  (h : wi σ H fun J H1 => ∀ D, H1 D = none → ∀ cl C s₀ H₀ ex, ClauseL (cxComp X N' scope cl C s₀ H₀ ex) t1 f1 (next2 elt t1 i1 f1 t2 i2 f2 scope pos (.ref D) (compEnvC scope cl C X.env)) J (fun _ H' => Q (.ref D) H') (σ ++ List.replicate n none) (upd H1 D (.lst [])))
  (hc : X.calm = true := by rfl) (hsc : X.env.scope = sc := by rfl) (hN : X.N = N := by rfl) (hk : compOk sc scope N N' = true := by decide +kernel) (hl : N'.length = N.length + n := by rfl)
  (hs : ∀ x, foldedSetIterable i1 X.env x = pure x := by intro _; rfl) : Ev X (.ListComp elt [⟨t1, i1, f1, 0⟩, ⟨t2, i2, f2, 0⟩] scope pos) σ H Q := by
 refine ⟨fun pins s I => ?_⟩
 subst hsc hN
 have ck := CompOk.of hk
 rw [eval_ListComp]
 refine wpAny_comprehension_free (use := none) rfl hs (closure_eq fun x hx hf => I.ok.has x.1 (ck.free x hx hf)) ck.kind ck.names (thn (hi pins s σ H _ I h) fun v s1 h1 => thn h1 fun itv s2 h2 => ?_)
 obtain ⟨it, fp, tn, J, H2, e, I2, T, st2, f2', q⟩ := h2
 subst e
 refine comp_core_any (e := .ListComp elt [⟨t1, i1, f1, 0⟩, ⟨t2, i2, f2, 0⟩] scope pos) (newAcc := newList []) (o0 := { cls := .type "list", dict := none, data := .seq ([] : List Value).toArray }) (u0 := fun _ => .lst []) (fun _ _ _ h => wpAny_newObj_type h (by show (0 : Nat) ≤ sizeLine; exact Nat.zero_le _)) (fun _ _ _ => ⟨Nat.zero_le _, [], 0, .nil, Heap.get?_push_size _ rfl⟩) (Q := Q) (RR := fun acc C => compPost (model X.prog X.w) X.A X.xe none (EP X pins σ Q) acc C) hc ck hl (inner := next2 elt t1 i1 f1 t2 i2 f2 scope pos) (fun _ _ => clause0) I2 T st2 f2' q ?_
 intro D C H' s' m IX hn hC c1 c2 c3 c4 qq
 exact ⟨m, hn, fun h' hs' => ⟨.ref D, H', IX.turned (t' := s'.toks) (fun b o hb e => hs'.extBut b o hb e) hC (Ne.symm (Ne.symm c1)) (.inr c2) c3 c4, rfl, qq⟩⟩
end
end L2
namespace L2
open PySem PySem.Spec PyProof.Rows
section
variable {X : Cx} {pins : List (Addr × Obj)} {σ : St} {H : Hp} {s : Shared} {a : Addr} {y v : V} {u r : Value} {A : Around} {E : Value → Shared → Prop}
theorem d_dictSet {H' : Hp} {Q : Unit → Shared → Prop} (hu : A.units + 1 < cLine) (I : Inv X pins σ H s) (g : DPut H a y v H') (ry : RelV y u) (rv : RelV v r) (h : ∀ s', Inv X pins σ H' s' → Q () s') :
  wpAny (model X.prog X.w) A (dictSet a u r) Q E s := by
 rcases g with ⟨kvs, k, e, ey, l, eH⟩ | ⟨kvs, k, b, e, ey, eb, l, eH⟩
 ·subst ey eH
  obtain ⟨z, hd, vs, rel, dd⟩ := dk_of I.hok e
  have hz : vs.length ≤ sizeLine := by rw [← rel.length]; exact z
  have hl : (putK kvs k v).length ≤ sizeLine := by have := length_putK kvs k v; omega
  refine wpAny_dictSet_pairs (hsz := hz) (kV_is ry) dd fun h' dd' hs => h _ ?_
  have he : ∃ q, h'.get? a = some q := let ⟨q, _, _, hq, _⟩ := dd'; ⟨q, hq⟩
  exact d_write I (by rw [e]; exact True.intro) hs he (dk_new hl hd (rel.put k rv) dd')
 ·subst ey eH
  cases (show u = Value.ref b from ry)
  obtain ⟨z, hd, xs, rel, dd⟩ := dt_of I.hok e
  have hz : xs.length ≤ sizeLine := by rw [← Paired.length rel]; exact z
  have hl : (putK kvs k v).length ≤ sizeLine := by have := length_putK kvs k v; omega
  have room : (tupleKind (mixKind X.prog X.w)).room A := by first | exact hu | exact Nat.lt_of_succ_lt hu | exact Nat.lt_of_le_of_lt (Nat.le_succ _) hu
  refine wpAny_dictSet_heap (hsz := hz) room (key_of I.hok eb) dd fun h' dd' hs => h _ ?_
  obtain ⟨q, es, ep, hq, h2, h3, h4, _, h5⟩ := dd'
  refine d_write I (by rw [e]; exact True.intro) hs ⟨q, hq⟩ ⟨hl, hd, _, (rel.put k eb rv).keeps fun c ys ec => ?_, q, es, ep, hq, h2, h3, h4, h5⟩
  rw [upd_ne (ne_of ec e (fun z => nomatch z))]
  exact ec
end
noncomputable def emitD (k v : Expr) (acc : Value) (env : Env) : Sem Unit := do
 let kv ← eval k env
 let vv ← holding [kv] (eval v env)
 match acc with
 | .ref d => do
  standAt { k.pos with endLine := v.pos.endLine, endCol := v.pos.endCol }
  holding [kv, vv] (dictSet d kv vv)
 | _ => unsupported "internal:dictcomp"
noncomputable def nextD (k v t1 i1 : Expr) (f1 : List Expr) (t2 i2 : Expr) (f2 : List Expr) (scope : Scope) (pos : Pos) (acc : Value) (env : Env) : Sem Unit := do
 let x ← eval i2 env
 standAt i2.pos
 let x ← foldedSetIterable i2 env x
 let _ ← runOwn (.compStart (.DictComp k v [⟨t1, i1, f1, 0⟩, ⟨t2, i2, f2, 0⟩] scope pos) 1 (← holding [x] (pyIter x)) acc env) env
section
variable {X : Cx} {k v t1 i1 t2 i2 : Expr} {f1 f2 : List Expr} {scope : Scope} {pos : Pos} {σ : St} {H : Hp} {acc : Value} {env : Env}
theorem clauseD : Clause (.DictComp k v [⟨t1, i1, f1, 0⟩] scope pos) 0 t1 i1 f1 acc env (emitD k v acc env) := ⟨rfl, fun _ => rfl, fun _ _ _ => rfl, fun _ _ => rfl, fun _ _ _ => rfl, fun _ _ => rfl, fun it => by
 unfold emitD
 cases acc <;> first | rfl | (simp only [bind_assoc, pure_bind]; rfl)⟩
theorem clauseD0 : Clause (.DictComp k v [⟨t1, i1, f1, 0⟩, ⟨t2, i2, f2, 0⟩] scope pos) 0 t1 i1 f1 acc env (nextD k v t1 i1 f1 t2 i2 f2 scope pos acc env) := ⟨rfl, fun _ => rfl, fun _ _ _ => rfl, fun _ _ => rfl, fun _ _ _ => rfl, fun _ _ => rfl, fun it => by
 unfold nextD
 simp only [bind_assoc, pure_bind]
 rfl⟩
theorem clauseD1 : Clause (.DictComp k v [⟨t1, i1, f1, 0⟩, ⟨t2, i2, f2, 0⟩] scope pos) 1 t2 i2 f2 acc env (emitD k v acc env) := ⟨rfl, fun _ => rfl, fun _ _ _ => rfl, fun _ _ => rfl, fun _ _ _ => rfl, fun _ _ => rfl, fun it => by
 unfold emitD
 cases acc <;> first | rfl | (simp only [bind_assoc, pure_bind]; rfl)⟩
theorem ein_emitD {D : Addr} {Q : St → Hp → Prop} (hu : X.A.units + 1 < cLine) (h : Ev X k σ H fun y H1 => Ev X v σ H1 fun x H2 => ∃ H3, DPut H2 D y x H3 ∧ Q σ H3) : Ein X (emitD k v (.ref D) X.env) σ H Q := by
 refine ⟨fun pins s I => ?_⟩
 unfold emitD
 refine wpAny_bind (thn (h.run pins s I) fun kv s1 ⟨y, H1, I1, r1, h1⟩ => ?_)
 refine wpAny_bind (wpAny_holding (thn (h1.run pins s1 I1) fun vv s2 ⟨x, H2, I2, r2, H3, dp, q⟩ => ?_))
 show wpAny _ _ (standAt _ >>= fun _ => holding [kv, vv] (dictSet D kv vv)) _ _ _
 exact wpAny_bind (wpAny_standAt (wpAny_holding (d_dictSet hu I2 dp r1 r2 fun s' I' => ⟨σ, H3, I', q⟩)))
theorem ein_nextD {wi : TI} {Q : St → Hp → Prop} (hxe : X.xe = fun _ _ => False) (hc : X.calm = true) (hi : PI X t2 i2 wi) (h : wi σ H fun J H1 => ClauseL X t2 f2 (emitD k v acc X.env) J Q σ H1)
  (hs : ∀ x, foldedSetIterable i2 X.env x = pure x := by intro _; rfl) : Ein X (nextD k v t1 i1 f1 t2 i2 f2 scope pos acc X.env) σ H Q := by
 refine ⟨fun pins s I => ?_⟩
 unfold nextD
 refine wpAny_bind (thn (hi pins s σ H _ I h) fun x s1 h1 => ?_)
 refine wpAny_bind (wpAny_standAt (wpAny_bind (wpAny_of_eq (hs x) (wpAny_bind (wpAny_holding (wpAny_mono h1 (fun itv s2 h2 => ?_) fun _ _ e => e))))))
 obtain ⟨it, fp, tn, J, H2, e, I2, T, st2, f2', q⟩ := h2
 subst e
 refine wpAny_bind (wpAny_runOwn (Q := fun _ s' => wpAny (model X.prog X.w) X.A (pure ()) (fun _ s' => ∃ σ' H', Inv X pins σ' H' s' ∧ Q σ' H') X.xe s') ?_)
 exact clause_loop hxe hc clauseD1 I2 T st2 f2' q fun σ' H' s' I' q' => wpAny_pure ⟨σ', H', I', q'⟩
theorem ev_compDT {wi : TI} {Q : VK} (sc : Scope) (N N' : List Str) (n : Nat) (hi : PI X t1 i1 wi)
  (h : wi σ H fun J H1 => ∀ D, H1 D = none → ∀ cl C s₀ H₀ ex, ClauseL (cxComp X N' scope cl C s₀ H₀ ex) t1 f1 (emitD k v (.ref D) (compEnvC scope cl C X.env)) J (fun _ H' => Q (.ref D) H') (σ ++ List.replicate n none) (upd H1 D (.dT [])))
  (hc : X.calm = true := by rfl) (hsc : X.env.scope = sc := by rfl) (hN : X.N = N := by rfl) (hk : compOk sc scope N N' = true := by decide +kernel) (hl : N'.length = N.length + n := by rfl)
  (hs : ∀ x, foldedSetIterable i1 X.env x = pure x := by intro _; rfl) : Ev X (.DictComp k v [⟨t1, i1, f1, 0⟩] scope pos) σ H Q := by
 refine ⟨fun pins s I => ?_⟩
 subst hsc hN
 have ck := CompOk.of hk
 show wpAny _ _ (comprehension (.DictComp k v [⟨t1, i1, f1, 0⟩] scope pos) scope X.env (firstIterPos [⟨t1, i1, f1, 0⟩] pos) newDict (firstAsync [⟨t1, i1, f1, 0⟩]) (firstIter [⟨t1, i1, f1, 0⟩] X.env)) _ _ _
 refine wpAny_comprehension_free (use := none) rfl hs (closure_eq fun x hx hf => I.ok.has x.1 (ck.free x hx hf)) ck.kind ck.names (thn (hi pins s σ H _ I h) fun xv s1 h1 => thn h1 fun itv s2 h2 => ?_)
 obtain ⟨it, fp, tn, J, H2, e, I2, T, st2, f2', q⟩ := h2
 subst e
 refine comp_core_any (e := .DictComp k v [⟨t1, i1, f1, 0⟩] scope pos) (newAcc := newDict) (o0 := { cls := .type "dict", data := .dict #[] }) (u0 := fun _ => .dT []) (fun _ _ _ h => wpAny_newObj_type h) (fun _ h hb => dt_empty h hb) (Q := Q) (RR := fun acc C => compPost (model X.prog X.w) X.A X.xe none (EP X pins σ Q) acc C) hc ck hl (inner := emitD k v) (fun _ _ => clauseD) I2 T st2 f2' q ?_
 intro D C H' s' m IX hn hC c1 c2 c3 c4 qq
 exact ⟨m, hn, fun h' hs' => ⟨.ref D, H', IX.turned (t' := s'.toks) (fun b o hb e => hs'.extBut b o hb e) hC (Ne.symm (Ne.symm c1)) (.inr c2) c3 c4, rfl, qq⟩⟩
theorem ev_compDT2 {wi : TI} {Q : VK} (sc : Scope) (N N' : List Str) (n : Nat) (hi : PI X t1 i1 wi)
  (h : wi σ H fun J H1 => ∀ D, H1 D = none → ∀ cl C s₀ H₀ ex, ClauseL (cxComp X N' scope cl C s₀ H₀ ex) t1 f1 (nextD k v t1 i1 f1 t2 i2 f2 scope pos (.ref D) (compEnvC scope cl C X.env)) J (fun _ H' => Q (.ref D) H') (σ ++ List.replicate n none) (upd H1 D (.dT [])))
  (hc : X.calm = true := by rfl) (hsc : X.env.scope = sc := by rfl) (hN : X.N = N := by rfl) (hk : compOk sc scope N N' = true := by decide +kernel) (hl : N'.length = N.length + n := by rfl)
  (hs : ∀ x, foldedSetIterable i1 X.env x = pure x := by intro _; rfl) : Ev X (.DictComp k v [⟨t1, i1, f1, 0⟩, ⟨t2, i2, f2, 0⟩] scope pos) σ H Q := by
 refine ⟨fun pins s I => ?_⟩
 subst hsc hN
 have ck := CompOk.of hk
 show wpAny _ _ (comprehension (.DictComp k v [⟨t1, i1, f1, 0⟩, ⟨t2, i2, f2, 0⟩] scope pos) scope X.env (firstIterPos [⟨t1, i1, f1, 0⟩, ⟨t2, i2, f2, 0⟩] pos) newDict (firstAsync [⟨t1, i1, f1, 0⟩, ⟨t2, i2, f2, 0⟩]) (firstIter [⟨t1, i1, f1, 0⟩, ⟨t2, i2, f2, 0⟩] X.env)) _ _ _
 refine wpAny_comprehension_free (use := none) rfl hs (closure_eq fun x hx hf => I.ok.has x.1 (ck.free x hx hf)) ck.kind ck.names (thn (hi pins s σ H _ I h) fun xv s1 h1 => thn h1 fun itv s2 h2 => ?_)
 obtain ⟨it, fp, tn, J, H2, e, I2, T, st2, f2', q⟩ := h2
 subst e
 refine comp_core_any (e := .DictComp k v [⟨t1, i1, f1, 0⟩, ⟨t2, i2, f2, 0⟩] scope pos) (newAcc := newDict) (o0 := { cls := .type "dict", data := .dict #[] }) (u0 := fun _ => .dT []) (fun _ _ _ h => wpAny_newObj_type h) (fun _ h hb => dt_empty h hb) (Q := Q) (RR := fun acc C => compPost (model X.prog X.w) X.A X.xe none (EP X pins σ Q) acc C) hc ck hl (inner := nextD k v t1 i1 f1 t2 i2 f2 scope pos) (fun _ _ => clauseD0) I2 T st2 f2' q ?_
 intro D C H' s' m IX hn hC c1 c2 c3 c4 qq
 exact ⟨m, hn, fun h' hs' => ⟨.ref D, H', IX.turned (t' := s'.toks) (fun b o hb e => hs'.extBut b o hb e) hC (Ne.symm (Ne.symm c1)) (.inr c2) c3 c4, rfl, qq⟩⟩
end
end L2
namespace L2
open PySem PySem.Spec PyProof.Rows SetT
theorem call_add {prog : Program} {w : World} {A : Around} {E : Value → Shared → Prop} {s : Shared} {a : Addr} {zs : List Str} {z : Str} {tk : Tok} {Q : Value → Shared → Prop} (S : SetAt prog w s.heap a zs) (hb : zs.length + 1 < 1000)
  (h : ∀ h', Heap.SameBut a s.heap h' → SetAt prog w h' a (added zs z) → Q .none { s with heap := h', toks := s.toks + 1 }) :
  wpAny (model prog w) A (call (.builtin "set.add") [.ref a, .str z tk]) Q E s := by
 have hT : s.TypeIs (.ref a) "set" := let ⟨o, _, _, _, ho, hx, _⟩ := S; ⟨o, ho, hx.1⟩
 refine wpAny_call_entry F.slot_set_add hT F.entry_set_add ?_ (F.args_set_add_2 _ _)
 unfold Builtin.«set.add» Builtin.Frozenset.oneOther
 simp only [List.isEmpty_nil, bind_assoc]
 unfold Builtin.Frozenset.addrOf setAdd
 refine wpAny_bind (wpAny_pure ?_)
 try dsimp only
 refine wpAny_bind (wpAny_pure ?_)
 try dsimp only
 refine wpAny_bind ?_
 refine wpAny_holding ?_
 refine wpAny_bind ((PySem.strKind prog w).pyHash (k := z) (v := .str z tk) (by simp [PySem.strKind, Value.isStrOf]) ?_)
 refine wp_add (s := { s with toks := s.toks + 1 }) S hb fun b h' sb S' => ?_
 show wpAny _ _ (ret Value.none) _ _ _
 exact wpAny_pure ⟨_, rfl, h h' sb S'⟩
section
variable {X : Cx} {elt t1 i1 t2 i2 : Expr} {f1 f2 : List Expr} {scope : Scope} {pos : Pos} {σ : St} {H : Hp} {acc : Value} {env : Env}
end
end L2
namespace Spl
open PySem PySem.Builtin PySem.Builtin.Str PySem.StrLaws
end Spl
namespace L2
open PySem PySem.Builtin PySem.Builtin.Str
section
variable {X : Cx} {σ : St} {H : Hp} {Q : VK}
end
end L2
namespace PySem
noncomputable def Plain (h : Heap) (d : Addr) (es : Array DictEntry) (ep : Nat) : Prop := ∃ o, h.get? d = some o ∧ o.ExactDict ∧ o.data = .dict es ep
section
variable {P : Program} {w : World} {A : Around} {E : Value → Shared → Prop} {s : Shared}
theorem items_spec (d : Addr) (hd : (d == sysModules) = false) : MeetsIn P w (Builtin.«dict.items» ⟨[.ref d], []⟩) (fun _ R u => u.TypeIs (.ref d) "dict" ∧
  R (.ok (.ret (.ref u.heap.objs.size))) { u with heap := u.heap.push { cls := .type "dict_items", data := .fields #[.ref d] } }) := by
 refine .of_wp fun B R u ⟨hT, k⟩ => ?_
 unfold Builtin.«dict.items» Builtin.Dict.noArgs
 refine wpAny_bind (wpAny_bind (wpAny_notOrdered_dict hT ?_))
 show wpAny _ _ (pure d) _ _ u
 refine wpAny_pure ?_
 show wpAny _ _ (Builtin.Dict.showsAll d >>= _) _ _ u
 unfold Builtin.Dict.showsAll
 rw [if_neg (by rw [hd]; exact Bool.false_ne_true)]
 exact wpAny_bind (wpAny_pure (wpAny_bind (wpAny_newObj_type (wpAny_pure ⟨_, rfl, k⟩))))
theorem items_iter {v d : Addr} {es : Array DictEntry} {ep : Nat} {Q : Value → Shared → Prop} (hv : s.heap.IsItemsView v d) (hm : Plain s.heap d es ep)
  (k : Q (.ref s.heap.objs.size) { s with heap := s.heap.push { cls := .type "dict_itemiterator", data := .fields #[.none, .bool false, .ref d, .int 0 0, .int es.size 0, .int ep 0, .none, .none] } }) :
  wpAny (model P w) A (pyIter (.ref v)) Q E s := by
 obtain ⟨vo, e1, e2, e3⟩ := id hv
 obtain ⟨o, f1, f2, f3⟩ := hm
 refine wpAny_pyIter_slot hv.typeIs F.slot_dict_items_iter (wpAny_call_entry F.slot_dict_items_iter hv.typeIs F.entry_dict_items_iter ?_ (F.args_dict_items_iter_1 _))
 unfold Builtin.«dict_items.__iter__» Builtin.Dict_items.dictOf Builtin.Dict_items.newIterator
 refine wpAny_bind (wpAny_pure (wpAny_bind (wpAny_bind (wpAny_field e1 e3 (x := .ref d) rfl (wpAny_pure ?_)))))
 refine wpAny_bind (wpAny_bind (wpAny_dictEntries f1 f3 (wpAny_bind (wpAny_dictEpoch f1 f3 ?_))))
 have ow : Builtin.Dict_items.ownsTuple "dict_itemiterator" = true := by decide
 simp only [ow, if_true]
 refine wpAny_newObj_type (wpAny_pure ⟨_, rfl, "dict_itemiterator", _, ⟨_, Heap.get?_push_size _ rfl, rfl⟩, F.slot_dict_itemiterator_next.lookup, ?_⟩) ?_
 ·simpa [rawInt, Builtin.Dict_items.ownedTupleFields] using k
 ·simp only [sizeOk, Builtin.Dict_items.ownedTupleFields, List.size_toArray, List.length_append, List.length_cons, List.length_nil, sizeLine_eq]
  omega
theorem items_next {it d : Addr} {i ep : Nat} {es : Array DictEntry} {en : DictEntry} {y z : Value} {Q : Option Value → Shared → Prop} (hit : IsItemIter s.heap it d i es.size ep y z) (hm : Plain s.heap d es ep) (hx : es[i]? = some en)
  (k : ∀ h', IsItemIterOut h' it d (i + 1) es.size ep en.key en.val s.heap.objs.size → h'.get? s.heap.objs.size = some { cls := .type "tuple", data := .seq #[en.key, en.val] } →
   (∀ b o, b ≠ it → s.heap.get? b = some o → h'.get? b = some o) → Q (some (.ref s.heap.objs.size)) { s with heap := h' }) : wpAny (model P w) A (pyNext (.ref it)) Q E s := by
 obtain ⟨hp, g, dr, tk, os⟩ := s
 obtain ⟨o, f1, f2, f3⟩ := hm
 have ty : Shared.TypeIs ⟨hp, g, dr, tk, os⟩ (.ref it) "dict_itemiterator" := ⟨_, hit, rfl⟩
 have lt : i < es.size := by
  rcases Nat.lt_or_ge i es.size with h | h
  ·exact h
  ·rw [Array.getElem?_eq_none h] at hx
   cases hx
 have ow : Builtin.Dict_items.ownsTuple "dict_itemiterator" = true := by decide
 unfold pyNext
 refine wpAny_bind (wpAny_attempt (wpAny_callSpecial?_slot (name := Str.ofString "__next__") ty F.slot_dict_itemiterator_next (wpAny_call_entry F.slot_dict_itemiterator_next ty F.entry_dict_itemiterator_next ?_ (F.args_dict_itemiterator_next_1 _))))
 refine wpAny_bind (wpAny_pure (wpAny_bind (wpAny_bind ?_)))
 first | refine wpAny_bind (wpAny_typeNameOfWhole_itemiter ty (wpAny_pure ?_)) | refine wpAny_bind (wpAny_typeNameOf_itemiter ty (wpAny_pure ?_))
 refine wpAny_bind (wpAny_fieldsOf hit rfl ?_)
 simp only [ow, if_true]
 show wpAny _ _ (if (Value.ref d == Value.none) = true then _ else _) _ _ _
 rw [if_neg (show ¬ ((Value.ref d == Value.none) = true) from Bool.false_ne_true)]
 refine wpAny_bind (wpAny_pure (wpAny_bind (wpAny_dictEntries f1 f3 ?_)))
 rw [if_neg (by simp)]
 refine wpAny_bind (wpAny_pure (wpAny_bind (wpAny_dictEpoch f1 f3 ?_)))
 rw [if_neg (by simp)]
 refine wpAny_pure ?_
 have ee : es[i] = en := Option.some.inj ((Array.getElem?_eq_getElem lt).symm.trans hx)
 simp only [show ¬ ((i : Int) < 0) from by omega, if_false, Int.toNat_natCast, hx]
 refine wpAny_bind ?_
 first | refine wpAny_bind (wpAny_typeNameOfWhole_itemiter ty (wpAny_pure ?_)) | refine wpAny_bind (wpAny_typeNameOf_itemiter ty (wpAny_pure ?_))
 refine wpAny_bind (wpAny_isOneOf_itemiter ty ?_)
 show wpAny _ _ (setField (.ref it) 3 (rawInt ((i : Int) + 1)) >>= _) _ _ ⟨hp, g, dr, tk, os⟩
 refine wpAny_bind (wpAny_setField_rec hit (by simp) fun ha ea sa => ?_)
 replace sa : Heap.SameBut it hp ha := sa
 replace ea : IsItemIter ha it d (i + 1) es.size ep y z := by
  have e : ((i + 1 : Nat) : Int) = (i : Int) + 1 := by omega
  unfold IsItemIter
  rw [e]
  simpa [rawInt] using ea
 have tya : Shared.TypeIs ⟨ha, g, dr, tk, os⟩ (.ref it) "dict_itemiterator" := ⟨_, ea, rfl⟩
 refine wpAny_bind (wpAny_holding (wpAny_bind (wpAny_isOneOf_itemiter tya (wpAny_bind (wpAny_isOneOf_itemiter tya ?_)))))
 show wpAny _ _ (Builtin.Dict_items.pairFromOwner (.ref it) 6 en.key en.val) _ _ ⟨ha, g, dr, tk, os⟩
 unfold Builtin.Dict_items.pairFromOwner Builtin.Dict_items.ownedTupleIsFree
 refine wpAny_bind (wpAny_newTuple ?_)
 have eb : IsItemIter (ha.push { cls := .type "tuple", data := .seq #[en.key, en.val] }) it d (i + 1) es.size ep y z := Heap.get?_push_of_some _ ea
 have za : ha.objs.size = hp.objs.size := sa.1
 have il : it < hp.objs.size := Heap.lt_size hit
 have tb : (ha.push { cls := .type "tuple", data := .seq #[en.key, en.val] }).get? hp.objs.size = some { cls := .type "tuple", data := .seq #[en.key, en.val] } := by rw [← za]; exact Heap.get?_push_size _ rfl
 have kb : ∀ b u, b ≠ it → hp.get? b = some u → (ha.push { cls := .type "tuple", data := .seq #[en.key, en.val] }).get? b = some u := fun b u hb e => Heap.get?_push_of_some _ (sa.extBut b u hb e)
 rw [za]
 generalize ha.push { cls := .type "tuple", data := .seq #[en.key, en.val] } = hb at eb tb kb
 refine wpAny_bind (wpAny_bind (wpAny_field (s := ⟨hb, g, dr, tk, os⟩) eb rfl (x := .none) rfl (wpAny_pure ?_)))
 simp only [if_true]
 refine wpAny_bind (wpAny_field (s := ⟨hb, g, dr, tk, os⟩) eb rfl (x := y) rfl (wpAny_bind (wpAny_field (s := ⟨hb, g, dr, tk, os⟩) eb rfl (x := z) rfl ?_)))
 refine wpAny_bind (wpAny_setField_rec eb (by simp) fun h3 e3 s3 => ?_)
 replace s3 : Heap.SameBut it hb h3 := s3
 replace e3 : IsItemIter h3 it d (i + 1) es.size ep en.key z := e3
 refine wpAny_bind (wpAny_setField_rec e3 (by simp) fun h4 e4 s4 => ?_)
 replace s4 : Heap.SameBut it h3 h4 := s4
 replace e4 : IsItemIter h4 it d (i + 1) es.size ep en.key en.val := e4
 refine wpAny_bind (wpAny_setField_rec e4 (by simp) fun h5 e5 s5 => ?_)
 replace s5 : Heap.SameBut it h4 h5 := s5
 replace e5 : IsItemIterOut h5 it d (i + 1) es.size ep en.key en.val hp.objs.size := e5
 refine wpAny_bind (wpAny_setField_rec e5 (by simp) fun h6 e6 s6 => ?_)
 replace s6 : Heap.SameBut it h5 h6 := s6
 replace e6 : IsItemIterOut h6 it d (i + 1) es.size ep en.key en.val hp.objs.size := e6
 have all := ((s3.trans s4).trans s5).trans s6
 exact wpAny_bind (wpAny_letGo (wpAny_pure (wpAny_pure ⟨_, rfl, wpAny_pure (k h6 e6 (all.extBut _ _ (Nat.ne_of_gt il) tb) fun b u hb' e => all.extBut b u hb' (kb b u hb' e))⟩)))
theorem items_end {it d : Addr} {i ep : Nat} {es : Array DictEntry} {y z : Value} {Q : Option Value → Shared → Prop} (hh : A.handled = none) (hit : IsItemIter s.heap it d i es.size ep y z) (hm : Plain s.heap d es ep) (hx : es.size ≤ i)
  (k : ∀ h', Heap.ExtBut it s.heap h' → Q none { s with heap := h' }) : wpAny (model P w) A (pyNext (.ref it)) Q E s := by
 obtain ⟨o, f1, f2, f3⟩ := hm
 have ty : s.TypeIs (.ref it) "dict_itemiterator" := ⟨_, hit, rfl⟩
 have ow : Builtin.Dict_items.ownsTuple "dict_itemiterator" = true := by decide
 unfold pyNext
 refine wpAny_bind (wpAny_attempt (wpAny_callSpecial?_slot (name := Str.ofString "__next__") ty F.slot_dict_itemiterator_next (wpAny_call_entry F.slot_dict_itemiterator_next ty F.entry_dict_itemiterator_next ?_ (F.args_dict_itemiterator_next_1 _))))
 refine wpAny_bind (wpAny_pure (wpAny_bind (wpAny_bind ?_)))
 first | refine wpAny_bind (wpAny_typeNameOfWhole_itemiter ty (wpAny_pure ?_)) | refine wpAny_bind (wpAny_typeNameOf_itemiter ty (wpAny_pure ?_))
 refine wpAny_bind (wpAny_fieldsOf hit rfl ?_)
 simp only [ow, if_true]
 show wpAny _ _ (if (Value.ref d == Value.none) = true then _ else _) _ _ s
 rw [if_neg (show ¬ ((Value.ref d == Value.none) = true) from Bool.false_ne_true)]
 refine wpAny_bind (wpAny_pure (wpAny_bind (wpAny_dictEntries f1 f3 ?_)))
 rw [if_neg (by simp)]
 refine wpAny_bind (wpAny_pure (wpAny_bind (wpAny_dictEpoch f1 f3 ?_)))
 rw [if_neg (by simp)]
 refine wpAny_pure ?_
 simp only [show ¬ ((i : Int) < 0) from by omega, if_false, Int.toNat_natCast, Array.getElem?_eq_none hx]
 refine wpAny_bind ?_
 first | refine wpAny_bind (wpAny_typeNameOfWhole_itemiter ty (wpAny_pure ?_)) | refine wpAny_bind (wpAny_typeNameOf_itemiter ty (wpAny_pure ?_))
 show wpAny _ _ (setField (.ref it) 2 .none >>= _) _ _ s
 refine wpAny_bind (wpAny_setField hit rfl (by simp) ?_)
 show wpAny _ _ (newExc (.type "StopIteration") [] >>= _) _ _ _
 refine wpAny_bind ?_
 simp only [newExc, newTuple]
 refine wpAny_bind (wpAny_newObj_type ?_ (by size_fits))
 refine wpAny_bind (m := firstArgMember _ _) (wpAny_of_eq (a := Value.none) (by first | rfl | (simp only [firstArgMember]; rfl)) ?_)
 refine wpAny_newObj_type ?_ (by size_fits)
 simp only [raiseNew]
 refine wpAny_bind (wpAny_handled ?_)
 rw [show A.in1.handled = none from hh]
 refine wpAny_bind (wpAny_pure (wpAny_throw ?_))
 exact wpAny_bind (wpAny_isInstance (T := "StopIteration") (b := true) ⟨_, Heap.get?_push_size _ rfl, rfl⟩ isSubtype_stop (wpAny_pure (k _ (((Heap.SameBut.update ..).extBut.push _).push _))))
theorem entry_itemiter : entryFor table "dict_itemiterator.__iter__" = some Builtin.«dict_keyiterator.__iter__» :=
 entryFor_alias (id' := "dict_keyiterator.__iter__") (by kernel_rfl) rfl (by decide +kernel) (by kernel_rfl)
theorem items_self {it d : Addr} {i n ep : Nat} {y z : Value} {Q : Value → Shared → Prop} (e : IsItemIter s.heap it d i n ep y z) (h : Q (.ref it) s) : wpAny (model P w) A (pyIter (.ref it)) Q E s := by
 have ty : s.TypeIs (.ref it) "dict_itemiterator" := ⟨_, e, rfl⟩
 refine wpAny_pyIter_slot ty F.slot_dict_itemiterator_iter (wpAny_call_entry F.slot_dict_itemiterator_iter ty entry_itemiter ?_ (F.args_dict_itemiterator_iter_1 _))
 show wpAny _ _ (ret (.ref it)) _ _ s
 exact wpAny_pure ⟨_, rfl, "dict_itemiterator", _, ty, F.slot_dict_itemiterator_next.lookup, h⟩
end
end PySem
namespace L2
open PySem PySem.Spec PyProof.Rows
section
variable {X : Cx} {pins : List (Addr × Obj)} {σ : St} {H : Hp} {s : Shared}
theorem inv_freezeT {d : Addr} {kvs : List (List Key × V)} (I : Inv X pins σ H s) (e : H d = some (.dT kvs)) : ∃ o, s.heap.get? d = some o ∧ Inv X pins σ (upd H d (.frz o (.dT kvs))) s := by
 obtain ⟨z, hd, xs, r, o, es, ep, ho, h2, h3, h4, h5⟩ := (show ObjOk X.prog X.w H s.heap d (.dT kvs) from I.hok d _ e)
 refine ⟨o, ho, ?_⟩
 have r' : KT (upd H d (.frz o (.dT kvs))) kvs xs := KT.keeps r fun b ys q => by
  rw [upd_ne (ne_of q e fun z => nomatch z)]
  exact q
 exact d_write (t' := s.toks) I (by rw [e]; exact True.intro) ⟨rfl, fun _ _ => rfl⟩ ⟨o, ho⟩ (show ObjOk X.prog X.w _ s.heap d (.frz o (.dT kvs)) from ⟨ho, z, hd, xs, r', o, es, ep, ho, h2, h3, h4, h5⟩)
noncomputable def Itm (d : Addr) (o : Obj) (kvs : List (List Key × V)) : It :=
  ⟨fun i H => H d = some (.frz o (.dT kvs)) ∧ i < kvs.length,
   fun i H v H' => ∃ T b k x, kvs[i]? = some (k, x) ∧ H b = some (.tup (k.map kV)) ∧ H T = none ∧ v = .ref T ∧ H' = upd H T (.tup [.ref b, x]),
   fun i H => H d = some (.frz o (.dT kvs)) ∧ kvs.length ≤ i⟩
theorem frz_atT {P : Program} {w : World} {h : Heap} {d : Addr} {o : Obj} {es : Array DictEntry} {ep : Nat} {kvs : List (List Key × V)} (hok : HOk P w H h) (e : H d = some (.frz o (.dT kvs))) (hd : o.data = .dict es ep) :
  Plain h d es ep ∧ ∃ xs, KT H kvs xs ∧ es.toList = xs.map (entryOfKey (tupleKind (mixKind P w))) := by
 obtain ⟨ho, z, _, xs, r, o', es', ep', ho', h2, h3, h4, h5⟩ := (show ObjOk P w H h d (.frz o (.dT kvs)) from hok d _ e)
 have : o = o' := Option.some.inj (ho.symm.trans ho')
 subst this
 rw [hd] at h3
 injection h3 with e1 e2
 subst e1
 subst e2
 exact ⟨⟨o, ho, h2, hd⟩, xs, r, h4⟩
theorem kt_len {H : Hp} : ∀ {kvs : List (List Key × V)} {xs : List (List Key × Addr × Value)}, KT H kvs xs → kvs.length = xs.length := fun r => by
 induction r with
 | nil => rfl
 | cons _ _ ih => simp only [List.length_cons, ih]
theorem kt_at {H : Hp} : ∀ {kvs : List (List Key × V)} {xs : List (List Key × Addr × Value)}, KT H kvs xs → ∀ {i : Nat} {k : List Key} {x : V}, kvs[i]? = some (k, x) → ∃ b u, xs[i]? = some (k, b, u) ∧ H b = some (.tup (k.map kV)) ∧ RelV x u := fun r => by
 induction r with
 | nil => intro i k x h; simp at h
 | @cons p q ps qs hq t ih =>
  intro i k x h
  cases i with
  | zero =>
   simp only [List.getElem?_cons_zero, Option.some.injEq] at h
   subst h
   obtain ⟨a, b, c⟩ := q
   obtain ⟨q1, q2, q3⟩ := hq
   have q1 : k = a := q1
   subst q1
   exact ⟨b, c, rfl, q2, q3⟩
  | succ i => exact ih (by simpa using h)
theorem turn_items {P : Program} {w : World} {K : PySem.W.Frag} {elts : List Expr} {kk : Nat} {tp : Pos} (d it : Addr) (o : Obj) (es : Array DictEntry) (ep : Nat) (kvs : List (List Key × V)) (hod : o.data = .dict es ep) :
  Turn P w K (.Tuple elts kk tp) (Itm d o kvs) [it] it (fun i h => ∃ y z, IsItemIter h it d i es.size ep y z) where
 mem := by simp
 obj := fun i h st b hb => by
  have e : b = it := by simpa using hb
  subst e
  obtain ⟨y, z, e⟩ := st
  exact ⟨_, e, fun v z => by cases z⟩
 keep := fun i h h' st k => let ⟨y, z, e⟩ := st; ⟨y, z, k it (by simp) _ e⟩
 item := by
  intro X hP hw hK hc i pins s σ H E I hf st hg
  subst hP hw hK
  obtain ⟨f0, f1, f2, f3, f4, f5⟩ := hf it (by simp)
  obtain ⟨hd, hi⟩ := hg
  obtain ⟨pd, xs, r, hes⟩ := frz_atT I.hok hd hod
  obtain ⟨y, z, st⟩ := st
  have hx : kvs[i]? = some (kvs[i].1, kvs[i].2) := List.getElem?_eq_getElem hi
  obtain ⟨b, u, hxs, hb, ru⟩ := kt_at r hx
  have hen := entry_at hes i
  rw [hxs] at hen
  refine items_next st pd (en := entryOfKey (tupleKind (mixKind X.prog X.w)) (kvs[i].1, b, u)) hen fun h' q1 q2 kp => ?_
  have hT : H s.heap.objs.size = none := I.hok.fresh (Nat.le_refl _)
  have nT : it ≠ s.heap.objs.size := Nat.ne_of_lt (Heap.lt_size st)
  have I1 : Inv X pins σ (upd H s.heap.objs.size (.tup [.ref b, kvs[i].2])) { s with heap := s.heap.push { cls := .type "tuple", data := .seq #[Value.ref b, u] } } :=
   I.laid (t' := s.toks) (fun b o e => Heap.get?_push_of_some _ e) (Nat.le_refl _) (show ObjOk X.prog X.w _ _ _ (.tup [.ref b, kvs[i].2]) from ⟨(by show 2 ≤ sizeLine; decide), [Value.ref b, u], .cons rfl (.cons ru .nil), ⟨_, Heap.get?_push_size _ rfl, rfl, _, rfl⟩⟩)
  have fp : ∀ c ∈ [it], FpOk X pins (upd H s.heap.objs.size (.tup [.ref b, kvs[i].2])) c := fun c hc' => by
   have e : c = it := by simpa using hc'
   subst e
   exact ⟨by rw [upd_ne nT]; exact f0, f1, f2, f3, f4, f5⟩
  have I2 := Inv.turnedL (h' := h') (t' := s.toks) I1 fp fun c v hc' e => by
   have nc : c ≠ it := by simpa using hc'
   rcases Heap.get?_push_cases e with ⟨ec, eo⟩ | e'
   ·rw [ec, eo]
    exact q2
   ·exact kp c v nc e'
  refine ⟨_, rfl, wpAny_letOwnedTupleGo_items (s := { s with heap := h' }) q1 fun h2 b1 sb => ?_⟩
  have I3 := Inv.turnedL (h' := h2) (t' := s.toks) I2 fp fun c v hc' e => (sb.2 c (by simpa using hc')).trans e
  exact ⟨.ref s.heap.objs.size, _, I3, rfl, ⟨_, b, kvs[i].1, kvs[i].2, hx, hb, hT, rfl, rfl⟩, ⟨_, _, b1⟩, fun c hc' => (fp c hc').1⟩
 done := by
  intro X hP hw hK hc i pins s σ H E I hf st hg
  subst hP hw hK
  obtain ⟨hd, hi⟩ := hg
  obtain ⟨pd, xs, r, hes⟩ := frz_atT I.hok hd hod
  obtain ⟨y, z, st⟩ := st
  have hl : es.size = kvs.length := by rw [kt_len r, ← Array.length_toList, hes, List.length_map]
  exact items_end (I.ok.hd hc) st pd (by omega) fun h' eb => ⟨rfl, I.turnedL (t' := s.toks) hf fun c v hc' e => eb c v (by simpa using hc') e⟩
 self := fun _ _ _ _ _ st h => let ⟨y, z, e⟩ := st; items_self e h
end
section
variable {X : Cx}
noncomputable def iItems (to : TE) : TI := fun σ H R => to σ H fun x H1 => ∃ d kvs, x = .ref d ∧ H1 d = some (.dT kvs) ∧ ∀ o, R (Itm d o kvs) (upd H1 d (.frz o (.dT kvs)))
theorem pi_items {elts : List Expr} {kk : Nat} {tp ap cp : Pos} {l : Expr} {to : TE} (ho : PE X l to) (hbase : attributeBase l "items" X.env (eval l X.env) = eval l X.env := by rfl) (hline : (ap.endLine == cp.line) = true := by rfl) :
  PI X (.Tuple elts kk tp) (.Call (.Attribute l "items" ap) [] [] cp) (iItems to) := by
 intro pins s σ H R I h
 refine wpAny_Call_method0_late hbase hline (thn (ho pins s σ H _ I h) fun v s1 ⟨x, H1, I1, r1, q1⟩ => ?_)
 obtain ⟨d, kvs, e, hd, q⟩ := q1
 subst e
 cases (show v = Value.ref d from r1)
 obtain ⟨_, hsy, _, _, o, es, ep, e1, e2, e3, _⟩ := (show ObjOk X.prog X.w H1 s1.heap d (.dT kvs) from I1.hok d _ hd)
 have ty : s1.TypeIs (.ref d) "dict" := ⟨o, e1, e2.1⟩
 refine ⟨"dict", "dict.items", F.plainAttrs_dict, F.slot_dict_items, F.type_dict_items, ty, fun a ea => ?_, Calls.callWith_builtin rfl (PySem.evalArgs_none ?_)⟩
 ·cases ea
  exact ⟨o, e1, e2.2.1⟩
 refine call_meetsIn F.slot_dict_items ty F.entry_dict_items (F.args_dict_items_1 _) (items_spec d hsy) ⟨ty, ?_⟩
 obtain ⟨o', eo, I2⟩ := inv_freezeT I1 hd
 have : o = o' := Option.some.inj (e1.symm.trans eo)
 subst this
 have I3 := I2.kept (t' := s1.toks) (h' := s1.heap.push { cls := .type "dict_items", data := .fields #[.ref d] }) fun b u e => Heap.get?_push_of_some _ e
 refine items_iter (s := { s1 with heap := s1.heap.push { cls := .type "dict_items", data := .fields #[.ref d] } }) (d := d) (es := es) (ep := ep) ⟨_, Heap.get?_push_size _ rfl, rfl, rfl⟩ ⟨o, Heap.get?_push_of_some _ e1, e2, e3⟩ ?_
 refine ⟨_, [(s1.heap.push { cls := .type "dict_items", data := .fields #[.ref d] }).objs.size], _, _, _, rfl, I3.kept (t' := s1.toks) fun b u e => Heap.get?_push_of_some _ e, turn_items d _ o es ep kvs e3, ⟨_, _, Heap.get?_push_size _ rfl⟩, fun b hb => ?_, q o⟩
 have e : b = (s1.heap.push { cls := .type "dict_items", data := .fields #[.ref d] }).objs.size := by simpa using hb
 subst e
 exact I3.fpOk (Nat.le_refl _) (I3.hok.fresh (Nat.le_refl _))
end
section
variable {X : Cx} {tg : Expr} {ifs : List Expr} {inner : Sem Unit} {σ : St} {H : Hp} {d : Addr} {o : Obj} {kvs : List (List Key × V)} {after : St → Hp → Prop}
theorem clause_itemsP (Pv : Nat → St → Hp → Prop) (h0 : Pv 0 σ H) (hl : ∀ i σ' H', i ≤ kvs.length → Pv i σ' H' → H' d = some (.frz o (.dT kvs)))
  (hs : ∀ i k x b T σ' H', kvs[i]? = some (k, x) → Pv i σ' H' → H' b = some (.tup (k.map kV)) → H' T = none → Eg X tg (.ref T) σ' (upd H' T (.tup [.ref b, x])) fun σ2 H3 => Ei X ifs σ2 H3 fun c H4 => if c = true then Ein X inner σ2 H4 (Pv (i + 1)) else Pv (i + 1) σ2 H4)
  (hd : ∀ σ' H', Pv kvs.length σ' H' → after σ' H') : ClauseL X tg ifs inner (Itm d o kvs) after σ H := by
 refine ⟨fun i m σ' H' => m = kvs.length - i ∧ i ≤ kvs.length ∧ Pv i σ' H', ⟨_, rfl, Nat.zero_le _, h0⟩, ?_⟩
 rintro i m σ' H' ⟨rfl, hi, p⟩
 have q := hl i σ' H' hi p
 by_cases hlt : i < kvs.length
 ·refine .inr ⟨⟨q, hlt⟩, Pv (i + 1), fun σ' H' p' => ⟨kvs.length - (i + 1), by omega, rfl, hlt, p'⟩, fun v H2 y => ?_⟩
  obtain ⟨T, b, k, x, hx, hb, hT, rfl, rfl⟩ := y
  exact hs i k x b T σ' _ hx p hb hT
 ·have e : i = kvs.length := by omega
  subst e
  exact .inl ⟨⟨q, Nat.le_refl _⟩, hd σ' H' p⟩
end
end L2
namespace L2
open PySem PySem.Spec PyProof.Rows SetT
noncomputable def evens {α : Type} : List α → List α
 | [] => []
 | [a] => [a]
 | a :: _ :: r => a :: evens r
theorem evens_at {α : Type} : ∀ (xs : List α) (k : Nat), (evens xs)[k]? = xs[2 * k]?
 | [], k => by simp [evens]
 | [a], 0 => rfl
 | [a], k + 1 => by
  show ([] : List α)[k]? = [a][2 * (k + 1)]?
  rw [List.getElem?_eq_none (Nat.zero_le _), List.getElem?_eq_none (by show 1 ≤ _; omega)]
 | a :: b :: r, 0 => rfl
 | a :: b :: r, k + 1 => by
  show (evens r)[k]? = (a :: b :: r)[2 * (k + 1)]?
  rw [evens_at r k, show 2 * (k + 1) = 2 * k + 1 + 1 by omega]
  rfl
theorem evens_len {α : Type} : ∀ (xs : List α), (evens xs).length = (xs.length + 1) / 2
 | [] => by
  show 0 = (0 + 1) / 2
  omega
 | [a] => by
  show 1 = (1 + 1) / 2
  omega
 | a :: b :: r => by
  show (evens r).length + 1 = (r.length + 1 + 1 + 1) / 2
  rw [evens_len r]
  omega
theorem evens_le {α : Type} (xs : List α) : (evens xs).length ≤ xs.length := by
 rw [evens_len]
 omega
theorem evens_vals : ∀ {xs : List V} {us : List Value}, Vals xs us → Vals (evens xs) (evens us)
 | [], us, r => by
  have := r.zero
  subst this
  exact .nil
 | [a], us, r => by
  obtain ⟨u, rfl, ru⟩ := r.one
  exact .cons ru .nil
 | a :: b :: r, us, h => by
  cases h with
  | cons h1 h2 =>
   cases h2 with
   | cons h3 h4 => exact .cons h1 (evens_vals h4)
theorem range_pick {α : Type} (g : Nat → Option α) : ∀ (c : Nat), (∀ k, k < c → ∃ v, g k = some v) → ((List.range c).filterMap g).length = c ∧ ∀ k, k < c → ((List.range c).filterMap g)[k]? = g k
 | 0, _ => ⟨rfl, fun k h => absurd h (Nat.not_lt_zero _)⟩
 | c + 1, h => by
  obtain ⟨h1, h2⟩ := range_pick g c fun k hk => h k (by omega)
  obtain ⟨v, hv⟩ := h c (by omega)
  have e : (List.range (c + 1)).filterMap g = (List.range c).filterMap g ++ [v] := by
   rw [List.range_succ, List.filterMap_append, List.filterMap_cons, hv]
   rfl
  rw [e]
  refine ⟨by rw [List.length_append, h1]; rfl, fun k hk => ?_⟩
  by_cases hk' : k < c
  ·rw [List.getElem?_append_left (by omega)]
   exact h2 k hk'
  ·have : k = c := by omega
   subst this
   rw [List.getElem?_append_right (by omega), h1, Nat.sub_self, hv]
   rfl
theorem pick_evens (its : List Value) : slicePick its.toArray none none (some 2) = (evens its).toArray := by
 unfold slicePick
 have hb : sliceBounds none none (some 2) its.toArray.size = (0, (its.length : Int), 2) := rfl
 rw [hb]
 congr 1
 show ((sliceRange 0 (its.length : Int) 2).filterMap (its.toArray[·]?)) = evens its
 have hr : sliceRange 0 (its.length : Int) 2 = (List.range ((its.length + 1) / 2)).map fun k => 2 * k := by
  unfold sliceRange
  have e1 : (if (2 : Int) > 0 then (if (0 : Int) < (its.length : Int) then ((its.length : Int) - 0 + 2 - 1) / 2 else 0) else (if (0 : Int) > (its.length : Int) then (0 - (its.length : Int) - 2 - 1) / (-2) else 0)).toNat = (its.length + 1) / 2 := by
   rw [if_pos (by decide)]
   split <;> omega
  show (List.range _).map _ = _
  rw [e1]
  exact List.map_congr_left fun k _ => by omega
 rw [hr, List.filterMap_map]
 obtain ⟨h1, h2⟩ := range_pick (fun k => its.toArray[2 * k]?) ((its.length + 1) / 2) fun k hk => ⟨its[2 * k]'(by omega), by rw [← Array.getElem?_toList]; exact List.getElem?_eq_getElem (l := its) (by omega)⟩
 apply List.ext_getElem?
 intro k
 show ((List.range ((its.length + 1) / 2)).filterMap fun k => its.toArray[2 * k]?)[k]? = _
 by_cases hk : k < (its.length + 1) / 2
 ·rw [h2 k hk, evens_at, ← Array.getElem?_toList]
 ·rw [List.getElem?_eq_none (by omega), List.getElem?_eq_none (by rw [evens_len]; omega)]
section
variable {X : Cx} {σ : St} {H : Hp} {Q : VK}
theorem ev_evens {e : Expr} {j : Nat} {p1 p2 pos : Pos} (h : Ev X e σ H fun x H1 => ∃ a xs, x = .ref a ∧ SqL X.K H1 a xs ∧ ∀ p, H1 p = none → Q (.ref p) (upd H1 p (.lst (evens xs)))) :
  Ev X (.Subscript e (.Slice none none (some (.Constant (.int 2) j p1)) p2) pos) σ H Q := by
 refine ⟨fun pins s I => Subscript_ (thn (h.run pins s I) fun v s1 ⟨x, H1, I1, r1, a, xs, ex, hx, q⟩ => ?_)⟩
 subst ex
 cases (show v = Value.ref a from r1)
 refine wpAny_Slice ?_
 rw [evalPart_none]
 refine wpAny_pure (wpAny_pure ?_)
 rw [evalPart_some]
 refine thn ((ev_int (X := X) (i := 2) (j := j) (p := p1) (σ := σ) (H := H1) (Q := fun y H2 => y = .int 2 ∧ H2 = H1) ⟨rfl, rfl⟩).run pins s1 I1) fun v2 s2 ⟨y, H2, I2, r2, ey, eh⟩ => ?_
 subst ey eh
 obtain ⟨t, rfl⟩ := r2
 obtain ⟨its, r, pl, hz⟩ := I2.list hx
 have hlen := r.length
 have I3 : Inv X pins σ H2 { s2 with heap := s2.heap.push { cls := .type "slice", data := .fields #[.none, .none, .int 2 t] } } := I2.kept (t' := s2.toks) fun b ob q => Heap.get?_push_of_some _ q
 have pl3 := pl.isList.push { cls := .type "slice", data := .fields #[.none, .none, .int 2 t] }
 show wpAny (model X.prog X.w) X.A (subscriptTail e _ (.ref a) (.ref s2.heap.objs.size)) (EP X pins σ Q) X.xe { s2 with heap := s2.heap.push { cls := .type "slice", data := .fields #[.none, .none, .int 2 t] } }
 refine tail_any (ops := [.ref a, .ref s2.heap.objs.size]) (T := "list") (Heap.IsList.typeIs (s := { s2 with heap := s2.heap.push { cls := .type "slice", data := .fields #[.none, .none, .int 2 t] } }) pl3) slot_list_getitem.lookup ?_ (by with_unfolding_all rfl)
 refine wpAny_getItem_list_slice (s := { s2 with heap := s2.heap.push { cls := .type "slice", data := .fields #[.none, .none, .int 2 t] } }) pl3 (Heap.IsSliceOf.new ..) .none .none (.int 2 t) (by decide) ?_ (by rw [List.size_toArray]; omega)
 rw [pick_evens]
 exact ⟨.ref _, _, I3.lnew (t' := s2.toks) (evens_vals r) (Nat.le_trans (evens_le _) hz), rfl, q _ I3.fresh⟩
end
section
variable {prog : Program} {w : World} {A : Around} {E : Value → Shared → Prop} {s : Shared}
theorem code_new0 {Q : Value → Shared → Prop} (k : Q (.ref s.heap.objs.size) { s with heap := s.heap.push (setNew w) }) : codeAny (model prog w) A (.call (.builtin "set.__new__") ⟨[.type "set"], []⟩) (wants Q E) s := by
 refine codeAny_of_tree ?_
 show wpAny _ A.in1 (checkBuiltinCall "set.__new__" ⟨[.type "set"], []⟩ >>= fun _ => again (.builtin "set.__new__" ⟨[.type "set"], []⟩)) _ _ s
 refine wpAny_bind (wpAny_of_eq PySem.F.newCall_set_0 (wpAny_pure ⟨plainId_quiet PySem.F.plain_set_new _, codeAny_builtin PySem.F.entry_set_new ?_⟩))
 rw [Around.under_plainId PySem.F.plain_set_new _]
 unfold Builtin.«set.__new__» Builtin.Frozenset.newClass
 dsimp only
 refine wpAny_bind (wpAny_bind (wpAny_of_eq (show isType (.type "set") = pure true from rfl) (wpAny_pure ?_)))
 simp only [Bool.not_true, Bool.false_eq_true, if_false]
 unfold newSet
 refine wpAny_bind (wpAny_bind (wp_text ?_))
 dsimp only
 simp only [newObj]
 exact wpAny_bind (wpAny_alloc (wpAny_pure (wpAny_pure k)))
theorem call_set0 {Q : Value → Shared → Prop} (k : Q (.ref s.heap.objs.size) { s with heap := s.heap.push (setNew w) }) : wpAny (model prog w) A (call (.type "set") []) Q E s := by
 obtain ⟨c, tl, hmro⟩ := PySem.F.called_set.mro
 have hmade := PySem.F.called_set.made
 have hsub := PySem.F.called_set.sub
 refine wpAny_call (codeAny_of_tree ?_)
 show wpAny _ _ (callAny (.type "set") _) _ _ _
 refine wpAny_pure ⟨Code.quiet_builtin _ (by decide +kernel), codeAny_builtin PySem.F.entry_type_call ?_⟩
 rw [Around.under_plain (weight_type_call_type "set" [] []) rfl]
 have h1 := PySem.F.called_set.notType
 have h2 := PySem.F.called_set.canCreate
 have h3 := PySem.F.typeCall_set_0
 repeat (any_goals (first | assumption | wp_step))
 refine codeAny_mono (code_new0 (E := E) (Q := fun v u => v = .ref s.heap.objs.size ∧ u = { s with heap := s.heap.push (setNew w) }) ⟨rfl, rfl⟩) fun r u hr => ?_
 cases r with
 | error e => exact hr
 | ok fl =>
  cases fl with
  | ret v =>
   obtain ⟨rfl, rfl⟩ := hr
   have hT : Shared.TypeIs { s with heap := s.heap.push (setNew w) } (.ref s.heap.objs.size) "set" := ⟨_, Heap.get?_push_size _ rfl, rfl⟩
   have hli := PySem.F.called_set.init.lookup
   have hbi := PySem.F.called_set.init.bind (.ref s.heap.objs.size)
   repeat (any_goals (first | assumption | wp_step))
   refine codeAny_mono (codeAny_call_builtin (R := wants (fun r u => r = .none ∧ Q (.ref s.heap.objs.size) u) E) PySem.F.called_set.init.plain PySem.F.entry_set_init (check_set_init hT ?_)) fun r2 u2 hr2 => ?_
   ·unfold Builtin.«set.__init__» noKeywords
    wp_walk
    exact ⟨rfl, k⟩
   ·cases r2 with
    | error e => exact hr2
    | ok f2 =>
     cases f2 with
     | ret r =>
      obtain ⟨rfl, hq⟩ := hr2
      repeat (any_goals (first | assumption | wp_step))
     | _ => exact hr2.elim
  | _ => exact hr.elim
theorem notin_set {a : Addr} {zs : List Str} {z : Str} {tk : Tok} {Q : Value → Shared → Prop} (S : SetAt prog w s.heap a zs) (h : Q (.bool (decide (z ∉ zs))) { s with toks := s.toks + 1 }) : wpAny (model prog w) A (compareOp .NotIn (.str z tk) (.ref a)) Q E s := by
 have hT := S.typeIs
 show wpAny _ _ (do return .bool (!(← contains (.ref a) (.str z tk)))) Q E s
 refine wpAny_bind ?_
 unfold contains
 try with_reducible refine wpAny_holding ?_
 refine wpAny_bind (wpAny_specialOf hT PySem.F.slot_set_contains.lookup ?_)
 show wpAny _ _ (if (some (Value.builtin "set.__contains__") == some Value.none) = true then _ else _) _ E s
 rw [if_neg (by rw [beq_builtin_none]; exact Bool.false_ne_true)]
 refine wpAny_bind (wpAny_callSpecialUnlessNone?_slot (name := Str.ofString "__contains__") hT PySem.F.slot_set_contains (wpAny_call_entry PySem.F.slot_set_contains hT entry_set_contains ?_ (PySem.F.args_set_contains_2 _ _)))
 unfold Builtin.«frozenset.__contains__» Builtin.Frozenset.oneOther
 simp only [List.isEmpty_nil, bind_assoc]
 unfold Builtin.Frozenset.addrOf Builtin.Frozenset.withSetAsKey setContains
 refine wpAny_bind (wpAny_pure ?_)
 try dsimp only
 refine wpAny_bind (wpAny_pure ?_)
 try dsimp only
 refine wpAny_bind (wpAny_tryCatch (wpAny_holding ?_))
 refine wpAny_bind ((strKind prog w).pyHash (k := z) (strKind_is _ _ _ _) ?_)
 obtain ⟨o, es, ep, t, ho, hx, hd, T⟩ := S
 refine wpAny_bind (wp_find (s := { s with toks := s.toks + 1 }) ho hd T (fun hz => ?_) (fun j hj e => ?_))
 ·refine wpAny_pure ?_
  show wpAny _ _ (ret (Value.bool false)) _ _ _
  rw [decide_eq_true hz] at h
  exact wpAny_pure ⟨_, rfl, wpAny_truthy_bool (wpAny_pure h)⟩
 ·refine wpAny_pure ?_
  show wpAny _ _ (ret (Value.bool true)) _ _ _
  have hz : z ∈ zs := T.keys.mem_iff.mp (by rw [← e]; exact List.mem_map.mpr ⟨_, List.getElem_mem hj, rfl⟩)
  rw [decide_eq_false (not_not_intro hz)] at h
  exact wpAny_pure ⟨_, rfl, wpAny_truthy_bool (wpAny_pure h)⟩
end
section
variable {X : Cx} {σ : St} {H : Hp} {Q : VK}
theorem ev_set0 {p pos : Pos} (hm : X.mg "set" = none) (h : ∀ D, H D = none → Q (.ref D) (upd H D (SetO X.prog X.w D []))) (hg : Gl X "set" := by rfl) : Ev X (.Call (.Name "set" p) [] [] pos) σ H Q := by
 refine ⟨fun pins s I => Call_ (ld_blt I hg hm PyProof.Rows.boot_set (PyProof.Rows.callWith_type0 (call_set0 ?_)))⟩
 exact ⟨.ref s.heap.objs.size, _, I.laid (t' := s.toks) (fun b o e => Heap.get?_push_of_some _ e) (Nat.le_refl _) (set_obj (setNew_at (Heap.get?_push_size _ rfl))), rfl, h _ I.fresh⟩
theorem op_notin_set : OpR X (compareOp .NotIn) (fun x y H Q => ∃ z a zs, x = .str z ∧ y = .ref a ∧ H a = some (SetO X.prog X.w a zs) ∧ Q (.bl (decide (z ∉ zs))) H) := by
 intro pins s σ H x y v u Q I rx ry h
 obtain ⟨z, a, zs, rfl, rfl, hA, q⟩ := h
 obtain ⟨t, rfl⟩ := rx
 cases (show u = Value.ref a from ry)
 exact notin_set (I.set hA) ⟨.bl _, H, I.tok _, rfl, q⟩
theorem ev_addS {o e : Expr} {ap cp : Pos} (h : Ev X o σ H fun x H1 => ∃ a, x = .ref a ∧ (∃ zs, H1 a = some (SetO X.prog X.w a zs)) ∧ Ev X e σ H1 fun y H2 => ∃ z zs, y = .str z ∧ H2 a = some (SetO X.prog X.w a zs) ∧ zs.length + 1 < 1000 ∧ Q .non (upd H2 a (SetO X.prog X.w a (added zs z))))
  (hbase : attributeBase o "add" X.env (eval o X.env) = eval o X.env := by rfl)
  (hfew : ((backTo cp (starEach [e] X.env)).all (fun x => !x.1) && (backToKw cp (keywordEach [] X.env)).all (fun x => x.1.isSome) && decide ([e].length + ([] : List Keyword).length + (if ([] : List Keyword).isEmpty then 0 else 1) < 30)) = true := by rfl)
  (hline : (ap.endLine == cp.line) = true := by rfl) (hs : starEach [e] X.env = (false, eval e X.env) :: starEach [] X.env := by rfl) (hst : isStar e = false := by rfl) : Ev X (.Call (.Attribute o "add" ap) [e] [] cp) σ H Q := by
 refine ⟨fun pins s I => wpAny_Call_method_late hbase hfew hline rfl (thn (h.run pins s I) fun v s1 ⟨x, H1, I1, r1, a, ex, ⟨zs, hA⟩, h2⟩ => ?_)⟩
 subst ex
 cases (show v = Value.ref a from r1)
 have S := I1.set hA
 refine ⟨"set", "set.add", PySem.F.plainAttrs_set, PySem.F.slot_set_add, PySem.F.type_set_add, S.typeIs, fun b eb => ?_, ?_⟩
 ·cases eb
  obtain ⟨o, _, _, _, ho, hx, _⟩ := S
  exact ⟨o, ho, hx.2.1⟩
 have hE : Ea X [e] σ H1 (fun ys H2 => ∃ z zs, ys = [.str z] ∧ H2 a = some (SetO X.prog X.w a zs) ∧ zs.length + 1 < 1000 ∧ Q .non (upd H2 a (SetO X.prog X.w a (added zs z)))) := ea_cons (h2.mono fun y H2 ⟨z, zs, ey, q⟩ => ea_nil ⟨z, zs, by rw [ey], q⟩) hst
 have hA2 := hE.run cp pins s1 I1
 rw [hs] at hA2 ⊢
 refine Calls.callWith_builtin rfl (Calls.evalArgs_plain ?_)
 refine thn hA2 fun us s2 ⟨vs, H2, I2, r2, z, ys, ev, hA3, hl, q⟩ => ?_
 subst ev
 obtain ⟨u, rfl, ru⟩ := vals1 r2
 obtain ⟨tk, rfl⟩ := ru
 refine call_add (I2.set hA3) hl fun h' sb S' => ⟨.non, _, d_write (t' := s2.toks + 1) I2 (by rw [hA3]; exact True.intro) sb ?_ (set_obj S'), rfl, q⟩
 obtain ⟨o, _, _, _, ho, _⟩ := S'
 exact ⟨o, ho⟩
end
end L2
namespace Nt
open PySem L2
noncomputable def rnd (c : Int) (n : Net) (e : End) : End := (e.1, (((e.2 : Int) + c) % ((row n e.1).length : Int)).toNat)
theorem rnd_int {c : Int} {n : Net} {e : End} (h : e ∈ ends n) : (((rnd c n e).2 : Nat) : Int) = ((e.2 : Int) + c) % ((row n e.1).length : Int) := by
 obtain ⟨z, hz⟩ := mem_ends.mp h
 have := end_lt hz
 exact Int.toNat_of_nonneg (Int.emod_nonneg _ (by omega))
theorem rnd_end {c : Int} {n : Net} {e : End} (h : e ∈ ends n) : rnd c n e ∈ ends n := by
 obtain ⟨z, hz⟩ := mem_ends.mp h
 have h1 := end_lt hz
 have h2 := rnd_int (c := c) h
 have h3 : ((e.2 : Int) + c) % ((row n e.1).length : Int) < ((row n e.1).length : Int) := Int.emod_lt_of_pos _ (by omega)
 exact mem_ends.mpr (end_of (e := rnd c n e) (by show (rnd c n e).2 < (row n e.1).length; omega))
theorem rnd_back {c : Int} {n : Net} {e : End} (h : e ∈ ends n) : rnd (-c) n (rnd c n e) = e := by
 have h2 := rnd_int (c := c) h
 have h3 := rnd_int (c := -c) (rnd_end (c := c) h)
 obtain ⟨z, hz⟩ := mem_ends.mp h
 have h1 := end_lt hz
 have hr : (rnd c n e).1 = e.1 := rfl
 rw [hr, h2] at h3
 have e1 : (((e.2 : Int) + c) % ((row n e.1).length : Int) + -c) % ((row n e.1).length : Int) = (e.2 : Int) := by
  have : (((e.2 : Int) + c) % ((row n e.1).length : Int) + -c) % ((row n e.1).length : Int) = ((e.2 : Int) + c + -c) % ((row n e.1).length : Int) := by
   rw [Int.add_emod, Int.emod_emod, ← Int.add_emod]
  rw [this, show (e.2 : Int) + c + -c = (e.2 : Int) by omega]
  exact Int.emod_eq_of_lt (by omega) (by omega)
 rw [e1] at h3
 have h4 : (rnd (-c) n (rnd c n e)).2 = e.2 := by omega
 exact Prod.ext rfl h4
theorem rnd_inj {c : Int} {n : Net} {a b : End} (ha : a ∈ ends n) (hb : b ∈ ends n) (h : rnd c n a = rnd c n b) : a = b := by
 rw [← rnd_back (c := c) ha, ← rnd_back (c := c) hb, h]
theorem left_rnd {n : Net} {e : End} (h : e ∈ ends n) : left n e = rnd 1 n e := by
 have h2 := rnd_int (c := 1) h
 refine Prod.ext rfl ?_
 show (e.2 + 1) % (row n e.1).length = (rnd 1 n e).2
 have : (((e.2 + 1) % (row n e.1).length : Nat) : Int) = ((e.2 : Int) + 1) % ((row n e.1).length : Int) := by simp
 omega
noncomputable def go (c : Int) (n : Net) (e : End) : End := rnd c n (other n e)
theorem go_end {c : Int} {n : Net} (T : Twice n) {e : End} (h : e ∈ ends n) : go c n e ∈ ends n := rnd_end (other_end T h)
theorem go_inj {c : Int} {n : Net} (T : Twice n) {a b : End} (ha : a ∈ ends n) (hb : b ∈ ends n) (h : go c n a = go c n b) : a = b := other_inj T ha hb (rnd_inj (other_end T ha) (other_end T hb) h)
theorem step_go {n : Net} (T : Twice n) {e : End} (h : e ∈ ends n) : step n e = go 1 n e := left_rnd (other_end T h)
noncomputable def two (n : Net) (e : End) : End := go (-1) n (go 1 n e)
theorem two_end {n : Net} (T : Twice n) {e : End} (h : e ∈ ends n) : two n e ∈ ends n := go_end T (go_end T h)
theorem two_inj {n : Net} (T : Twice n) {a b : End} (ha : a ∈ ends n) (hb : b ∈ ends n) (h : two n a = two n b) : a = b := go_inj T ha hb (go_inj T (go_end T ha) (go_end T hb) h)
noncomputable def wk (n : Net) (e : End) : Nat → List End
 | 0 => []
 | k + 1 => wk n e k ++ [it (two n) k e, go 1 n (it (two n) k e)]
theorem wk_len (n : Net) (e : End) : ∀ k, (wk n e k).length = 2 * k
 | 0 => rfl
 | k + 1 => by
  show (wk n e k ++ _).length = _
  rw [List.length_append, wk_len n e k]
  show 2 * k + 2 = _
  omega
theorem wk_even (n : Net) (e : End) : ∀ (k i : Nat), i < k → (wk n e k)[2 * i]? = some (it (two n) i e)
 | 0, i, h => absurd h (Nat.not_lt_zero _)
 | k + 1, i, h => by
  show (wk n e k ++ [it (two n) k e, go 1 n (it (two n) k e)])[2 * i]? = _
  have l := wk_len n e k
  by_cases hk : i < k
  ·rw [List.getElem?_append_left (by omega)]
   exact wk_even n e k i hk
  ·have : i = k := by omega
   subst this
   rw [List.getElem?_append_right (by omega), l, Nat.sub_self]
   rfl
theorem wk_odd (n : Net) (e : End) : ∀ (k i : Nat), i < k → (wk n e k)[2 * i + 1]? = some (go 1 n (it (two n) i e))
 | 0, i, h => absurd h (Nat.not_lt_zero _)
 | k + 1, i, h => by
  show (wk n e k ++ [it (two n) k e, go 1 n (it (two n) k e)])[2 * i + 1]? = _
  have l := wk_len n e k
  by_cases hk : i < k
  ·rw [List.getElem?_append_left (by omega)]
   exact wk_odd n e k i hk
  ·have : i = k := by omega
   subst this
   rw [List.getElem?_append_right (by omega), l, show 2 * i + 1 - 2 * i = 1 by omega]
   rfl
theorem wk_evens (n : Net) (e : End) (k : Nat) : evens (wk n e k) = (List.range k).map fun i => it (two n) i e := by
 apply List.ext_getElem?
 intro i
 rw [evens_at, List.getElem?_map]
 by_cases h : i < k
 ·rw [wk_even n e k i h, List.getElem?_range h]
  rfl
 ·rw [List.getElem?_eq_none (by rw [wk_len]; omega), List.getElem?_eq_none (by rw [List.length_range]; omega)]
  rfl
theorem wk_ends {n : Net} (T : Twice n) {e : End} (h : e ∈ ends n) : ∀ k, ∀ c ∈ wk n e k, c ∈ ends n
 | 0, c, hc => by cases hc
 | k + 1, c, hc => by
  have hk : it (two n) k e ∈ ends n := it_mem (fun a ha => two_end T ha) h k
  rcases List.mem_append.mp hc with hc | hc
  ·exact wk_ends T h k c hc
  ·rcases List.mem_cons.mp hc with rfl | hc
   ·exact hk
   ·rw [List.mem_singleton.mp hc]
    exact go_end T hk
structure Per (n : Net) (e : End) (k : Nat) : Prop where
 pos : 0 < k
 back : it (two n) k e = e
 first : ∀ i, 0 < i → i < k → it (two n) i e ≠ e
theorem Per.unique {n : Net} {e : End} {k l : Nat} (a : Per n e k) (b : Per n e l) : k = l := by
 rcases Nat.lt_trichotomy k l with h | h | h
 ·exact absurd a.back (b.first k a.pos h)
 ·exact h
 ·exact absurd b.back (a.first l b.pos h)
noncomputable def per (n : Net) (e : End) : Nat := by classical exact if h : ∃ k, Per n e k then h.choose else 0
theorem per_eq {n : Net} {e : End} {k : Nat} (h : Per n e k) : per n e = k := by
 have hx : ∃ k, Per n e k := ⟨k, h⟩
 unfold per
 rw [dif_pos hx]
 exact hx.choose_spec.unique h
noncomputable def walker (n : Net) (e : End) : List End := wk n e (per n e)
structure IsWk (n : Net) (ws : List End) : Prop where
 ends : ∀ c ∈ ws, c ∈ Nt.ends n
 ne0 : 0 < ws.length
 even : ws.length % 2 = 0
 few : ws.length ≤ 2 * (Nt.ends n).length
 at' : ∀ k, k < ws.length → ∃ c, ws[k]? = some c ∧ ws[(k + 1) % ws.length]? = some (go (1 - 2 * ((k : Int) % 2)) n c)
theorem per_wk {n : Net} (T : Twice n) {e : End} (h : e ∈ Nt.ends n) {k : Nat} (p : Per n e k) (hk : k ≤ (Nt.ends n).length) : IsWk n (wk n e k) := by
 have l := wk_len n e k
 have p0 := p.pos
 refine ⟨wk_ends T h k, by omega, by omega, by omega, fun j hj => ?_⟩
 rw [l] at hj ⊢
 rcases Nat.mod_two_eq_zero_or_one j with h2 | h2
 ·obtain ⟨i, rfl⟩ : ∃ i, j = 2 * i := ⟨j / 2, by omega⟩
  refine ⟨_, wk_even n e k i (by omega), ?_⟩
  rw [Nat.mod_eq_of_lt (by omega), wk_odd n e k i (by omega)]
  have : (1 : Int) - 2 * (((2 * i : Nat) : Int) % 2) = 1 := by omega
  rw [this]
 ·obtain ⟨i, rfl⟩ : ∃ i, j = 2 * i + 1 := ⟨j / 2, by omega⟩
  refine ⟨_, wk_odd n e k i (by omega), ?_⟩
  have e1 : (1 : Int) - 2 * (((2 * i + 1 : Nat) : Int) % 2) = -1 := by omega
  rw [e1]
  show _ = some (two n (it (two n) i e))
  by_cases hl : i + 1 < k
  ·rw [Nat.mod_eq_of_lt (by omega), show 2 * i + 1 + 1 = 2 * (i + 1) by omega]
   exact wk_even n e k (i + 1) hl
  ·have : i + 1 = k := by omega
   rw [show 2 * i + 1 + 1 = 2 * k by omega, Nat.mod_self]
   have e2 : two n (it (two n) i e) = it (two n) k e := by rw [← this]; rfl
   rw [e2, p.back]
   exact wk_even n e k 0 (by omega)
noncomputable def tnm (n : Net) (e : End) : Str := (tieAt n e).getD ⟨#[]⟩
theorem tnm_eq {n : Net} {e : End} {z : Str} (h : tieAt n e = some z) : tnm n e = z := by unfold tnm; rw [h]; rfl
noncomputable def wks (n : Net) : List End → List Str → List (List End)
 | [], _ => []
 | e :: r, told => if tnm n e ∈ told then wks n r told else walker n e :: wks n r (told ++ (evens (walker n e)).map (tnm n))
end Nt
namespace Nt
open PySem L2
theorem per_some {n : Net} (T : Twice n) {e : End} (h : e ∈ ends n) : ∃ k, Per n e k ∧ k ≤ (ends n).length := by
 obtain ⟨k, k0, k1, k2⟩ := comes_back (f := two n) (S := ends n) (fun a ha => two_end T ha) (fun a ha b hb => two_inj T ha hb) h
 have aux : ∀ m, ∀ k, k ≤ m → 0 < k → it (two n) k e = e → ∃ j, j ≤ k ∧ Per n e j := by
  intro m
  induction m with
  | zero => intro k h1 h2; omega
  | succ m ih =>
   intro k h1 h2 h3
   by_cases c : ∃ i, 0 < i ∧ i < k ∧ it (two n) i e = e
   ·obtain ⟨i, i1, i2, i3⟩ := c
    obtain ⟨j, j1, j2⟩ := ih i (by omega) i1 i3
    exact ⟨j, by omega, j2⟩
   ·exact ⟨k, Nat.le_refl _, h2, h3, fun i i1 i2 i3 => c ⟨i, i1, i2, i3⟩⟩
 obtain ⟨j, j1, j2⟩ := aux k k (Nat.le_refl _) k0 k2
 exact ⟨j, j2, by omega⟩
theorem walker_ok {n : Net} (T : Twice n) {e : End} (h : e ∈ ends n) : IsWk n (walker n e) := by
 obtain ⟨k, p, hk⟩ := per_some T h
 unfold walker
 rw [per_eq p]
 exact per_wk T h p hk
theorem wks_ok {n : Net} (T : Twice n) : ∀ (es : List End) (told : List Str), (∀ e ∈ es, e ∈ ends n) → ∀ w ∈ wks n es told, IsWk n w
 | [], _, _, w, hw => by cases hw
 | e :: r, told, h, w, hw => by
  unfold wks at hw
  split at hw
  ·exact wks_ok T r told (fun a ha => h a (List.mem_cons_of_mem _ ha)) w hw
  ·rcases List.mem_cons.mp hw with rfl | hw
   ·exact walker_ok T (h e (List.mem_cons_self ..))
   ·exact wks_ok T r _ (fun a ha => h a (List.mem_cons_of_mem _ ha)) w hw
theorem wks_len (n : Net) : ∀ (es : List End) (told : List Str), (wks n es told).length ≤ es.length
 | [], _ => Nat.le_refl _
 | e :: r, told => by
  unfold wks
  split
  ·have := wks_len n r told
   show _ ≤ r.length + 1
   omega
  ·have := wks_len n r (told ++ (evens (walker n e)).map (tnm n))
   show _ + 1 ≤ r.length + 1
   omega
end Nt
namespace Nt
open PySem L2
end Nt
namespace Nt
variable {α β : Type}
noncomputable def Pth (f : α → α) : List α → α → α → Prop
 | [], a, b => a = b
 | x :: l, a, b => x = a ∧ Pth f l (f x) b
theorem pth_app {f : α → α} : ∀ {l k : List α} {a b : α}, Pth f (l ++ k) a b ↔ ∃ c, Pth f l a c ∧ Pth f k c b
 | [], k, a, b => ⟨fun h => ⟨a, rfl, h⟩, fun ⟨c, e, h⟩ => by cases e; exact h⟩
 | x :: l, k, a, b => by
  show (x = a ∧ Pth f (l ++ k) (f x) b) ↔ ∃ c, (x = a ∧ Pth f l (f x) c) ∧ Pth f k c b
  rw [pth_app]
  exact ⟨fun ⟨e, c, h1, h2⟩ => ⟨c, ⟨e, h1⟩, h2⟩, fun ⟨c, ⟨e, h1⟩, h2⟩ => ⟨e, c, h1, h2⟩⟩
theorem pth_map {f : α → α} {f' : β → β} {g : α → β} : ∀ {l : List α} {a b : α}, (∀ x ∈ l, f' (g x) = g (f x)) → Pth f l a b → Pth f' (l.map g) (g a) (g b)
 | [], _, _, _, h => congrArg g h
 | x :: l, a, b, hg, h => ⟨congrArg g h.1, by rw [hg x List.mem_cons_self]; exact pth_map (fun y hy => hg y (List.mem_cons_of_mem _ hy)) h.2⟩
theorem pth_tail {f : α → α} : ∀ {l : List α} {x a b y : α}, Pth f (x :: l) a b → y ∈ x :: l → f y ∈ l ∨ f y = b
 | [], x, a, b, y, h, hy => by
  rw [List.mem_singleton] at hy
  subst hy
  exact .inr h.2
 | z :: l, x, a, b, y, h, hy => by
  rcases List.mem_cons.mp hy with rfl | hy
  ·exact .inl (by rw [← h.2.1]; exact List.mem_cons_self)
  ·rcases pth_tail h.2 hy with q | q
   ·exact .inl (List.mem_cons_of_mem _ q)
   ·exact .inr q
theorem pth_closed {f : α → α} {l : List α} {a y : α} (h : Pth f l a a) (ha : a ∈ l) (hy : y ∈ l) : f y ∈ l := by
 cases l with
 | nil => cases hy
 | cons x l =>
  rcases pth_tail h hy with q | q
  ·exact List.mem_cons_of_mem _ q
  ·rw [q]; exact ha
theorem pth_to {f : α → α} {f' : β → β} {g : α → β} {c : α} {h : β} : ∀ {l : List α} {x : α}, (∀ y ∈ x :: l, f y = c → f' (g y) = h) → (∀ y ∈ x :: l, f y ≠ c → f' (g y) = g (f y)) → c ∉ l → Pth f (x :: l) x c → Pth f' ((x :: l).map g) (g x) h
 | [], x, h1, _, _, p => ⟨rfl, h1 x List.mem_cons_self p.2⟩
 | y :: l, x, h1, h2, hc, p => by
  have e : y = f x := p.2.1
  have ne : f x ≠ c := fun q => hc (by rw [← q, ← e]; exact List.mem_cons_self)
  refine ⟨rfl, ?_⟩
  rw [h2 x List.mem_cons_self ne, ← e]
  refine pth_to (fun z hz => h1 z (List.mem_cons_of_mem _ hz)) (fun z hz => h2 z (List.mem_cons_of_mem _ hz)) (fun q => hc (List.mem_cons_of_mem _ q)) ?_
  exact ⟨rfl, p.2.2⟩
structure Dec (f : α → α) (D : List α) (Ls : List (List α)) : Prop where
 cyc : ∀ l ∈ Ls, ∃ a, a ∈ l ∧ Pth f l a a
 all : Ls.flatten.Perm D
 nd : D.Nodup
theorem Dec.sub {f : α → α} {D : List α} {Ls : List (List α)} (d : Dec f D Ls) {l : List α} (hl : l ∈ Ls) {x : α} (hx : x ∈ l) : x ∈ D :=
 d.all.mem_iff.mp (List.mem_flatten.mpr ⟨l, hl, hx⟩)
theorem Dec.pick {f : α → α} {D : List α} {Ls : List (List α)} (d : Dec f D Ls) {c : α} (hc : c ∈ D) : ∃ l Ms, Ls.length = Ms.length + 1 ∧ Dec f D ((c :: l) :: Ms) := by
 obtain ⟨l, hl, hcl⟩ := List.mem_flatten.mp (d.all.mem_iff.mpr hc)
 obtain ⟨A, B, rfl⟩ := List.append_of_mem hl
 obtain ⟨p, q, rfl⟩ := List.append_of_mem hcl
 obtain ⟨a, ha, h⟩ := d.cyc _ hl
 obtain ⟨m, h1, h2⟩ := pth_app.mp h
 have e : c = m := h2.1
 subst e
 refine ⟨q ++ p, A ++ B, by simp [Nat.add_assoc], fun k hk => ?_, ?_, d.nd⟩
 ·rcases List.mem_cons.mp hk with rfl | hk
  ·exact ⟨c, List.mem_cons_self, pth_app (l := c :: q).mpr ⟨a, h2, h1⟩⟩
  ·refine d.cyc k ?_
   rcases List.mem_append.mp hk with q | q
   ·exact List.mem_append_left _ q
   ·exact List.mem_append_right _ (List.mem_cons_of_mem _ q)
 ·refine List.Perm.trans ?_ d.all
  simp only [List.flatten_cons, List.flatten_append, List.cons_append]
  have e1 : (c :: (q ++ p)).Perm (p ++ c :: q) := by
   rw [← List.cons_append]
   exact List.perm_append_comm
  refine ((e1.append_right _).trans ?_)
  rw [← List.append_assoc, ← List.append_assoc]
  exact (List.perm_append_comm).append_right _
theorem Dec.apart {f : α → α} {D : List α} {l : List α} {Ms : List (List α)} (d : Dec f D (l :: Ms)) : l.Nodup ∧ ∀ m ∈ Ms, ∀ x ∈ l, x ∉ m := by
 have h := d.all.nodup_iff.mpr d.nd
 rw [List.flatten_cons, List.nodup_append] at h
 exact ⟨h.1, fun m hm x hx hxm => h.2.2 x hx x (List.mem_flatten.mpr ⟨m, hm, hxm⟩) rfl⟩
theorem flatten_map {g : α → β} : ∀ (Ls : List (List α)), (Ls.map (List.map g)).flatten = Ls.flatten.map g
 | [] => rfl
 | l :: Ls => by rw [List.map_cons, List.flatten_cons, flatten_map Ls, List.flatten_cons, List.map_append]
theorem Dec.rest {f : α → α} {f' : β → β} {g : α → β} {D : List α} {l : List α} {Ms : List (List α)} (d : Dec f D (l :: Ms)) (ho : ∀ x ∈ D, f x ∉ l → f' (g x) = g (f x)) : ∀ m ∈ Ms.map (List.map g), ∃ a, a ∈ m ∧ Pth f' m a a := by
 intro m hm
 obtain ⟨k, hk, rfl⟩ := List.mem_map.mp hm
 obtain ⟨a, ha, p⟩ := d.cyc k (List.mem_cons_of_mem _ hk)
 refine ⟨g a, List.mem_map.mpr ⟨a, ha, rfl⟩, pth_map (fun x hx => ho x (d.sub (List.mem_cons_of_mem _ hk) hx) fun q => ?_) p⟩
 exact d.apart.2 k hk _ q (pth_closed p ha hx)
theorem Dec.grow {f : α → α} {f' : β → β} {g : α → β} {D : List α} {c : α} {l : List α} {Ms : List (List α)} (d : Dec f D ((c :: l) :: Ms)) {new : List β} {h : β} (hn : Pth f' new h (g c)) (hh : ∀ x ∈ D, f x = c → f' (g x) = h) (ho : ∀ x ∈ D, f x ≠ c → f' (g x) = g (f x)) (nd : (D.map g ++ new).Nodup) :
  Dec f' (D.map g ++ new) (((c :: l).map g ++ new) :: Ms.map (List.map g)) := by
 have ap := d.apart
 have hcl : c ∉ l := (List.nodup_cons.mp ap.1).1
 refine ⟨fun k hk => ?_, ?_, nd⟩
 ·rcases List.mem_cons.mp hk with rfl | hk
  ·obtain ⟨a, ha, p⟩ := d.cyc _ List.mem_cons_self
   have e : c = a := p.1
   subst e
   exact ⟨g c, List.mem_append_left _ List.mem_cons_self, pth_app.mpr ⟨h, pth_to (fun y hy => hh y (d.sub List.mem_cons_self hy)) (fun y hy => ho y (d.sub List.mem_cons_self hy)) hcl p, hn⟩⟩
  ·exact d.rest (fun x hx q => ho x hx fun e => q (by rw [e]; exact List.mem_cons_self)) k hk
 ·rw [List.flatten_cons, flatten_map]
  have := d.all.map g
  rw [List.flatten_cons, List.map_append] at this
  refine List.Perm.trans ?_ (this.append_right new)
  rw [List.append_assoc, List.append_assoc]
  exact (List.perm_append_comm).append_left _
theorem Dec.split {f : α → α} {f' : β → β} {g : α → β} {D : List α} {c d0 : α} {l : List α} {Ms : List (List α)} (d : Dec f D ((c :: l) :: Ms)) (hd : d0 ∈ l) {e1 e2 : β} (h1 : f' e1 = g d0) (h2 : f' e2 = g c) (hc : ∀ x ∈ D, f x = c → f' (g x) = e1) (hc2 : ∀ x ∈ D, f x = d0 → f' (g x) = e2) (ho : ∀ x ∈ D, f x ≠ c → f x ≠ d0 → f' (g x) = g (f x)) (nd : (D.map g ++ [e1, e2]).Nodup) :
  ∃ Ls, Ls.length = Ms.length + 2 ∧ Dec f' (D.map g ++ [e1, e2]) Ls ∧ ∃ l ∈ Ls, e2 ∈ l ∧ e1 ∉ l := by
 have ap := d.apart
 obtain ⟨p, q, rfl⟩ := List.append_of_mem hd
 have ap1 := List.nodup_cons.mp ap.1
 have ap2 := List.nodup_append.mp ap1.2
 have ap3 := List.nodup_cons.mp ap2.2.1
 have hdp : d0 ∉ p := fun x => ap2.2.2 d0 x d0 List.mem_cons_self rfl
 have hcp : c ∉ p := fun x => ap1.1 (List.mem_append_left _ x)
 have hcq : c ∉ q := fun x => ap1.1 (List.mem_append_right _ (List.mem_cons_of_mem _ x))
 obtain ⟨a, ha, pp⟩ := d.cyc _ List.mem_cons_self
 have e : c = a := pp.1
 subst e
 obtain ⟨m, p1, p2⟩ := (pth_app (l := c :: p)).mp pp
 have e : d0 = m := p2.1
 subst e
 have inD : ∀ y ∈ c :: p, y ∈ D := fun y hy => d.sub List.mem_cons_self (by
  rcases List.mem_cons.mp hy with rfl | hy
  ·exact List.mem_cons_self
  ·exact List.mem_cons_of_mem _ (List.mem_append_left _ hy))
 have inD2 : ∀ y ∈ d0 :: q, y ∈ D := fun y hy => d.sub List.mem_cons_self (List.mem_cons_of_mem _ (List.mem_append_right _ hy))
 have nd1 := List.nodup_append.mp nd
 have e12 : e1 ≠ e2 := fun e => by
  have := nd1.2.1
  rw [e] at this
  simp at this
 refine ⟨((c :: p).map g ++ [e2]) :: ((d0 :: q).map g ++ [e1]) :: Ms.map (List.map g), by simp, ⟨fun k hk => ?_, ?_, nd⟩, _, List.mem_cons_self, List.mem_append_right _ (List.mem_singleton.mpr rfl), fun h => ?_⟩
 ·rcases List.mem_cons.mp hk with rfl | hk
  ·refine ⟨g c, List.mem_append_left _ List.mem_cons_self, pth_app.mpr ⟨e2, pth_to (fun y hy => hc2 y (inD y hy)) (fun y hy ne => ho y (inD y hy) (fun ec => ?_) ne) hdp p1, rfl, h2⟩⟩
   rcases pth_tail p1 hy with z | z
   ·exact hcp (by rw [← ec]; exact z)
   ·exact ne z
  ·rcases List.mem_cons.mp hk with rfl | hk
   ·refine ⟨g d0, List.mem_append_left _ List.mem_cons_self, pth_app.mpr ⟨e1, pth_to (fun y hy => hc y (inD2 y hy)) (fun y hy ne => ho y (inD2 y hy) ne (fun ec => ?_)) hcq p2, rfl, h1⟩⟩
    rcases pth_tail p2 hy with z | z
    ·exact ap3.1 (by rw [← ec]; exact z)
    ·exact ne z
   ·exact d.rest (fun x hx q => ho x hx (fun e => q (by rw [e]; exact List.mem_cons_self)) (fun e => q (by rw [e]; exact List.mem_cons_of_mem _ (List.mem_append_right _ List.mem_cons_self)))) k hk
 ·simp only [List.flatten_cons, flatten_map]
  have := d.all.map g
  rw [List.flatten_cons, List.map_append, ← List.cons_append, List.map_append] at this
  refine List.Perm.trans ?_ (this.append_right [e1, e2])
  generalize (c :: p).map g = A
  generalize (d0 :: q).map g = B
  generalize Ms.flatten.map g = C
  letI : DecidableEq β := fun a b => Classical.propDecidable (a = b)
  rw [List.perm_iff_count]
  intro z
  simp only [List.count_append, List.count_cons, List.count_nil]
  omega
 ·rcases List.mem_append.mp h with h | h
  ·obtain ⟨y, hy, e⟩ := List.mem_map.mp h
   exact nd1.2.2 e1 (List.mem_map.mpr ⟨y, inD y hy, e⟩) e1 List.mem_cons_self rfl
  ·exact e12 (List.mem_singleton.mp h)
theorem Dec.more {f : β → β} {D : List β} {Ls : List (List β)} (d : Dec f D Ls) {b : β} (hb : f b = b) (nd : (D ++ [b]).Nodup) : Dec f (D ++ [b]) (Ls ++ [[b]]) := by
 refine ⟨fun l hl => ?_, ?_, nd⟩
 ·rcases List.mem_append.mp hl with h | h
  ·exact d.cyc l h
  ·rw [List.mem_singleton] at h
   subst h
   exact ⟨b, List.mem_cons_self, rfl, hb⟩
 ·rw [List.flatten_append]
  exact d.all.append_right _
theorem Dec.carry {f : α → α} {f' : β → β} {g : α → β} {D : List α} {D' : List β} {Ls : List (List α)} (d : Dec f D Ls) (ho : ∀ x ∈ D, f' (g x) = g (f x)) (hD : (D.map g).Perm D') (nd : D'.Nodup) : Dec f' D' (Ls.map (List.map g)) := by
 refine ⟨fun m hm => ?_, ?_, nd⟩
 ·obtain ⟨k, hk, rfl⟩ := List.mem_map.mp hm
  obtain ⟨a, ha, p⟩ := d.cyc k hk
  exact ⟨g a, List.mem_map.mpr ⟨a, ha, rfl⟩, pth_map (fun x hx => ho x (d.sub hk hx)) p⟩
 ·rw [flatten_map]
  exact (d.all.map g).trans hD
end Nt
namespace Nt
open PySem
theorem perm_of {α : Type} [DecidableEq α] : ∀ {a b : List α}, a.Nodup → (∀ z ∈ a, z ∈ b) → b.length ≤ a.length → a.Perm b
 | [], b, _, _, hl => by
  have : b = [] := List.length_eq_zero_iff.mp (Nat.le_zero.mp hl)
  rw [this]
 | x :: a, b, nd, sub, hl => by
  have nd' := List.nodup_cons.mp nd
  have hx := sub x List.mem_cons_self
  have pb := List.perm_cons_erase hx
  refine List.Perm.trans ((perm_of nd'.2 (fun z hz => ?_) ?_).cons x) pb.symm
  ·exact (List.mem_erase_of_ne (fun e => nd'.1 (by rw [← e]; exact hz))).mpr (sub z (List.mem_cons_of_mem _ hz))
  ·have := pb.length_eq
   rw [List.length_cons] at this hl
   omega
theorem other_uniq {n : Net} (T : Twice n) {a b : End} {z : Str} (ha : tieAt n a = some z) (hb : tieAt n b = some z) (ne : a ≠ b) : other n a = b := by
 obtain ⟨h1, _, h3⟩ := other_spec T ha
 obtain ⟨p, q, e, _, _⟩ := pos_two T ha
 have m1 := mem_pos.mpr ha
 have m2 := mem_pos.mpr hb
 have m3 := mem_pos.mpr h1
 rw [e] at m1 m2 m3
 simp only [List.mem_cons, List.not_mem_nil, or_false] at m1 m2 m3
 rcases m1 with rfl | rfl <;> rcases m2 with rfl | rfl <;> rcases m3 with m3 | m3 <;> first | exact m3 | exact absurd rfl ne | exact absurd m3 h3
noncomputable def sh (c e : End) : End := if e.1 = c.1 ∧ c.2 ≤ e.2 then (e.1, e.2 + 1) else e
theorem sh_fst (c e : End) : (sh c e).1 = e.1 := by unfold sh; split <;> rfl
theorem sh_inj {c a b : End} (h : sh c a = sh c b) : a = b := by
 have h1 : a.1 = b.1 := by rw [← sh_fst c a, h, sh_fst]
 have h2 := congrArg Prod.snd h
 unfold sh at h2
 refine Prod.ext h1 ?_
 by_cases x : a.1 = c.1 ∧ c.2 ≤ a.2
 ·rw [if_pos x] at h2
  by_cases y : b.1 = c.1 ∧ c.2 ≤ b.2
  ·rw [if_pos y] at h2
   exact Nat.succ.inj h2
  ·rw [if_neg y] at h2
   have h2 : a.2 + 1 = b.2 := h2
   exact absurd ⟨h1 ▸ x.1, by omega⟩ y
 ·rw [if_neg x] at h2
  by_cases y : b.1 = c.1 ∧ c.2 ≤ b.2
  ·rw [if_pos y] at h2
   have h2 : a.2 = b.2 + 1 := h2
   exact absurd ⟨h1 ▸ y.1, by omega⟩ x
  ·rw [if_neg y] at h2
   exact h2
theorem sh_ne (c e : End) : sh c e ≠ c := by
 intro h
 have h1 : e.1 = c.1 := by rw [← sh_fst c e, h]
 have h2 := congrArg Prod.snd h
 unfold sh at h2
 by_cases x : e.1 = c.1 ∧ c.2 ≤ e.2
 ·rw [if_pos x] at h2
  have h2 : e.2 + 1 = c.2 := h2
  omega
 ·rw [if_neg x] at h2
  exact x ⟨h1, by omega⟩
section
variable {n : Net} {c : End} {z : Str}
theorem rowlen_ins (hc : c.1 < n.length) (hp : c.2 ≤ (row n c.1).length) (i : Nat) : (row (ins n c z) i).length = if c.1 = i then (row n i).length + 1 else (row n i).length := by
 rw [row_ins n c z i hc]
 by_cases h : c.1 = i
 ·subst h
  rw [if_pos rfl, if_pos rfl, List.length_append, List.length_cons, List.length_take, List.length_drop]
  omega
 ·rw [if_neg h, if_neg h]
theorem tie_new (hc : c.1 < n.length) (hp : c.2 ≤ (row n c.1).length) : tieAt (ins n c z) c = some z := by
 unfold tieAt
 rw [row_ins n c z c.1 hc, if_pos rfl, List.getElem?_append_right (by rw [List.length_take]; omega), List.length_take, show c.2 - min c.2 (row n c.1).length = 0 by omega]
 rfl
theorem tie_sh (hc : c.1 < n.length) (hp : c.2 ≤ (row n c.1).length) (e : End) : tieAt (ins n c z) (sh c e) = tieAt n e := by
 unfold tieAt
 rw [sh_fst, row_ins n c z e.1 hc]
 unfold sh
 by_cases h : c.1 = e.1
 ·rw [if_pos h]
  by_cases k : c.2 ≤ e.2
  ·rw [if_pos ⟨h.symm, k⟩, List.getElem?_append_right (by rw [List.length_take]; show _ ≤ e.2 + 1; omega), List.length_take]
   show (z :: (row n e.1).drop c.2)[e.2 + 1 - min c.2 (row n e.1).length]? = _
   rw [← h, show e.2 + 1 - min c.2 (row n c.1).length = (e.2 - c.2) + 1 by omega, List.getElem?_cons_succ, List.getElem?_drop, show c.2 + (e.2 - c.2) = e.2 by omega]
  ·rw [if_neg (fun q => k q.2), List.getElem?_append_left (by rw [List.length_take, ← h]; omega), List.getElem?_take_of_lt (by omega)]
 ·rw [if_neg h, if_neg (fun q => h q.1.symm)]
theorem left_new (hc : c.1 < n.length) (hp : c.2 < (row n c.1).length) : left (ins n c z) c = sh c c := by
 unfold left sh
 rw [rowlen_ins hc (Nat.le_of_lt hp), if_pos rfl, if_pos ⟨rfl, Nat.le_refl _⟩, Nat.mod_eq_of_lt (by omega)]
theorem left_sh (hc : c.1 < n.length) (hp : c.2 < (row n c.1).length) {e : End} (he : e.2 < (row n e.1).length) : left (ins n c z) (sh c e) = if left n e = c then c else sh c (left n e) := by
 by_cases h : c.1 = e.1
 ·have e1 : (left n e).1 = e.1 := rfl
  have e2 : (left n e).2 = (e.2 + 1) % (row n e.1).length := rfl
  have q : (left n e = c) ↔ (e.2 + 1) % (row n e.1).length = c.2 := ⟨fun x => by rw [← e2, x], fun x => Prod.ext h.symm x⟩
  have L : (left (ins n c z) (sh c e)) = (e.1, ((sh c e).2 + 1) % ((row n e.1).length + 1)) := by
   unfold left
   rw [sh_fst, rowlen_ins hc (Nat.le_of_lt hp), if_pos h]
  rw [L]
  rw [h] at hp
  have S : (sh c e).2 = if c.2 ≤ e.2 then e.2 + 1 else e.2 := by
   unfold sh
   by_cases k : c.2 ≤ e.2
   ·rw [if_pos ⟨h.symm, k⟩, if_pos k]
   ·rw [if_neg (fun q => k q.2), if_neg k]
  have S2 : sh c (left n e) = (e.1, if c.2 ≤ (e.2 + 1) % (row n e.1).length then (e.2 + 1) % (row n e.1).length + 1 else (e.2 + 1) % (row n e.1).length) := by
   unfold sh
   by_cases k : c.2 ≤ (e.2 + 1) % (row n e.1).length
   ·rw [if_pos ⟨h.symm, k⟩, if_pos k]; rfl
   ·rw [if_neg (fun q => k q.2), if_neg k]; rfl
  rw [S, S2]
  generalize (row n e.1).length = m at *
  by_cases k : e.2 + 1 < m
  ·rw [Nat.mod_eq_of_lt k] at q ⊢
   by_cases j : e.2 + 1 = c.2
   ·rw [if_pos (q.mpr j), if_neg (by omega), Nat.mod_eq_of_lt (by omega)]
    exact Prod.ext h.symm j
   ·rw [if_neg (fun x => j (q.mp x))]
    by_cases i : c.2 ≤ e.2
    ·rw [if_pos i, if_pos (by omega), Nat.mod_eq_of_lt (by omega)]
    ·rw [if_neg i, if_neg (by omega), Nat.mod_eq_of_lt (by omega)]
  ·have em : e.2 + 1 = m := by omega
   rw [em, Nat.mod_self] at q ⊢
   rw [if_pos (by omega), Nat.mod_self]
   by_cases j : 0 = c.2
   ·rw [if_pos (q.mpr j)]
    exact Prod.ext h.symm j
   ·rw [if_neg (fun x => j (q.mp x)), if_neg (by omega)]
 ·have ne : left n e ≠ c := fun x => h (by rw [← x]; rfl)
  rw [if_neg ne]
  have s1 : sh c e = e := by unfold sh; rw [if_neg (fun q => h q.1.symm)]
  have s2 : sh c (left n e) = left n e := by unfold sh; rw [if_neg (fun q => h q.1.symm)]
  rw [s1, s2]
  unfold left
  rw [rowlen_ins hc (Nat.le_of_lt hp), if_neg h]
end
end Nt
namespace Nt
open PySem
noncomputable def Pl (n : Net) : Prop := (ties n = [] ∧ n.length = 1) ∨ ∃ Ls, Dec (step n) (ends n) Ls ∧ 2 * (n.length + Ls.length) = (ties n).length + 4
structure Put (n m : Net) (g : End → End) (e1 e2 : End) (z : Str) : Prop where
 tie : ∀ e ∈ ends n, tieAt m (g e) = tieAt n e
 t1 : tieAt m e1 = some z
 t2 : tieAt m e2 = some z
 inj : ∀ a b, g a = g b → a = b
 n1 : ∀ a ∈ ends n, g a ≠ e1
 n2 : ∀ a ∈ ends n, g a ≠ e2
 ne : e1 ≠ e2
 len : (ties m).length = (ties n).length + 2
section
variable {n m : Net} {g : End → End} {e1 e2 : End} {z : Str}
theorem Put.nd (p : Put n m g e1 e2 z) : ((ends n).map g ++ [e1, e2]).Nodup := by
 rw [List.nodup_append]
 refine ⟨?_, ?_, ?_⟩
 ·exact (List.pairwise_map.mpr ((ends_nodup n).imp fun {a b} h e => h (p.inj a b e)))
 ·simp [p.ne]
 ·rintro a ha b hb rfl
  obtain ⟨x, hx, rfl⟩ := List.mem_map.mp ha
  simp only [List.mem_cons, List.not_mem_nil, or_false] at hb
  rcases hb with h | h
  ·exact p.n1 x hx h
  ·exact p.n2 x hx h
theorem Put.perm (p : Put n m g e1 e2 z) : ((ends n).map g ++ [e1, e2]).Perm (ends m) := by
 refine perm_of p.nd (fun a ha => ?_) (by rw [ends_len, p.len, List.length_append, List.length_map, ends_len]; exact Nat.le_refl _)
 rcases List.mem_append.mp ha with h | h
 ·obtain ⟨x, hx, rfl⟩ := List.mem_map.mp h
  obtain ⟨y, hy⟩ := mem_ends.mp hx
  exact mem_ends.mpr ⟨y, by rw [p.tie x hx]; exact hy⟩
 ·simp only [List.mem_cons, List.not_mem_nil, or_false] at h
  rcases h with rfl | rfl
  ·exact mem_ends.mpr ⟨z, p.t1⟩
  ·exact mem_ends.mpr ⟨z, p.t2⟩
theorem Put.oth (p : Put n m g e1 e2 z) (T : Twice n) (T' : Twice m) {e : End} (he : e ∈ ends n) : other m (g e) = g (other n e) := by
 obtain ⟨y, hy⟩ := mem_ends.mp he
 obtain ⟨h1, _, h3⟩ := other_spec T hy
 exact other_uniq T' (by rw [p.tie e he]; exact hy) (by rw [p.tie _ (mem_ends.mpr ⟨y, h1⟩)]; exact h1) fun h => h3 (p.inj _ _ h).symm
theorem Put.o1 (p : Put n m g e1 e2 z) (T' : Twice m) : other m e1 = e2 := other_uniq T' p.t1 p.t2 p.ne
theorem Put.o2 (p : Put n m g e1 e2 z) (T' : Twice m) : other m e2 = e1 := other_uniq T' p.t2 p.t1 p.ne.symm
end
theorem Dec.perm {α : Type} {f : α → α} {D D' : List α} {Ls : List (List α)} (d : Dec f D Ls) (h : D.Perm D') : Dec f D' Ls := ⟨d.cyc, d.all.trans h, h.nodup_iff.mp d.nd⟩
theorem it_closed {α : Type} {f : α → α} {l : List α} (h : ∀ x ∈ l, f x ∈ l) {a : α} (ha : a ∈ l) : ∀ k, it f k a ∈ l := fun k => it_mem h ha k
theorem Dec.one {α : Type} {f : α → α} {D : List α} {a b : α} {l : List α} {Ms : List (List α)} (d : Dec f D ((a :: l) :: Ms)) (hb : b ∈ D) (h : (∃ k, it f k a = b) ∨ ∃ k, it f k b = a) (ne : b ≠ a) : b ∈ l := by
 have cl : ∀ k ∈ (a :: l) :: Ms, ∀ x ∈ k, f x ∈ k := fun k hk x hx => by
  obtain ⟨c, hc, p⟩ := d.cyc k hk
  exact pth_closed p hc hx
 have hm : b ∈ a :: l := by
  rcases h with ⟨k, rfl⟩ | ⟨k, e⟩
  ·exact it_closed (cl _ List.mem_cons_self) List.mem_cons_self k
  ·obtain ⟨j, hj, hbj⟩ := List.mem_flatten.mp (d.all.mem_iff.mpr hb)
   rcases List.mem_cons.mp hj with rfl | hj'
   ·exact hbj
   ·have := it_closed (cl j hj) hbj k
    rw [e] at this
    exact absurd this (d.apart.2 j hj' a List.mem_cons_self)
 rcases List.mem_cons.mp hm with h | h
 ·exact absurd h ne
 ·exact h
section
variable {n m : Net} {g : End → End} {e1 e2 : End} {z : Str}
theorem pl_split (p : Put n m g e1 e2 z) (T : Twice n) (T' : Twice m) (hl : m.length = n.length) {k1 k2 : End} (h1 : k1 ∈ ends n) (h2 : k2 ∈ ends n) (ne : k2 ≠ k1) (same : (∃ k, it (step n) k k1 = k2) ∨ ∃ k, it (step n) k k2 = k1)
  (l1 : left m e1 = g k1) (l2 : left m e2 = g k2) (lf : ∀ e ∈ ends n, left m (g e) = if left n e = k1 then e1 else if left n e = k2 then e2 else g (left n e)) (P : Pl n) : Pl m := by
 have st : ∀ x ∈ ends n, step m (g x) = if step n x = k1 then e1 else if step n x = k2 then e2 else g (step n x) := fun x hx => by
  unfold step
  rw [p.oth T T' hx]
  exact lf _ (other_end T hx)
 rcases P with ⟨e, _⟩ | ⟨Ls, d, eu⟩
 ·obtain ⟨y, hy⟩ := mem_ends.mp h1
  have := tie_mem hy
  rw [e] at this
  cases this
 ·obtain ⟨l, Ms, hL, d⟩ := d.pick h1
  have hk := d.one h2 same ne
  obtain ⟨Ls', hL', d', _⟩ := d.split (f' := step m) (g := g) hk (e1 := e1) (e2 := e2) (by unfold step; rw [p.o1 T']; exact l2) (by unfold step; rw [p.o2 T']; exact l1)
   (fun x hx e => by rw [st x hx, if_pos e]) (fun x hx e => by rw [st x hx, if_neg (by rw [e]; exact ne), if_pos e]) (fun x hx a b => by rw [st x hx, if_neg a, if_neg b]) p.nd
  refine .inr ⟨Ls', d'.perm p.perm, ?_⟩
  have := p.len
  omega
theorem pl_loop (p : Put n m g e1 e2 z) (T : Twice n) (T' : Twice m) (hl : m.length = n.length) {c : End} (h1 : c ∈ ends n)
  (l1 : left m e1 = g c) (l2 : left m e2 = e1) (lf : ∀ e ∈ ends n, left m (g e) = if left n e = c then e2 else g (left n e)) (P : Pl n) : Pl m := by
 have st : ∀ x ∈ ends n, step m (g x) = if step n x = c then e2 else g (step n x) := fun x hx => by
  unfold step
  rw [p.oth T T' hx]
  exact lf _ (other_end T hx)
 rcases P with ⟨e, _⟩ | ⟨Ls, d, eu⟩
 ·obtain ⟨y, hy⟩ := mem_ends.mp h1
  have := tie_mem hy
  rw [e] at this
  cases this
 ·obtain ⟨l, Ms, hL, d⟩ := d.pick h1
  have nd := p.nd
  have nd2 : ((ends n).map g ++ [e2] ++ [e1]).Nodup := by
   rw [List.append_assoc]
   exact ((List.Perm.swap e1 e2 []).append_left _).nodup_iff.mpr nd
  have d1 := d.grow (f' := step m) (g := g) (new := [e2]) (h := e2) ⟨rfl, by unfold step; rw [p.o2 T']; exact l1⟩ (fun x hx e => by rw [st x hx, if_pos e]) (fun x hx e => by rw [st x hx, if_neg e]) (List.nodup_append.mp nd2).1
  have d2 := d1.more (b := e1) (by unfold step; rw [p.o1 T']; exact l2) nd2
  have pm : ((ends n).map g ++ [e2] ++ [e1]).Perm (ends m) := by
   refine List.Perm.trans ?_ p.perm
   rw [List.append_assoc]
   exact (List.Perm.swap e1 e2 []).append_left _
  refine .inr ⟨_, d2.perm pm, ?_⟩
  have := p.len
  simp only [List.length_append, List.length_cons, List.length_map, List.length_nil]
  omega
theorem pl_spike0 (p : Put n m g e1 e2 z) (T : Twice n) (T' : Twice m) (hl : m.length = n.length + 1) {c : End} (h1 : c ∈ ends n)
  (l1 : left m e1 = g c) (l2 : left m e2 = e2) (lf : ∀ e ∈ ends n, left m (g e) = if left n e = c then e1 else g (left n e)) (P : Pl n) : Pl m := by
 have st : ∀ x ∈ ends n, step m (g x) = if step n x = c then e1 else g (step n x) := fun x hx => by
  unfold step
  rw [p.oth T T' hx]
  exact lf _ (other_end T hx)
 rcases P with ⟨e, _⟩ | ⟨Ls, d, eu⟩
 ·obtain ⟨y, hy⟩ := mem_ends.mp h1
  have := tie_mem hy
  rw [e] at this
  cases this
 ·obtain ⟨l, Ms, hL, d⟩ := d.pick h1
  have s1 : step m e1 = e2 := by unfold step; rw [p.o1 T']; exact l2
  have s2 : step m e2 = g c := by unfold step; rw [p.o2 T']; exact l1
  have d1 := d.grow (f' := step m) (g := g) (new := [e1, e2]) (h := e1) ⟨rfl, by rw [s1]; exact ⟨rfl, s2⟩⟩ (fun x hx e => by rw [st x hx, if_pos e]) (fun x hx e => by rw [st x hx, if_neg e]) p.nd
  refine .inr ⟨_, d1.perm p.perm, ?_⟩
  have := p.len
  simp only [List.length_cons, List.length_map]
  omega
end
end Nt
namespace Nt
open PySem
theorem end_row {n : Net} {e : End} (h : e ∈ ends n) : e.1 < n.length ∧ e.2 < (row n e.1).length := by
 obtain ⟨z, hz⟩ := mem_ends.mp h
 exact ⟨row_lt hz, end_lt hz⟩
section
variable {n : Net} {z : Str}
theorem put_tie {k1 k2 : End} (h1 : k1.1 < n.length ∧ k1.2 ≤ (row n k1.1).length) (h2 : k2.1 < n.length ∧ k2.2 ≤ (row n k2.1).length) : Put n (ins (ins n k1 z) k2 z) (fun e => sh k2 (sh k1 e)) (sh k2 k1) k2 z := by
 have c2 : k2.1 < (ins n k1 z).length := by rw [ins_len]; exact h2.1
 have p2 : k2.2 ≤ (row (ins n k1 z) k2.1).length := by
  rw [rowlen_ins h1.1 h1.2]
  split
  ·have := h2.2; omega
  ·exact h2.2
 refine ⟨fun e _ => ?_, ?_, tie_new c2 p2, fun a b h => sh_inj (sh_inj h), fun a _ h => sh_ne k1 a (sh_inj h), fun a _ => sh_ne k2 _, sh_ne k2 k1, ?_⟩
 ·show tieAt _ (sh k2 (sh k1 e)) = _
  rw [tie_sh c2 p2, tie_sh h1.1 h1.2]
 ·rw [tie_sh c2 p2]
  exact tie_new h1.1 h1.2
 ·rw [(ties_ins _ k2 z c2).length_eq, List.length_cons, (ties_ins _ k1 z h1.1).length_eq, List.length_cons]
theorem pl_tie {k1 k2 : End} (T : Twice n) (T' : Twice (ins (ins n k1 z) k2 z)) (h1 : k1 ∈ ends n) (h2 : k2 ∈ ends n) (ord : k2 = k1 ∨ sh k1 k2 = k2) (same : (∃ k, it (step n) k k1 = k2) ∨ ∃ k, it (step n) k k2 = k1) (P : Pl n) : Pl (ins (ins n k1 z) k2 z) := by
 have r1 := end_row h1
 have r2 := end_row h2
 have p := put_tie (z := z) (k1 := k1) (k2 := k2) ⟨r1.1, Nat.le_of_lt r1.2⟩ ⟨r2.1, Nat.le_of_lt r2.2⟩
 have c2 : k2.1 < (ins n k1 z).length := by rw [ins_len]; exact r2.1
 have rl : ∀ i, (row n i).length ≤ (row (ins n k1 z) i).length := fun i => by
  rw [rowlen_ins r1.1 (Nat.le_of_lt r1.2)]
  split <;> omega
 have p2 : k2.2 < (row (ins n k1 z) k2.1).length := Nat.lt_of_lt_of_le r2.2 (rl _)
 have p1 : k1.2 < (row (ins n k1 z) k1.1).length := Nat.lt_of_lt_of_le r1.2 (rl _)
 have hl : (ins (ins n k1 z) k2 z).length = n.length := by rw [ins_len, ins_len]
 have sl : ∀ e ∈ ends n, (sh k1 e).2 < (row (ins n k1 z) (sh k1 e).1).length := fun e he => by
  obtain ⟨y, hy⟩ := mem_ends.mp he
  exact end_lt (z := y) (by rw [tie_sh r1.1 (Nat.le_of_lt r1.2)]; exact hy)
 have l0 : left (ins n k1 z) k1 = sh k1 k1 := left_new r1.1 r1.2
 by_cases e : k2 = k1
 ·subst e
  refine pl_loop p T T' hl h1 ?_ (left_new c2 p2) (fun e he => ?_) P
  ·rw [left_sh c2 p2 p1, l0, if_neg (sh_ne _ _)]
  ·show left _ (sh k2 (sh k2 e)) = _
   rw [left_sh c2 p2 (sl e he), left_sh r1.1 r1.2 (end_row he).2]
   by_cases q : left n e = k2
   ·rw [if_pos q, if_pos rfl, if_pos q]
   ·rw [if_neg q, if_neg (sh_ne _ _), if_neg q]
 ·have hs : sh k1 k2 = k2 := ord.resolve_left e
  refine pl_split p T T' hl h1 h2 e same ?_ ?_ (fun e' he => ?_) P
  ·rw [left_sh c2 p2 p1, l0, if_neg (fun q => e (sh_inj (c := k1) (by rw [hs, q])))]
  ·show left _ k2 = sh k2 (sh k1 k2)
   rw [hs]
   exact left_new c2 p2
  ·show left _ (sh k2 (sh k1 e')) = if left n e' = k1 then sh k2 k1 else if left n e' = k2 then k2 else sh k2 (sh k1 (left n e'))
   rw [left_sh c2 p2 (sl e' he), left_sh r1.1 r1.2 (end_row he).2]
   by_cases q : left n e' = k1
   ·rw [if_pos q, if_pos q, if_neg (fun x => e x.symm)]
   ·rw [if_neg q, if_neg q]
    by_cases q2 : left n e' = k2
    ·rw [if_pos q2, q2, hs, if_pos rfl]
    ·rw [if_neg q2, if_neg (fun x => q2 (sh_inj (c := k1) (by rw [x, hs])))]
theorem row_app {a b : Net} {i : Nat} (h : i < a.length) : row (a ++ b) i = row a i := by
 unfold row
 rw [List.getElem?_append_left h]
theorem row_last {a : Net} {x : Str × List Str} : row (a ++ [x]) a.length = x.2 := by
 unfold row
 rw [List.getElem?_append_right (Nat.le_refl _)]
 simp
theorem put_spike {c : End} {pt : Str} (h1 : c.1 < n.length ∧ c.2 ≤ (row n c.1).length) : Put n (ins n c z ++ [(pt, [z])]) (sh c) c (n.length, 0) z := by
 have la : ∀ e : End, e.1 < n.length → tieAt (ins n c z ++ [(pt, [z])]) e = tieAt (ins n c z) e := fun e he => by
  unfold tieAt
  rw [row_app (by rw [ins_len]; exact he)]
 refine ⟨fun e he => ?_, ?_, ?_, fun a b h => sh_inj h, fun a _ => sh_ne c a, fun a ha h => ?_, fun h => ?_, ?_⟩
 ·rw [la _ (by rw [sh_fst]; exact (end_row he).1), tie_sh h1.1 h1.2]
 ·rw [la _ h1.1, tie_new h1.1 h1.2]
 ·unfold tieAt
  have := row_last (a := ins n c z) (x := (pt, [z]))
  rw [ins_len] at this
  show (row _ n.length)[0]? = _
  rw [this]
  rfl
 ·have := (end_row ha).1
  rw [← sh_fst c a, h] at this
  exact absurd this (Nat.lt_irrefl _)
 ·have := h1.1
  rw [h] at this
  exact absurd this (Nat.lt_irrefl _)
 ·unfold ties
  rw [List.flatMap_append, List.length_append]
  have := (ties_ins _ c z h1.1).length_eq
  unfold ties at this
  rw [this]
  rfl
theorem pl_spike {c : End} {pt : Str} (T : Twice n) (T' : Twice (ins n c z ++ [(pt, [z])])) (h1 : c ∈ ends n) (P : Pl n) : Pl (ins n c z ++ [(pt, [z])]) := by
 have r1 := end_row h1
 have p := put_spike (z := z) (c := c) (pt := pt) ⟨r1.1, Nat.le_of_lt r1.2⟩
 have la : ∀ e : End, e.1 < n.length → left (ins n c z ++ [(pt, [z])]) e = left (ins n c z) e := fun e he => by
  unfold left
  rw [row_app (by rw [ins_len]; exact he)]
 refine pl_spike0 p T T' (by rw [List.length_append, ins_len]; rfl) h1 ?_ ?_ (fun e he => ?_) P
 ·rw [la _ r1.1]
  exact left_new r1.1 r1.2
 ·unfold left
  have := row_last (a := ins n c z) (x := (pt, [z]))
  rw [ins_len] at this
  show (n.length, (0 + 1) % (row _ n.length).length) = _
  rw [this]
  exact congrArg (Prod.mk _) (Nat.mod_self 1)
 ·rw [la _ (by rw [sh_fst]; exact (end_row he).1)]
  exact left_sh r1.1 r1.2 (end_row he).2
end
theorem pl_first {m : Net} {z : Str} {e1 e2 : End} (T' : Twice m) (hE : ends m = [e1, e2]) (t1 : tieAt m e1 = some z) (t2 : tieAt m e2 = some z) (ne : e1 ≠ e2)
  (h : (m.length = 2 ∧ left m e1 = e1 ∧ left m e2 = e2) ∨ (m.length = 1 ∧ left m e1 = e2 ∧ left m e2 = e1)) : Pl m := by
 have o1 := other_uniq T' t1 t2 ne
 have o2 := other_uniq T' t2 t1 ne.symm
 have hl : (ties m).length = 2 := by rw [← ends_len, hE]; rfl
 have nd : [e1, e2].Nodup := by simp [ne]
 rcases h with ⟨hm, l1, l2⟩ | ⟨hm, l1, l2⟩
 ·refine .inr ⟨[[e1, e2]], ?_, by rw [hm, hl]; rfl⟩
  rw [hE]
  refine ⟨fun l hl => ?_, List.Perm.refl _, nd⟩
  rw [List.mem_singleton] at hl
  subst hl
  refine ⟨e1, List.mem_cons_self, rfl, ?_⟩
  unfold step
  rw [o1, l2]
  exact ⟨rfl, by show left m (other m e2) = e1; rw [o2, l1]⟩
 ·refine .inr ⟨[[e1], [e2]], ?_, by rw [hm, hl]; rfl⟩
  rw [hE]
  refine ⟨fun l hl => ?_, List.Perm.refl _, nd⟩
  simp only [List.mem_cons, List.not_mem_nil, or_false] at hl
  rcases hl with rfl | rfl
  ·exact ⟨e1, List.mem_cons_self, rfl, by show left m (other m e1) = e1; rw [o1, l2]⟩
  ·exact ⟨e2, List.mem_cons_self, rfl, by show left m (other m e2) = e2; rw [o2, l1]⟩
theorem pl_spike1 {nm pt z : Str} (T' : Twice [(nm, [z]), (pt, [z])]) : Pl [(nm, [z]), (pt, [z])] :=
 pl_first (e1 := (0, 0)) (e2 := (1, 0)) (z := z) T' rfl rfl rfl (by decide) (.inl ⟨rfl, by simp [left, row], by simp [left, row]⟩)
theorem pl_tie1 {nm z : Str} (T' : Twice [(nm, [z, z])]) : Pl [(nm, [z, z])] :=
 pl_first (e1 := (0, 0)) (e2 := (0, 1)) (z := z) T' rfl rfl rfl (by decide) (.inr ⟨rfl, by simp [left, row], by simp [left, row]⟩)
end Nt
namespace Nt
open PySem
theorem pl_carry {n m : Net} {g : End → End} (T : Twice n) (T' : Twice m) (hl : m.length = n.length) (ht : (ties m).length = (ties n).length) (tie : ∀ e ∈ ends n, tieAt m (g e) = tieAt n e) (inj : ∀ a ∈ ends n, ∀ b ∈ ends n, g a = g b → a = b)
  (lf : ∀ e ∈ ends n, left m (g e) = g (left n e)) (P : Pl n) : Pl m := by
 rcases P with ⟨e, h⟩ | ⟨Ls, d, eu⟩
 ·exact .inl ⟨List.length_eq_zero_iff.mp (by rw [ht, e]; rfl), by rw [hl, h]⟩
 ·have nd : ((ends n).map g).Nodup := by
   have : ∀ (l : List End), (∀ x ∈ l, x ∈ ends n) → l.Nodup → (l.map g).Nodup := by
    intro l
    induction l with
    | nil => intro _ _; exact List.nodup_nil
    | cons x l ih =>
     intro hs h
     have h := List.nodup_cons.mp h
     rw [List.map_cons]
     refine List.nodup_cons.mpr ⟨fun hx => ?_, ih (fun y hy => hs y (List.mem_cons_of_mem _ hy)) h.2⟩
     obtain ⟨y, hy, e⟩ := List.mem_map.mp hx
     have := inj y (hs y (List.mem_cons_of_mem _ hy)) x (hs x List.mem_cons_self) e
     exact h.1 (this ▸ hy)
   exact this _ (fun x hx => hx) (ends_nodup n)
  have pm : ((ends n).map g).Perm (ends m) := by
   refine perm_of nd (fun a ha => ?_) (by rw [List.length_map, ends_len, ends_len, ht]; exact Nat.le_refl _)
   obtain ⟨x, hx, rfl⟩ := List.mem_map.mp ha
   obtain ⟨y, hy⟩ := mem_ends.mp hx
   exact mem_ends.mpr ⟨y, by rw [tie x hx]; exact hy⟩
  refine .inr ⟨_, d.carry (f' := step m) (g := g) (fun x hx => ?_) pm (ends_nodup m), by rw [List.length_map, hl, ht]; exact eu⟩
  obtain ⟨y, hy⟩ := mem_ends.mp hx
  obtain ⟨h1, _, h3⟩ := other_spec T hy
  have ho : other n x ∈ ends n := mem_ends.mpr ⟨y, h1⟩
  have : other m (g x) = g (other n x) := other_uniq T' (by rw [tie x hx]; exact hy) (by rw [tie _ ho]; exact h1) fun h => h3 (inj _ hx _ ho h).symm
  unfold step
  rw [this]
  exact lf _ ho
noncomputable def ixr (i len q : Nat) : Nat := if i ≤ q then q - i else q + len - i
noncomputable def gpop (N j i len : Nat) (e : End) : End := if e.1 < j then e else if e.1 = j then (N - 1, ixr i len e.2) else (e.1 - 1, e.2)
theorem row_pop {a : Net} {j : Nat} {x : Str × List Str} (hj : j < a.length) (r : Nat) (hr : r < a.length) : row (a.eraseIdx j ++ [x]) (if r < j then r else if r = j then a.length - 1 else r - 1) = if r = j then x.2 else row a r := by
 have le : (a.eraseIdx j).length = a.length - 1 := by rw [List.length_eraseIdx, if_pos hj]
 by_cases h1 : r < j
 ·rw [if_pos h1, if_neg (by omega), row_app (by rw [le]; omega)]
  unfold row
  rw [List.getElem?_eraseIdx, if_pos h1]
 ·rw [if_neg h1]
  by_cases h2 : r = j
  ·rw [if_pos h2, if_pos h2, ← le, row_last]
  ·rw [if_neg h2, if_neg h2, row_app (by rw [le]; omega)]
   unfold row
   rw [List.getElem?_eraseIdx, if_neg (by omega), show r - 1 + 1 = r by omega]
theorem ixr_left {i len q : Nat} (hi : i < len) (hq : q < len) : (ixr i len q + 1) % len = ixr i len ((q + 1) % len) := by
 unfold ixr
 by_cases k : q + 1 < len
 ·rw [Nat.mod_eq_of_lt k]
  by_cases h : i ≤ q
  ·rw [if_pos h, if_pos (by omega), Nat.mod_eq_of_lt (by omega)]
   omega
  ·rw [if_neg h]
   by_cases h2 : q + 1 = i
   ·rw [if_pos (by omega), show q + len - i + 1 = len by omega, Nat.mod_self]
    omega
   ·rw [if_neg (by omega), Nat.mod_eq_of_lt (by omega)]
    omega
 ·have e : q + 1 = len := by omega
  rw [e, Nat.mod_self, if_pos (by omega)]
  by_cases h : i = 0
  ·rw [if_pos (by omega), show q - i + 1 = len by omega, Nat.mod_self]
   omega
  ·rw [if_neg (by omega), Nat.mod_eq_of_lt (by omega)]
   omega
theorem ixr_at {l : List Str} {i q : Nat} (hi : i < l.length) (hq : q < l.length) : (l.drop i ++ l.take i)[ixr i l.length q]? = l[q]? := by
 unfold ixr
 by_cases h : i ≤ q
 ·rw [if_pos h, List.getElem?_append_left (by rw [List.length_drop]; omega), List.getElem?_drop, show i + (q - i) = q by omega]
 ·rw [if_neg h, List.getElem?_append_right (by rw [List.length_drop]; omega), List.length_drop, List.getElem?_take_of_lt (by omega), show q + l.length - i - (l.length - i) = q by omega]
theorem pl_pop {a : Net} {j i : Nat} {x : Str} (hj : j < a.length) (hi : i < max 1 (row a j).length) (T : Twice a) (T' : Twice (a.eraseIdx j ++ [(x, (row a j).drop i ++ (row a j).take i)]))
  (ht : (ties (a.eraseIdx j ++ [(x, (row a j).drop i ++ (row a j).take i)])).length = (ties a).length) (P : Pl a) : Pl (a.eraseIdx j ++ [(x, (row a j).drop i ++ (row a j).take i)]) := by
 have fst : ∀ e : End, (gpop a.length j i (row a j).length e).1 = if e.1 < j then e.1 else if e.1 = j then a.length - 1 else e.1 - 1 := fun e => by
  unfold gpop
  by_cases h : e.1 < j
  ·rw [if_pos h, if_pos h]
  ·rw [if_neg h, if_neg h]
   by_cases h2 : e.1 = j
   ·rw [if_pos h2, if_pos h2]
   ·rw [if_neg h2, if_neg h2]
 have snd : ∀ e : End, (gpop a.length j i (row a j).length e).2 = if e.1 = j then ixr i (row a j).length e.2 else e.2 := fun e => by
  unfold gpop
  by_cases h : e.1 < j
  ·rw [if_pos h, if_neg (by omega)]
  ·rw [if_neg h]
   by_cases h2 : e.1 = j
   ·rw [if_pos h2, if_pos h2]
   ·rw [if_neg h2, if_neg h2]
 have rw1 : ∀ e : End, e.1 < a.length → row (a.eraseIdx j ++ [(x, (row a j).drop i ++ (row a j).take i)]) (gpop a.length j i (row a j).length e).1 = if e.1 = j then (row a j).drop i ++ (row a j).take i else row a e.1 := fun e he => by
  rw [fst, row_pop hj e.1 he]
 refine pl_carry (g := gpop a.length j i (row a j).length) T T' ?_ ht (fun e he => ?_) (fun b hb c hc h => ?_) (fun e he => ?_) P
 ·rw [List.length_append, List.length_eraseIdx, if_pos hj, List.length_singleton]
  omega
 ·have r := end_row he
  unfold tieAt
  rw [rw1 e r.1, snd]
  by_cases h : e.1 = j
  ·rw [if_pos h, if_pos h, ← h, ixr_at (by have := hi; rw [← h] at this; omega) r.2]
  ·rw [if_neg h, if_neg h]
 ·have rb := end_row hb
  have rc := end_row hc
  have h1 := congrArg Prod.fst h
  have h2 := congrArg Prod.snd h
  rw [fst, fst] at h1
  rw [snd, snd] at h2
  by_cases p : b.1 = j
  ·by_cases q : c.1 = j
   ·rw [if_pos p, if_pos q] at h2
    refine Prod.ext (by rw [p, q]) ?_
    have rb := rb.2
    have rc := rc.2
    rw [p] at rb
    rw [q] at rc
    unfold ixr at h2
    by_cases u : i ≤ b.2
    ·rw [if_pos u] at h2
     by_cases v : i ≤ c.2
     ·rw [if_pos v] at h2; omega
     ·rw [if_neg v] at h2; omega
    ·rw [if_neg u] at h2
     by_cases v : i ≤ c.2
     ·rw [if_pos v] at h2; omega
     ·rw [if_neg v] at h2; omega
   ·exfalso
    rw [if_neg (by omega), if_pos p] at h1
    have := rc.1
    by_cases u : c.1 < j
    ·rw [if_pos u] at h1; omega
    ·rw [if_neg u, if_neg q] at h1; omega
  ·by_cases q : c.1 = j
   ·exfalso
    have := rb.1
    rw [if_neg (show ¬ c.1 < j by omega), if_pos q] at h1
    by_cases u : b.1 < j
    ·rw [if_pos u] at h1; omega
    ·rw [if_neg u, if_neg p] at h1; omega
   ·rw [if_neg p, if_neg q] at h2
    refine Prod.ext ?_ h2
    rw [if_neg p, if_neg q] at h1
    by_cases u : b.1 < j
    ·rw [if_pos u] at h1
     by_cases v : c.1 < j
     ·rw [if_pos v] at h1; exact h1
     ·rw [if_neg v] at h1; omega
    ·rw [if_neg u] at h1
     by_cases v : c.1 < j
     ·rw [if_pos v] at h1; omega
     ·rw [if_neg v] at h1; omega
 ·have r := end_row he
  have L1 : (left a e).1 = e.1 := rfl
  have L2 : (left a e).2 = (e.2 + 1) % (row a e.1).length := rfl
  refine Prod.ext ?_ ?_
  ·show (gpop a.length j i (row a j).length e).1 = (gpop a.length j i (row a j).length (left a e)).1
   rw [fst, fst, L1]
  ·show ((gpop a.length j i (row a j).length e).2 + 1) % (row _ (gpop a.length j i (row a j).length e).1).length = (gpop a.length j i (row a j).length (left a e)).2
   rw [rw1 e r.1, snd, snd, L1, L2]
   by_cases h : e.1 = j
   ·rw [if_pos h, if_pos h, if_pos h, List.length_append, List.length_drop, List.length_take]
    have r2 := r.2
    rw [h] at r2 ⊢
    rw [show (row a j).length - i + min i (row a j).length = (row a j).length by omega]
    exact ixr_left (by omega) r2
   ·rw [if_neg h, if_neg h, if_neg h]
end Nt
namespace Nt
open PySem
end Nt
namespace Nt
open PySem
theorem twice_put {n m : Net} {z : Str} (hp : (ties m).Perm (z :: z :: ties n)) (T : Twice n) (hz : z ∉ ties n) : Twice m := by
 intro y hy
 rw [hp.count_eq, List.count_cons, List.count_cons]
 by_cases e : z = y
 ·subst e
  rw [List.count_eq_zero.mpr hz]
  simp
 ·have hy := hp.mem_iff.mp hy
  rcases List.mem_cons.mp hy with h | hy
  ·exact absurd h.symm e
  ·rcases List.mem_cons.mp hy with h | hy
   ·exact absurd h.symm e
   ·rw [T y hy]
    have : (z == y) = false := by simpa using e
    rw [this]
    rfl
theorem corner0 {nm : Str} {c : End} (h : Corner [(nm, [])] c) : c = (0, 0) := by
 obtain ⟨h1, h2⟩ := h
 have h1 : c.1 < 1 := h1
 have e : c.1 = 0 := by omega
 have h2 : c.2 < max 1 (row [(nm, [])] c.1).length := h2
 rw [e] at h2
 have h2 : c.2 < 1 := h2
 exact Prod.ext e (by show c.2 = 0; omega)
theorem full_row {n : Net} (F : Full n) : (∃ nm, n = [(nm, [])]) ∨ row n 0 ≠ [] := by
 rcases F with h | ⟨h1, h2⟩
 ·exact .inl h
 ·exact .inr (h2 0 (List.length_pos_iff.mpr h1))
theorem pl_spikeC {n : Net} {c : End} {z pt : Str} (T : Twice n) (F : Full n) (hz : z ∉ ties n) (hc : Corner n c) (hp : (ties (ins n c z ++ [(pt, [z])])).Perm (z :: z :: ties n)) (P : Pl n) : Pl (ins n c z ++ [(pt, [z])]) := by
 have T' := twice_put hp T hz
 rcases full_row F with ⟨nm, rfl⟩ | h0
 ·have := corner0 hc
  subst this
  exact pl_spike1 T'
 ·exact pl_spike T T' (F.corner h0 hc) P
theorem pl_tieC {n : Net} {k1 k2 : End} {z : Str} (T : Twice n) (F : Full n) (hz : z ∉ ties n) (h1 : Corner n k1) (h2 : Corner n k2) (hp : (ties (ins (ins n k1 z) k2 z)).Perm (z :: z :: ties n)) (ord : k2 = k1 ∨ sh k1 k2 = k2) (same : (∃ k, it (step n) k k1 = k2) ∨ ∃ k, it (step n) k k2 = k1) (P : Pl n) : Pl (ins (ins n k1 z) k2 z) := by
 have T' := twice_put hp T hz
 rcases full_row F with ⟨nm, rfl⟩ | h0
 ·have := corner0 h1
  subst this
  have := corner0 h2
  subst this
  exact pl_tie1 T'
 ·exact pl_tie T T' (F.corner h0 h1) (F.corner h0 h2) ord same P
theorem sh_of_lt {a b : End} (h : Sort2.lexLt ((a.1 : Int), (a.2 : Int)) ((b.1 : Int), (b.2 : Int)) = true) : sh b a = a := by
 unfold Sort2.lexLt at h
 unfold sh
 refine if_neg fun q => ?_
 rw [if_pos (by rw [q.1])] at h
 have := of_decide_eq_true h
 have q2 := q.2
 omega
theorem sh_of_ge {a b : End} (h : Sort2.lexLt ((a.1 : Int), (a.2 : Int)) ((b.1 : Int), (b.2 : Int)) = false) : b = a ∨ sh a b = b := by
 unfold Sort2.lexLt at h
 by_cases e : (a.1 : Int) = (b.1 : Int)
 ·rw [if_pos e] at h
  have h := of_decide_eq_false h
  by_cases e2 : a.2 = b.2
  ·exact .inl (Prod.ext (by omega) e2.symm)
  ·refine .inr (if_neg fun q => ?_)
   have q2 := q.2
   have h : ¬ ((a.2 : Int) < (b.2 : Int)) := h
   omega
 ·exact .inr (if_neg fun q => e (by rw [q.1]))
theorem ties_app (a b : Net) : ties (a ++ b) = ties a ++ ties b := by
 unfold ties
 rw [List.flatMap_append]
theorem pl_popN {n n2 n0 : Net} {j i : Nat} {x : Str} (hj : j < n.length) (hi : i < max 1 (row n j).length) (T0 : Twice n0) (pt : (ties n ++ ties n2).Perm (ties n0))
  (pt' : (ties (n.eraseIdx j) ++ ties (n2 ++ [(x, (row n j).drop i ++ (row n j).take i)])).Perm (ties n0)) (P : Pl (n ++ n2)) : Pl (n.eraseIdx j ++ (n2 ++ [(x, (row n j).drop i ++ (row n j).take i)])) := by
 have tw : ∀ m : Net, (ties m).Perm (ties n0) → Twice m := fun m p y hy => by rw [p.count_eq]; exact T0 y (p.mem_iff.mp hy)
 rw [← ties_app] at pt pt'
 have er : row (n ++ n2) j = row n j := row_app hj
 have ee : n.eraseIdx j ++ (n2 ++ [(x, (row n j).drop i ++ (row n j).take i)]) = (n ++ n2).eraseIdx j ++ [(x, (row (n ++ n2) j).drop i ++ (row (n ++ n2) j).take i)] := by
  rw [List.eraseIdx_append_of_lt_length hj, List.append_assoc, er]
 rw [ee] at pt' ⊢
 exact pl_pop (by rw [List.length_append]; omega) (by rw [er]; exact hi) (tw _ pt) (tw _ pt') (by rw [pt'.length_eq, pt.length_eq]) P
end Nt
namespace Nt
theorem face_it {n : Net} {e c : End} {fs : List End} (f : IsFace n e fs) (h : c ∈ fs) : ∃ k, it (step n) k e = c := by
 obtain ⟨i, hi, e1⟩ := List.mem_iff_getElem.mp h
 have := f.at' i hi
 rw [List.getElem?_eq_getElem hi, e1] at this
 exact ⟨i, (Option.some.inj this).symm⟩
end Nt
namespace Nt
open PySem
noncomputable def parL : List Bool → Bool
 | [] => false
 | b :: l => b ^^ parL l
theorem parL_app : ∀ (a b : List Bool), parL (a ++ b) = (parL a ^^ parL b)
 | [], b => by simp [parL]
 | x :: a, b => by
  show (x ^^ parL (a ++ b)) = ((x ^^ parL a) ^^ parL b)
  rw [parL_app a b, Bool.xor_assoc]
theorem parL_perm {a b : List Bool} (h : a.Perm b) : parL a = parL b := by
 induction h with
 | nil => rfl
 | cons x _ ih => show (x ^^ _) = (x ^^ _); rw [ih]
 | swap x y l => show (y ^^ (x ^^ parL l)) = (x ^^ (y ^^ parL l)); cases x <;> cases y <;> simp
 | trans _ _ h1 h2 => exact h1.trans h2
theorem parL_xor {α : Type} (f g : α → Bool) : ∀ l : List α, parL (l.map fun x => f x ^^ g x) = (parL (l.map f) ^^ parL (l.map g))
 | [] => rfl
 | x :: l => by
  show ((f x ^^ g x) ^^ parL (l.map fun x => f x ^^ g x)) = ((f x ^^ parL (l.map f)) ^^ (g x ^^ parL (l.map g)))
  rw [parL_xor f g l]
  cases f x <;> cases g x <;> cases parL (l.map f) <;> cases parL (l.map g) <;> rfl
noncomputable def EvN (n : Net) (s : Str → Bool) : Prop := ∀ r, parL ((row n r).map s) = false
structure FaceSum (n : Net) (s : Str → Bool) (χ : End → Bool) : Prop where
 go : ∀ e ∈ ends n, χ (step n e) = χ e
 tie : ∀ e z, tieAt n e = some z → s z = (χ e ^^ χ (other n e))
noncomputable def RS (n : Net) : Prop := ∀ s : Str → Bool, EvN n s → ∃ χ, FaceSum n s χ
theorem row_range (n : Net) (r : Nat) (s : Str → Bool) (g : End → Bool) (h : ∀ p z, (row n r)[p]? = some z → s z = g (r, p)) : (row n r).map s = (List.range (row n r).length).map fun p => g (r, p) := by
 apply List.ext_getElem?
 intro p
 rw [List.getElem?_map, List.getElem?_map]
 by_cases hp : p < (row n r).length
 ·rw [List.getElem?_eq_getElem hp, List.getElem?_range hp]
  exact congrArg some (h p _ (List.getElem?_eq_getElem hp))
 ·rw [List.getElem?_eq_none (by omega), List.getElem?_eq_none (by simp; omega)]
  rfl
theorem parL_turn (f : Nat → Bool) (m : Nat) : parL ((List.range m).map fun p => f ((p + 1) % m)) = parL ((List.range m).map f) := by
 cases m with
 | zero => rfl
 | succ k =>
  have e : (List.range (k + 1)).map (fun p => f ((p + 1) % (k + 1))) = ((List.range k).map fun p => f (p + 1)) ++ [f 0] := by
   rw [List.range_succ, List.map_append]
   congr 1
   ·refine List.map_congr_left fun p hp => ?_
    have := List.mem_range.mp hp
    show f ((p + 1) % (k + 1)) = f (p + 1)
    rw [Nat.mod_eq_of_lt (by omega)]
   ·simp
  rw [e, List.range_succ_eq_map, List.map_cons, List.map_map, parL_app]
  show _ = (f 0 ^^ parL ((List.range k).map (f ∘ Nat.succ)))
  show (parL ((List.range k).map fun p => f (p + 1)) ^^ (f 0 ^^ false)) = (f 0 ^^ parL ((List.range k).map fun p => f (p + 1)))
  cases f 0 <;> cases parL ((List.range k).map fun p => f (p + 1)) <;> rfl
theorem FaceSum.even {n : Net} (T : Twice n) {s : Str → Bool} {χ : End → Bool} (h : FaceSum n s χ) : EvN n s := by
 intro r
 rw [row_range n r s (fun e => χ e ^^ χ (other n e)) fun p z hz => h.tie (r, p) z hz]
 rw [parL_xor (fun p => χ (r, p)) (fun p => χ (other n (r, p)))]
 have e : ((List.range (row n r).length).map fun p => χ (other n (r, p))) = (List.range (row n r).length).map fun p => χ (r, (p + 1) % (row n r).length) := by
  refine List.map_congr_left fun p hp => ?_
  have hp := List.mem_range.mp hp
  obtain ⟨z, hz⟩ := end_of (n := n) (e := (r, p)) hp
  obtain ⟨h1, h2, _⟩ := other_spec T hz
  have := h.go (other n (r, p)) (mem_ends.mpr ⟨z, h1⟩)
  rw [← this]
  show χ (left n (other n (other n (r, p)))) = _
  rw [h2]
  rfl
 rw [e, parL_turn (fun p => χ (r, p))]
 cases parL ((List.range (row n r).length).map fun p => χ (r, p)) <;> rfl
theorem FaceSum.xor {n : Net} {s t : Str → Bool} {χ ψ : End → Bool} (h : FaceSum n s χ) (g : FaceSum n t ψ) : FaceSum n (fun z => s z ^^ t z) (fun e => χ e ^^ ψ e) := by
 refine ⟨fun e he => ?_, fun e z hz => ?_⟩
 ·rw [h.go e he, g.go e he]
 ·show (s z ^^ t z) = ((χ e ^^ ψ e) ^^ (χ (other n e) ^^ ψ (other n e)))
  rw [h.tie e z hz, g.tie e z hz]
  cases χ e <;> cases ψ e <;> cases χ (other n e) <;> cases ψ (other n e) <;> rfl
theorem EvN.xor {n : Net} {s t : Str → Bool} (h : EvN n s) (g : EvN n t) : EvN n (fun z => s z ^^ t z) := fun r => by
 rw [parL_xor s t, h r, g r]
 rfl
end Nt
namespace Nt
open PySem
section
variable {n m : Net} {g : End → End} {e1 e2 : End} {z : Str}
theorem Put.mark (p : Put n m g e1 e2 z) (χ : End → Bool) (a : Bool) : ∃ χ' : End → Bool, (∀ e ∈ ends n, χ' (g e) = χ e) ∧ χ' e1 = a ∧ χ' e2 = a := by
 refine ⟨fun x => if x = e1 then a else if x = e2 then a else match (ends n).find? (fun e => decide (g e = x)) with | some e => χ e | none => false, fun e he => ?_, ?_, ?_⟩
 ·show (if g e = e1 then a else if g e = e2 then a else match (ends n).find? (fun e' => decide (g e' = g e)) with | some e => χ e | none => false) = χ e
  rw [if_neg (p.n1 e he), if_neg (p.n2 e he)]
  cases hf : (ends n).find? (fun e' => decide (g e' = g e)) with
  | none => exact absurd (decide_eq_true (rfl : g e = g e)) (by simpa using List.find?_eq_none.mp hf e he)
  | some e' =>
   have h5 := List.find?_some hf
   have h5 : g e' = g e := of_decide_eq_true h5
   rw [p.inj _ _ h5]
 ·simp
 ·simp
theorem Put.face0 (p : Put n m g e1 e2 z) (T : Twice n) (T' : Twice m) {s : Str → Bool} {χ : End → Bool} (h : FaceSum n s χ) (hz : s z = false) {a : Bool}
  (st : ∀ x ∈ ends n, step m (g x) = g (step n x) ∨ ((step m (g x) = e1 ∨ step m (g x) = e2) ∧ χ (step n x) = a))
  (s1 : step m e1 = e1 ∨ step m e1 = e2 ∨ ∃ k ∈ ends n, step m e1 = g k ∧ χ k = a) (s2 : step m e2 = e1 ∨ step m e2 = e2 ∨ ∃ k ∈ ends n, step m e2 = g k ∧ χ k = a) : ∃ χ', FaceSum m s χ' := by
 obtain ⟨χ', h1, h2, h3⟩ := p.mark χ a
 have cases_ : ∀ x ∈ ends m, (∃ e ∈ ends n, x = g e) ∨ x = e1 ∨ x = e2 := fun x hx => by
  have := p.perm.mem_iff.mpr hx
  rcases List.mem_append.mp this with q | q
  ·obtain ⟨e, he, rfl⟩ := List.mem_map.mp q
   exact .inl ⟨e, he, rfl⟩
  ·simp only [List.mem_cons, List.not_mem_nil, or_false] at q
   exact .inr q
 refine ⟨χ', fun x hx => ?_, fun x y hy => ?_⟩
 ·rcases cases_ x hx with ⟨e, he, rfl⟩ | rfl | rfl
  ·rw [h1 e he]
   rcases st e he with q | ⟨q, qa⟩
   ·rw [q, h1 _ (step_end T he), h.go e he]
   ·rw [h.go e he] at qa
    rcases q with q | q
    ·rw [q, h2, qa]
    ·rw [q, h3, qa]
  ·rcases s1 with q | q | ⟨k, hk, q, qa⟩
   ·rw [q]
   ·rw [q, h2, h3]
   ·rw [q, h1 k hk, h2, qa]
  ·rcases s2 with q | q | ⟨k, hk, q, qa⟩
   ·rw [q, h2, h3]
   ·rw [q]
   ·rw [q, h1 k hk, h3, qa]
 ·rcases cases_ x (mem_ends.mpr ⟨y, hy⟩) with ⟨e, he, rfl⟩ | rfl | rfl
  ·rw [p.tie e he] at hy
   obtain ⟨o1, _, _⟩ := other_spec T hy
   rw [p.oth T T' he, h1 e he, h1 _ (mem_ends.mpr ⟨y, o1⟩)]
   exact h.tie e y hy
  ·rw [p.t1] at hy
   cases hy
   rw [p.o1 T', h2, h3, hz]
   cases a <;> rfl
  ·rw [p.t2] at hy
   cases hy
   rw [p.o2 T', h2, h3, hz]
   cases a <;> rfl
theorem rs_with (T' : Twice m) {ψ : End → Bool} (hψ : ∀ e ∈ ends m, ψ (step m e) = ψ e) (t1 : tieAt m e1 = some z) (ho : other m e1 = e2) (ne : ψ e1 ≠ ψ e2) (h0 : ∀ s, EvN m s → s z = false → ∃ χ, FaceSum m s χ) : RS m := by
 intro s hs
 by_cases hz : s z = false
 ·exact h0 s hs hz
 ·have hz : s z = true := by cases h : s z with | true => rfl | false => exact absurd h hz
  let t : Str → Bool := fun y => match (ends m).find? (fun e => decide (tieAt m e = some y)) with | some e => ψ e ^^ ψ (other m e) | none => false
  have ht : FaceSum m t ψ := by
   refine ⟨hψ, fun e y hy => ?_⟩
   show (match (ends m).find? (fun e => decide (tieAt m e = some y)) with | some e => ψ e ^^ ψ (other m e) | none => false) = _
   cases hf : (ends m).find? (fun e => decide (tieAt m e = some y)) with
   | none => exact absurd (decide_eq_true hy) (by simpa using List.find?_eq_none.mp hf e (mem_ends.mpr ⟨y, hy⟩))
   | some e' =>
    have h5 := List.find?_some hf
    have h' : tieAt m e' = some y := of_decide_eq_true h5
    by_cases q : e' = e
    ·rw [q]
    ·have o1 := other_uniq T' h' hy q
     have o2 := other_uniq T' hy h' (Ne.symm q)
     show (ψ e' ^^ ψ (other m e')) = _
     rw [o1, o2]
     cases ψ e <;> cases ψ e' <;> rfl
  have tz : t z = true := by
   rw [ht.tie e1 z t1, ho]
   cases h1 : ψ e1 <;> cases h2 : ψ e2 <;> simp_all
  obtain ⟨χ, hχ⟩ := h0 (fun y => s y ^^ t y) (hs.xor (ht.even T')) (by show (s z ^^ t z) = false; rw [hz, tz]; rfl)
  have := hχ.xor ht
  refine ⟨fun e => χ e ^^ ψ e, this.go, fun e y hy => ?_⟩
  rw [← this.tie e y hy]
  show s y = ((s y ^^ t y) ^^ t y)
  cases s y <;> cases t y <;> rfl
end
end Nt
namespace Nt
open PySem
theorem par_ins {n : Net} {c : End} {z : Str} (hc : c.1 < n.length) {s : Str → Bool} (hz : s z = false) (r : Nat) : parL ((row (ins n c z) r).map s) = parL ((row n r).map s) := by
 rw [row_ins n c z r hc]
 by_cases h : c.1 = r
 ·rw [if_pos h, List.map_append, List.map_cons, parL_app]
  show (parL (((row n r).take c.2).map s) ^^ (s z ^^ parL (((row n r).drop c.2).map s))) = _
  rw [hz, Bool.false_xor, ← parL_app, ← List.map_append, List.take_append_drop]
 ·rw [if_neg h]
theorem Dec.mark {α : Type} [DecidableEq α] {f : α → α} {D : List α} {Ls : List (List α)} (d : Dec f D Ls) {l : List α} (hl : l ∈ Ls) : ∀ x ∈ D, (f x ∈ l ↔ x ∈ l) := by
 intro x hx
 obtain ⟨A, B, rfl⟩ := List.append_of_mem hl
 have d' : Dec f D (l :: (A ++ B)) := ⟨fun k hk => d.cyc k (by
  rcases List.mem_cons.mp hk with rfl | hk
  ·exact hl
  ·rcases List.mem_append.mp hk with q | q
   ·exact List.mem_append_left _ q
   ·exact List.mem_append_right _ (List.mem_cons_of_mem _ q)), by
  refine List.Perm.trans ?_ d.all
  rw [List.flatten_cons, List.flatten_append, List.flatten_append, List.flatten_cons, ← List.append_assoc, ← List.append_assoc]
  exact (List.perm_append_comm).append_right _, d.nd⟩
 have cl : ∀ k ∈ l :: (A ++ B), ∀ x ∈ k, f x ∈ k := fun k hk x hx => by
  obtain ⟨c, hc, p⟩ := d'.cyc k hk
  exact pth_closed p hc hx
 by_cases h : x ∈ l
 ·exact ⟨fun _ => h, fun _ => cl l List.mem_cons_self x h⟩
 ·refine ⟨fun q => ?_, fun q => absurd q h⟩
  exfalso
  obtain ⟨k, hk, hxk⟩ := List.mem_flatten.mp (d'.all.mem_iff.mpr hx)
  rcases List.mem_cons.mp hk with rfl | hk'
  ·exact h hxk
  ·exact d'.apart.2 k hk' _ q (cl k hk x hxk)
section
variable {n m : Net} {g : End → End} {e1 e2 : End} {z : Str}
theorem mark_it {s : Str → Bool} {χ : End → Bool} (T : Twice n) (h : FaceSum n s χ) {a : End} (ha : a ∈ ends n) : ∀ k, χ (it (step n) k a) = χ a
 | 0 => rfl
 | k + 1 => by
  show χ (step n (it (step n) k a)) = _
  rw [h.go _ (it_mem (fun x hx => step_end T hx) ha k), mark_it T h ha k]
theorem rs_split (p : Put n m g e1 e2 z) (T : Twice n) (T' : Twice m) {k1 k2 : End} (h1 : k1 ∈ ends n) (h2 : k2 ∈ ends n) (ne : k2 ≠ k1) (same : (∃ k, it (step n) k k1 = k2) ∨ ∃ k, it (step n) k k2 = k1)
  (l1 : left m e1 = g k1) (l2 : left m e2 = g k2) (lf : ∀ e ∈ ends n, left m (g e) = if left n e = k1 then e1 else if left n e = k2 then e2 else g (left n e))
  {Ls : List (List End)} (d : Dec (step n) (ends n) Ls) (ev : ∀ s, EvN m s → s z = false → EvN n s) (R : RS n) : RS m := by
 have st : ∀ x ∈ ends n, step m (g x) = if step n x = k1 then e1 else if step n x = k2 then e2 else g (step n x) := fun x hx => by
  unfold step
  rw [p.oth T T' hx]
  exact lf _ (other_end T hx)
 have s1 : step m e1 = g k2 := by unfold step; rw [p.o1 T']; exact l2
 have s2 : step m e2 = g k1 := by unfold step; rw [p.o2 T']; exact l1
 obtain ⟨l, Ms, hL, d⟩ := d.pick h1
 have hk := d.one h2 same ne
 obtain ⟨Ls', hL', d', w, hw, w2, w1⟩ := d.split (f' := step m) (g := g) hk (e1 := e1) (e2 := e2) s1 s2
  (fun x hx e => by rw [st x hx, if_pos e]) (fun x hx e => by rw [st x hx, if_neg (by rw [e]; exact ne), if_pos e]) (fun x hx a b => by rw [st x hx, if_neg a, if_neg b]) p.nd
 have dm := d'.perm p.perm
 refine rs_with T' (ψ := fun x => decide (x ∈ w)) (fun x hx => decide_eq_decide.mpr (dm.mark hw x hx)) p.t1 (p.o1 T') (by show decide (e1 ∈ w) ≠ decide (e2 ∈ w); rw [decide_eq_false w1, decide_eq_true w2]; decide) fun s hs hz => ?_
 obtain ⟨χ, hχ⟩ := R s (ev s hs hz)
 have ek : χ k2 = χ k1 := by
  rcases same with ⟨k, e⟩ | ⟨k, e⟩
  ·rw [← e]; exact mark_it T hχ h1 k
  ·rw [← e]; exact (mark_it T hχ h2 k).symm
 refine p.face0 T T' hχ hz (a := χ k1) (fun x hx => ?_) (.inr (.inr ⟨k2, h2, s1, ek⟩)) (.inr (.inr ⟨k1, h1, s2, rfl⟩))
 rw [st x hx]
 by_cases c1 : step n x = k1
 ·rw [if_pos c1]
  exact .inr ⟨.inl rfl, by rw [c1]⟩
 ·rw [if_neg c1]
  by_cases c2 : step n x = k2
  ·rw [if_pos c2]
   exact .inr ⟨.inr rfl, by rw [c2, ek]⟩
  ·rw [if_neg c2]
   exact .inl rfl
theorem rs_loop (p : Put n m g e1 e2 z) (T : Twice n) (T' : Twice m) {c : End} (h1 : c ∈ ends n) (l1 : left m e1 = g c) (l2 : left m e2 = e1) (lf : ∀ e ∈ ends n, left m (g e) = if left n e = c then e2 else g (left n e))
  (ev : ∀ s, EvN m s → s z = false → EvN n s) (R : RS n) : RS m := by
 have st : ∀ x ∈ ends n, step m (g x) = if step n x = c then e2 else g (step n x) := fun x hx => by
  unfold step
  rw [p.oth T T' hx]
  exact lf _ (other_end T hx)
 have s1 : step m e1 = e1 := by unfold step; rw [p.o1 T']; exact l2
 have s2 : step m e2 = g c := by unfold step; rw [p.o2 T']; exact l1
 have he1 : e1 ∈ ends m := mem_ends.mpr ⟨z, p.t1⟩
 refine rs_with T' (ψ := fun x => decide (x = e1)) (fun x hx => ?_) p.t1 (p.o1 T') (by show decide (e1 = e1) ≠ decide (e2 = e1); rw [decide_eq_true rfl, decide_eq_false p.ne.symm]; decide) fun s hs hz => ?_
 ·by_cases q : x = e1
  ·rw [q, s1]
  ·show decide (step m x = e1) = decide (x = e1)
   rw [decide_eq_false q]
   exact decide_eq_false fun e => q (step_inj T' hx he1 (by rw [e, s1]))
 obtain ⟨χ, hχ⟩ := R s (ev s hs hz)
 refine p.face0 T T' hχ hz (a := χ c) (fun x hx => ?_) (.inl s1) (.inr (.inr ⟨c, h1, s2, rfl⟩))
 rw [st x hx]
 by_cases c1 : step n x = c
 ·rw [if_pos c1]
  exact .inr ⟨.inr rfl, by rw [c1]⟩
 ·rw [if_neg c1]
  exact .inl rfl
theorem rs_spike (p : Put n m g e1 e2 z) (T : Twice n) (T' : Twice m) {c : End} (h1 : c ∈ ends n) (l1 : left m e1 = g c) (l2 : left m e2 = e2) (lf : ∀ e ∈ ends n, left m (g e) = if left n e = c then e1 else g (left n e))
  (hz : ∀ s, EvN m s → s z = false) (ev : ∀ s, EvN m s → s z = false → EvN n s) (R : RS n) : RS m := by
 have st : ∀ x ∈ ends n, step m (g x) = if step n x = c then e1 else g (step n x) := fun x hx => by
  unfold step
  rw [p.oth T T' hx]
  exact lf _ (other_end T hx)
 have s1 : step m e1 = e2 := by unfold step; rw [p.o1 T']; exact l2
 have s2 : step m e2 = g c := by unfold step; rw [p.o2 T']; exact l1
 intro s hs
 have hz := hz s hs
 obtain ⟨χ, hχ⟩ := R s (ev s hs hz)
 refine p.face0 T T' hχ hz (a := χ c) (fun x hx => ?_) (.inr (.inl s1)) (.inr (.inr ⟨c, h1, s2, rfl⟩))
 rw [st x hx]
 by_cases c1 : step n x = c
 ·rw [if_pos c1]
  exact .inr ⟨.inl rfl, by rw [c1]⟩
 ·rw [if_neg c1]
  exact .inl rfl
end
end Nt
namespace Nt
open PySem
section
variable {n : Net} {z : Str}
theorem rs_tie {k1 k2 : End} (T : Twice n) (T' : Twice (ins (ins n k1 z) k2 z)) (h1 : k1 ∈ ends n) (h2 : k2 ∈ ends n) (ord : k2 = k1 ∨ sh k1 k2 = k2) (same : (∃ k, it (step n) k k1 = k2) ∨ ∃ k, it (step n) k k2 = k1) (P : Pl n) (R : RS n) : RS (ins (ins n k1 z) k2 z) := by
 have r1 := end_row h1
 have r2 := end_row h2
 have p := put_tie (z := z) (k1 := k1) (k2 := k2) ⟨r1.1, Nat.le_of_lt r1.2⟩ ⟨r2.1, Nat.le_of_lt r2.2⟩
 have c2 : k2.1 < (ins n k1 z).length := by rw [ins_len]; exact r2.1
 have rl : ∀ i, (row n i).length ≤ (row (ins n k1 z) i).length := fun i => by
  rw [rowlen_ins r1.1 (Nat.le_of_lt r1.2)]
  split <;> omega
 have p2 : k2.2 < (row (ins n k1 z) k2.1).length := Nat.lt_of_lt_of_le r2.2 (rl _)
 have p1 : k1.2 < (row (ins n k1 z) k1.1).length := Nat.lt_of_lt_of_le r1.2 (rl _)
 have sl : ∀ e ∈ ends n, (sh k1 e).2 < (row (ins n k1 z) (sh k1 e).1).length := fun e he => by
  obtain ⟨y, hy⟩ := mem_ends.mp he
  exact end_lt (z := y) (by rw [tie_sh r1.1 (Nat.le_of_lt r1.2)]; exact hy)
 have l0 : left (ins n k1 z) k1 = sh k1 k1 := left_new r1.1 r1.2
 have ev : ∀ s, EvN (ins (ins n k1 z) k2 z) s → s z = false → EvN n s := fun s hs hz r => by
  rw [← par_ins r1.1 hz r, ← par_ins c2 hz r]
  exact hs r
 by_cases e : k2 = k1
 ·subst e
  refine rs_loop p T T' h1 ?_ (left_new c2 p2) (fun e he => ?_) ev R
  ·rw [left_sh c2 p2 p1, l0, if_neg (sh_ne _ _)]
  ·show left _ (sh k2 (sh k2 e)) = _
   rw [left_sh c2 p2 (sl e he), left_sh r1.1 r1.2 (end_row he).2]
   by_cases q : left n e = k2
   ·rw [if_pos q, if_pos rfl, if_pos q]
   ·rw [if_neg q, if_neg (sh_ne _ _), if_neg q]
 ·have hs : sh k1 k2 = k2 := ord.resolve_left e
  rcases P with ⟨t0, _⟩ | ⟨Ls, d, _⟩
  ·obtain ⟨y, hy⟩ := mem_ends.mp h1
   have := tie_mem hy
   rw [t0] at this
   cases this
  refine rs_split p T T' h1 h2 e same ?_ ?_ (fun e' he => ?_) d ev R
  ·rw [left_sh c2 p2 p1, l0, if_neg (fun q => e (sh_inj (c := k1) (by rw [hs, q])))]
  ·show left _ k2 = sh k2 (sh k1 k2)
   rw [hs]
   exact left_new c2 p2
  ·show left _ (sh k2 (sh k1 e')) = if left n e' = k1 then sh k2 k1 else if left n e' = k2 then k2 else sh k2 (sh k1 (left n e'))
   rw [left_sh c2 p2 (sl e' he), left_sh r1.1 r1.2 (end_row he).2]
   by_cases q : left n e' = k1
   ·rw [if_pos q, if_pos q, if_neg (fun x => e x.symm)]
   ·rw [if_neg q, if_neg q]
    by_cases q2 : left n e' = k2
    ·rw [if_pos q2, q2, hs, if_pos rfl]
    ·rw [if_neg q2, if_neg (fun x => q2 (sh_inj (c := k1) (by rw [x, hs])))]
theorem rs_spikeN {c : End} {pt : Str} (T : Twice n) (T' : Twice (ins n c z ++ [(pt, [z])])) (h1 : c ∈ ends n) (R : RS n) : RS (ins n c z ++ [(pt, [z])]) := by
 have r1 := end_row h1
 have p := put_spike (z := z) (c := c) (pt := pt) ⟨r1.1, Nat.le_of_lt r1.2⟩
 have la : ∀ e : End, e.1 < n.length → left (ins n c z ++ [(pt, [z])]) e = left (ins n c z) e := fun e he => by
  unfold left
  rw [row_app (by rw [ins_len]; exact he)]
 have rlast := row_last (a := ins n c z) (x := (pt, [z]))
 rw [ins_len] at rlast
 refine rs_spike p T T' h1 ?_ ?_ (fun e he => ?_) (fun s hs => ?_) (fun s hs hz r => ?_) R
 ·rw [la _ r1.1]
  exact left_new r1.1 r1.2
 ·unfold left
  show (n.length, (0 + 1) % (row _ n.length).length) = _
  rw [rlast]
  exact congrArg (Prod.mk _) (Nat.mod_self 1)
 ·rw [la _ (by rw [sh_fst]; exact (end_row he).1)]
  exact left_sh r1.1 r1.2 (end_row he).2
 ·have := hs n.length
  rw [rlast] at this
  have : (s z ^^ false) = false := this
  simpa using this
 ·by_cases h : r < n.length
  ·have := hs r
   rw [row_app (by rw [ins_len]; exact h), par_ins r1.1 hz r] at this
   exact this
  ·have : row n r = [] := by
    unfold row
    rw [List.getElem?_eq_none (by omega)]
    rfl
   rw [this]
   rfl
end
theorem rs_one {nm : Str} : RS [(nm, [])] := fun s _ => ⟨fun _ => false, fun e he => rfl, fun e y hy => by
 have := tie_mem hy
 cases this⟩
theorem rs_spike1 {nm pt z : Str} (T' : Twice [(nm, [z]), (pt, [z])]) : RS [(nm, [z]), (pt, [z])] := fun s hs => ⟨fun _ => false, fun e he => rfl, fun e y hy => by
 have h := tie_mem hy
 have : y = z := by simpa [ties] using h
 rw [this]
 have := hs 0
 have : (s z ^^ false) = false := this
 simpa using this⟩
theorem rs_tie1 {nm z : Str} (T' : Twice [(nm, [z, z])]) : RS [(nm, [z, z])] := fun s _ => by
 have t1 : tieAt [(nm, [z, z])] (0, 0) = some z := rfl
 have t2 : tieAt [(nm, [z, z])] (0, 1) = some z := rfl
 have o1 := other_uniq T' t1 t2 (by decide)
 have o2 := other_uniq T' t2 t1 (by decide)
 have hE : ends [(nm, [z, z])] = [(0, 0), (0, 1)] := rfl
 refine ⟨fun e => decide (e = (0, 0)) && s z, fun e he => ?_, fun e y hy => ?_⟩
 ·rw [hE] at he
  simp only [List.mem_cons, List.not_mem_nil, or_false] at he
  rcases he with rfl | rfl
  ·show (decide (left [(nm, [z, z])] (other [(nm, [z, z])] (0, 0)) = (0, 0)) && s z) = _
   rw [o1]
   simp [left, row]
  ·show (decide (left [(nm, [z, z])] (other [(nm, [z, z])] (0, 1)) = (0, 0)) && s z) = _
   rw [o2]
   simp [left, row]
 ·have h := tie_mem hy
  have e1 : y = z := by simpa [ties] using h
  have he := mem_ends.mpr ⟨y, hy⟩
  rw [hE] at he
  simp only [List.mem_cons, List.not_mem_nil, or_false] at he
  rw [e1]
  rcases he with rfl | rfl
  ·rw [o1]; simp
  ·rw [o2]; simp
noncomputable def Fl (n : Net) : Prop := Pl n ∧ RS n
theorem fl_one {nm : Str} : Fl [(nm, [])] := ⟨.inl ⟨rfl, rfl⟩, rs_one⟩
theorem fl_spikeC {n : Net} {c : End} {z pt : Str} (T : Twice n) (F : Full n) (hz : z ∉ ties n) (hc : Corner n c) (hp : (ties (ins n c z ++ [(pt, [z])])).Perm (z :: z :: ties n)) (P : Fl n) : Fl (ins n c z ++ [(pt, [z])]) := by
 refine ⟨pl_spikeC T F hz hc hp P.1, ?_⟩
 have T' := twice_put hp T hz
 rcases full_row F with ⟨nm, rfl⟩ | h0
 ·have := corner0 hc
  subst this
  exact rs_spike1 T'
 ·exact rs_spikeN T T' (F.corner h0 hc) P.2
theorem fl_tieC {n : Net} {k1 k2 : End} {z : Str} (T : Twice n) (F : Full n) (hz : z ∉ ties n) (h1 : Corner n k1) (h2 : Corner n k2) (hp : (ties (ins (ins n k1 z) k2 z)).Perm (z :: z :: ties n)) (ord : k2 = k1 ∨ sh k1 k2 = k2) (same : (∃ k, it (step n) k k1 = k2) ∨ ∃ k, it (step n) k k2 = k1) (P : Fl n) : Fl (ins (ins n k1 z) k2 z) := by
 refine ⟨pl_tieC T F hz h1 h2 hp ord same P.1, ?_⟩
 have T' := twice_put hp T hz
 rcases full_row F with ⟨nm, rfl⟩ | h0
 ·have := corner0 h1
  subst this
  have := corner0 h2
  subst this
  exact rs_tie1 T'
 ·exact rs_tie T T' (F.corner h0 h1) (F.corner h0 h2) ord same P.1 P.2
end Nt
namespace Nt
open PySem
theorem rs_carry {n m : Net} {g : End → End} (T : Twice n) (T' : Twice m) (ht : (ties m).length = (ties n).length) (tie : ∀ e ∈ ends n, tieAt m (g e) = tieAt n e) (inj : ∀ a ∈ ends n, ∀ b ∈ ends n, g a = g b → a = b)
  (lf : ∀ e ∈ ends n, left m (g e) = g (left n e)) (ev : ∀ s, EvN m s → EvN n s) (R : RS n) : RS m := by
 have onto : ∀ x ∈ ends m, ∃ e ∈ ends n, x = g e := by
  have nd : ((ends n).map g).Nodup := by
   have : ∀ (l : List End), (∀ x ∈ l, x ∈ ends n) → l.Nodup → (l.map g).Nodup := by
    intro l
    induction l with
    | nil => intro _ _; exact List.nodup_nil
    | cons x l ih =>
     intro hs h
     have h := List.nodup_cons.mp h
     rw [List.map_cons]
     refine List.nodup_cons.mpr ⟨fun hx => ?_, ih (fun y hy => hs y (List.mem_cons_of_mem _ hy)) h.2⟩
     obtain ⟨y, hy, e⟩ := List.mem_map.mp hx
     have := inj y (hs y (List.mem_cons_of_mem _ hy)) x (hs x List.mem_cons_self) e
     exact h.1 (this ▸ hy)
   exact this _ (fun x hx => hx) (ends_nodup n)
  have pm : ((ends n).map g).Perm (ends m) := by
   refine perm_of nd (fun a ha => ?_) (by rw [List.length_map, ends_len, ends_len, ht]; exact Nat.le_refl _)
   obtain ⟨x, hx, rfl⟩ := List.mem_map.mp ha
   obtain ⟨y, hy⟩ := mem_ends.mp hx
   exact mem_ends.mpr ⟨y, by rw [tie x hx]; exact hy⟩
  intro x hx
  obtain ⟨e, he, q⟩ := List.mem_map.mp (pm.mem_iff.mpr hx)
  exact ⟨e, he, q.symm⟩
 intro s hs
 obtain ⟨χ, hχ⟩ := R s (ev s hs)
 let χ' : End → Bool := fun x => match (ends n).find? (fun e => decide (g e = x)) with | some e => χ e | none => false
 have h1 : ∀ e ∈ ends n, χ' (g e) = χ e := fun e he => by
  show (match (ends n).find? (fun e' => decide (g e' = g e)) with | some e => χ e | none => false) = χ e
  cases hf : (ends n).find? (fun e' => decide (g e' = g e)) with
  | none => exact absurd (decide_eq_true (rfl : g e = g e)) (by simpa using List.find?_eq_none.mp hf e he)
  | some e' =>
   have h5 := List.find?_some hf
   have h5 : g e' = g e := of_decide_eq_true h5
   rw [inj _ (List.mem_of_find?_eq_some hf) _ he h5]
 have oth : ∀ e ∈ ends n, other m (g e) = g (other n e) := fun e he => by
  obtain ⟨y, hy⟩ := mem_ends.mp he
  obtain ⟨h1, _, h3⟩ := other_spec T hy
  have ho : other n e ∈ ends n := mem_ends.mpr ⟨y, h1⟩
  exact other_uniq T' (by rw [tie e he]; exact hy) (by rw [tie _ ho]; exact h1) fun h => h3 (inj _ he _ ho h).symm
 refine ⟨χ', fun x hx => ?_, fun x y hy => ?_⟩
 ·obtain ⟨e, he, rfl⟩ := onto x hx
  have : step m (g e) = g (step n e) := by
   unfold step
   rw [oth e he]
   exact lf _ (other_end T he)
  rw [this, h1 _ (step_end T he), h1 e he, hχ.go e he]
 ·obtain ⟨e, he, rfl⟩ := onto x (mem_ends.mpr ⟨y, hy⟩)
  rw [tie e he] at hy
  rw [oth e he, h1 e he, h1 _ (other_end T he)]
  exact hχ.tie e y hy
theorem pop_facts {a : Net} {j i : Nat} {x : Str} (hj : j < a.length) (hi : i < max 1 (row a j).length) : ∃ g : End → End, (∀ e ∈ ends a, tieAt (a.eraseIdx j ++ [(x, (row a j).drop i ++ (row a j).take i)]) (g e) = tieAt a e) ∧ (∀ b ∈ ends a, ∀ c ∈ ends a, g b = g c → b = c) ∧
  ∀ e ∈ ends a, left (a.eraseIdx j ++ [(x, (row a j).drop i ++ (row a j).take i)]) (g e) = g (left a e) := by
 have fst : ∀ e : End, (gpop a.length j i (row a j).length e).1 = if e.1 < j then e.1 else if e.1 = j then a.length - 1 else e.1 - 1 := fun e => by
  unfold gpop
  by_cases h : e.1 < j
  ·rw [if_pos h, if_pos h]
  ·rw [if_neg h, if_neg h]
   by_cases h2 : e.1 = j
   ·rw [if_pos h2, if_pos h2]
   ·rw [if_neg h2, if_neg h2]
 have snd : ∀ e : End, (gpop a.length j i (row a j).length e).2 = if e.1 = j then ixr i (row a j).length e.2 else e.2 := fun e => by
  unfold gpop
  by_cases h : e.1 < j
  ·rw [if_pos h, if_neg (by omega)]
  ·rw [if_neg h]
   by_cases h2 : e.1 = j
   ·rw [if_pos h2, if_pos h2]
   ·rw [if_neg h2, if_neg h2]
 have rw1 : ∀ e : End, e.1 < a.length → row (a.eraseIdx j ++ [(x, (row a j).drop i ++ (row a j).take i)]) (gpop a.length j i (row a j).length e).1 = if e.1 = j then (row a j).drop i ++ (row a j).take i else row a e.1 := fun e he => by
  rw [fst, row_pop hj e.1 he]
 refine ⟨gpop a.length j i (row a j).length, fun e he => ?_, fun b hb c hc h => ?_, fun e he => ?_⟩
 ·have r := end_row he
  unfold tieAt
  rw [rw1 e r.1, snd]
  by_cases h : e.1 = j
  ·rw [if_pos h, if_pos h, ← h, ixr_at (by have := hi; rw [← h] at this; omega) r.2]
  ·rw [if_neg h, if_neg h]
 ·have rb := end_row hb
  have rc := end_row hc
  have h1 := congrArg Prod.fst h
  have h2 := congrArg Prod.snd h
  rw [fst, fst] at h1
  rw [snd, snd] at h2
  by_cases p : b.1 = j
  ·by_cases q : c.1 = j
   ·rw [if_pos p, if_pos q] at h2
    refine Prod.ext (by rw [p, q]) ?_
    have rb := rb.2
    have rc := rc.2
    rw [p] at rb
    rw [q] at rc
    unfold ixr at h2
    by_cases u : i ≤ b.2
    ·rw [if_pos u] at h2
     by_cases v : i ≤ c.2
     ·rw [if_pos v] at h2; omega
     ·rw [if_neg v] at h2; omega
    ·rw [if_neg u] at h2
     by_cases v : i ≤ c.2
     ·rw [if_pos v] at h2; omega
     ·rw [if_neg v] at h2; omega
   ·exfalso
    rw [if_neg (by omega), if_pos p] at h1
    have := rc.1
    by_cases u : c.1 < j
    ·rw [if_pos u] at h1; omega
    ·rw [if_neg u, if_neg q] at h1; omega
  ·by_cases q : c.1 = j
   ·exfalso
    have := rb.1
    rw [if_neg (show ¬ c.1 < j by omega), if_pos q] at h1
    by_cases u : b.1 < j
    ·rw [if_pos u] at h1; omega
    ·rw [if_neg u, if_neg p] at h1; omega
   ·rw [if_neg p, if_neg q] at h2
    refine Prod.ext ?_ h2
    rw [if_neg p, if_neg q] at h1
    by_cases u : b.1 < j
    ·rw [if_pos u] at h1
     by_cases v : c.1 < j
     ·rw [if_pos v] at h1; exact h1
     ·rw [if_neg v] at h1; omega
    ·rw [if_neg u] at h1
     by_cases v : c.1 < j
     ·rw [if_pos v] at h1; omega
     ·rw [if_neg v] at h1; omega
 ·have r := end_row he
  have L1 : (left a e).1 = e.1 := rfl
  have L2 : (left a e).2 = (e.2 + 1) % (row a e.1).length := rfl
  refine Prod.ext ?_ ?_
  ·show (gpop a.length j i (row a j).length e).1 = (gpop a.length j i (row a j).length (left a e)).1
   rw [fst, fst, L1]
  ·show ((gpop a.length j i (row a j).length e).2 + 1) % (row _ (gpop a.length j i (row a j).length e).1).length = (gpop a.length j i (row a j).length (left a e)).2
   rw [rw1 e r.1, snd, snd, L1, L2]
   by_cases h : e.1 = j
   ·rw [if_pos h, if_pos h, if_pos h, List.length_append, List.length_drop, List.length_take]
    have r2 := r.2
    rw [h] at r2 ⊢
    rw [show (row a j).length - i + min i (row a j).length = (row a j).length by omega]
    exact ixr_left (by omega) r2
   ·rw [if_neg h, if_neg h, if_neg h]
theorem rs_pop {a : Net} {j i : Nat} {x : Str} (hj : j < a.length) (hi : i < max 1 (row a j).length) (T : Twice a) (T' : Twice (a.eraseIdx j ++ [(x, (row a j).drop i ++ (row a j).take i)]))
  (ht : (ties (a.eraseIdx j ++ [(x, (row a j).drop i ++ (row a j).take i)])).length = (ties a).length) (R : RS a) : RS (a.eraseIdx j ++ [(x, (row a j).drop i ++ (row a j).take i)]) := by
 obtain ⟨g, h1, h2, h3⟩ := pop_facts (x := x) hj hi
 refine rs_carry T T' ht h1 h2 h3 (fun s hs r => ?_) R
 by_cases hr : r < a.length
 ·have := hs (if r < j then r else if r = j then a.length - 1 else r - 1)
  rw [row_pop hj r hr] at this
  by_cases e : r = j
  ·rw [if_pos e] at this
   rw [← this, e]
   refine parL_perm (List.Perm.map s ?_)
   show (row a j).Perm ((row a j).drop i ++ (row a j).take i)
   refine List.Perm.trans ?_ List.perm_append_comm
   rw [List.take_append_drop]
  ·rw [if_neg e] at this
   exact this
 ·have : row a r = [] := by
   unfold row
   rw [List.getElem?_eq_none (by omega)]
   rfl
  rw [this]
  rfl
theorem fl_popN {n n2 n0 : Net} {j i : Nat} {x : Str} (hj : j < n.length) (hi : i < max 1 (row n j).length) (T0 : Twice n0) (pt : (ties n ++ ties n2).Perm (ties n0))
  (pt' : (ties (n.eraseIdx j) ++ ties (n2 ++ [(x, (row n j).drop i ++ (row n j).take i)])).Perm (ties n0)) (P : Fl (n ++ n2)) : Fl (n.eraseIdx j ++ (n2 ++ [(x, (row n j).drop i ++ (row n j).take i)])) := by
 refine ⟨pl_popN hj hi T0 pt pt' P.1, ?_⟩
 have tw : ∀ m : Net, (ties m).Perm (ties n0) → Twice m := fun m p y hy => by rw [p.count_eq]; exact T0 y (p.mem_iff.mp hy)
 rw [← ties_app] at pt pt'
 have er : row (n ++ n2) j = row n j := row_app hj
 have ee : n.eraseIdx j ++ (n2 ++ [(x, (row n j).drop i ++ (row n j).take i)]) = (n ++ n2).eraseIdx j ++ [(x, (row (n ++ n2) j).drop i ++ (row (n ++ n2) j).take i)] := by
  rw [List.eraseIdx_append_of_lt_length hj, List.append_assoc, er]
 rw [ee] at pt' ⊢
 exact rs_pop (by rw [List.length_append]; omega) (by rw [er]; exact hi) (tw _ pt) (tw _ pt') (by rw [pt'.length_eq, pt.length_eq]) P.2
end Nt
namespace Nt
open PySem
end Nt
namespace Nt
open PySem L2
noncomputable def nmA (n : Net) (r : Nat) : Str := ((n[r]?).map (·.1)).getD ⟨#[]⟩
theorem nmA_eq {n : Net} {r : Nat} (h : r < n.length) : nmA n r = n[r].1 := by unfold nmA; rw [List.getElem?_eq_getElem h]; rfl
inductive Way (ls : List (Str × Str × Bool)) (f : Str) : Str → Bool → Prop where
 | here : Way ls f f false
 | there {x y : Str} {b o : Bool} : Way ls f x b → (x, y, o) ∈ ls → Way ls f y (b != o)
 | back {x y : Str} {b o : Bool} : Way ls f x b → (y, x, o) ∈ ls → Way ls f y (b != o)
end Nt
namespace Nt
open PySem L2
noncomputable def evenAt (n : Net) (ss : List Str) : Bool := n.all fun r => (r.2.filter fun z => ss.contains z).length % 2 == 0
theorem tie_two {n : Net} (T : Twice n) {e x : End} {z : Str} (h : tieAt n e = some z) : tieAt n x = some z ↔ x = e ∨ x = other n e := by
 obtain ⟨o1, o2, o3⟩ := other_spec T h
 refine ⟨fun hx => ?_, fun hx => ?_⟩
 ·obtain ⟨a, b, hp, hab, he⟩ := pos_two T h
  have mx : x ∈ pos n z := mem_pos.mpr hx
  have mo : other n e ∈ pos n z := mem_pos.mpr o1
  rw [hp] at mx mo
  simp only [List.mem_cons, List.not_mem_nil, or_false] at mx mo
  rcases he with he | he
  ·rcases mx with m | m
   ·exact .inl (m.trans he.symm)
   ·rcases mo with m2 | m2
    ·exact absurd (m2.trans he.symm) o3
    ·exact .inr (m.trans m2.symm)
  ·rcases mx with m | m
   ·rcases mo with m2 | m2
    ·exact .inr (m.trans m2.symm)
    ·exact absurd (m2.trans he.symm) o3
   ·exact .inl (m.trans he.symm)
 ·rcases hx with rfl | rfl
  ·exact h
  ·exact o1
end Nt
namespace Nt
open PySem L2
noncomputable abbrev Bl := Str × Str × Bool
noncomputable def Touch (ls : List Bl) (x y : Str) (o : Bool) : Prop := (x, y, o) ∈ ls ∨ (y, x, o) ∈ ls
theorem keysP {κ : Type} [DecidableEq κ] (kvs : List (κ × V)) (k : κ) (v : V) : (putK kvs k v).map (·.1) = if k ∈ kvs.map (·.1) then kvs.map (·.1) else kvs.map (·.1) ++ [k] := by
 have e : (kvs.any fun kv => decide (kv.1 = k)) = decide (k ∈ kvs.map (·.1)) := by
  rw [Bool.eq_iff_iff, List.any_eq_true, decide_eq_true_iff, List.mem_map]
  exact ⟨fun ⟨p, h1, h2⟩ => ⟨p, h1, of_decide_eq_true h2⟩, fun ⟨p, h1, h2⟩ => ⟨p, h1, decide_eq_true h2⟩⟩
 unfold putK
 rw [e]
 by_cases h : k ∈ kvs.map (·.1)
 ·rw [if_pos (decide_eq_true h), if_pos h, List.map_map]
  refine List.map_congr_left fun p _ => ?_
  show (if p.1 = k then (p.1, v) else p).1 = p.1
  split <;> rfl
 ·rw [if_neg (by simpa using h), if_neg h, List.map_append]
  rfl
end Nt
namespace Nt
open PySem L2
open PyProof.Rows (sortedS)
noncomputable def Hang (n : Net) : Prop := ∀ P : Str → Prop, (∃ r ∈ n, P r.1) → (∀ r ∈ n, ∀ s ∈ n, ∀ t, t ∈ r.2 → t ∈ s.2 → P r.1 → P s.1) → ∀ r ∈ n, P r.1
theorem hang_of {n m : Net} (h1 : ∀ r ∈ n, ∃ s ∈ m, s.1 = r.1 ∧ ∀ t ∈ r.2, t ∈ s.2) (h2 : ∀ s ∈ m, ∃ r ∈ n, r.1 = s.1) (h : Hang n) : Hang m := by
 rintro P ⟨s, hs, ps⟩ cl s' hs'
 obtain ⟨r, hr, er⟩ := h2 s hs
 obtain ⟨r', hr', er'⟩ := h2 s' hs'
 rw [← er']
 refine h P ⟨r, hr, by rw [er]; exact ps⟩ (fun a ha b hb t ta tb pa => ?_) r' hr'
 obtain ⟨a', ha', ea, sa⟩ := h1 a ha
 obtain ⟨b', hb', eb, sb⟩ := h1 b hb
 rw [← eb]
 exact cl a' ha' b' hb' t (sa t ta) (sb t tb) (by rw [ea]; exact pa)
theorem hang_one (r : Str × List Str) : Hang [r] := by
 rintro P ⟨s, hs, ps⟩ _ x hx
 rw [List.mem_singleton] at hs hx
 rw [hx, ← hs]
 exact ps
theorem ins_at (n : Net) (c : End) (z : Str) (i : Nat) : (ins n c z)[i]? = (n[i]?).map fun r => if c.1 = i then (r.1, r.2.take c.2 ++ z :: r.2.drop c.2) else r := by
 unfold ins
 rw [List.getElem?_modify]
 by_cases h : c.1 = i
 ·simp [h]
 ·simp [h]
theorem hang_ins {n : Net} {c : End} {z : Str} (h : Hang n) : Hang (ins n c z) := by
 refine hang_of (fun r hr => ?_) (fun s hs => ?_) h
 ·obtain ⟨i, hi⟩ := List.getElem?_of_mem hr
  have e := ins_at n c z i
  rw [hi] at e
  refine ⟨_, List.mem_of_getElem? e, ?_, fun t ht => ?_⟩
  ·split <;> rfl
  ·split
   ·show t ∈ r.2.take c.2 ++ z :: r.2.drop c.2
    rw [← List.take_append_drop c.2 r.2] at ht
    rcases List.mem_append.mp ht with q | q
    ·exact List.mem_append_left _ q
    ·exact List.mem_append_right _ (List.mem_cons_of_mem _ q)
   ·exact ht
 ·obtain ⟨i, hi⟩ := List.getElem?_of_mem hs
  rw [ins_at, Option.map_eq_some_iff] at hi
  obtain ⟨r, hr, e⟩ := hi
  refine ⟨r, List.mem_of_getElem? hr, ?_⟩
  rw [← e]
  split <;> rfl
theorem ins_has {n : Net} {c : End} {z : Str} (hc : c.1 < n.length) : ∃ r ∈ ins n c z, z ∈ r.2 := by
 have e := ins_at n c z c.1
 rw [List.getElem?_eq_getElem hc] at e
 refine ⟨_, List.mem_of_getElem? e, ?_⟩
 show z ∈ (if c.1 = c.1 then ((n[c.1].1, n[c.1].2.take c.2 ++ z :: n[c.1].2.drop c.2) : Str × List Str) else n[c.1]).2
 rw [if_pos rfl]
 exact List.mem_append_right _ (List.mem_cons_self ..)
theorem hang_more {n : Net} {z pt : Str} (h : Hang n) (hz : ∃ r ∈ n, z ∈ r.2) : Hang (n ++ [(pt, [z])]) := by
 obtain ⟨r, hr, zr⟩ := hz
 rintro P ⟨s, hs, ps⟩ cl x hx
 have mn : ((pt, [z]) : Str × List Str) ∈ n ++ [(pt, [z])] := List.mem_append_right _ (List.mem_singleton.mpr rfl)
 have ml : ∀ {y}, y ∈ n → y ∈ n ++ [(pt, [z])] := fun hy => List.mem_append_left _ hy
 have all : ∀ y ∈ n, P y.1 := by
  refine h P ?_ (fun a ha b hb t ta tb pa => cl a (ml ha) b (ml hb) t ta tb pa)
  rcases List.mem_append.mp hs with q | q
  ·exact ⟨s, q, ps⟩
  ·rw [List.mem_singleton] at q
   subst q
   exact ⟨r, hr, cl _ mn r (ml hr) z (List.mem_singleton.mpr rfl) zr ps⟩
 rcases List.mem_append.mp hx with q | q
 ·exact all x q
 ·rw [List.mem_singleton] at q
  subst q
  exact cl r (ml hr) _ mn z zr (List.mem_singleton.mpr rfl) (all r hr)
noncomputable def Srt (zs : List Str) : Prop := zs.Pairwise (fun a b => a.cps.toList < b.cps.toList)
theorem srt_of : ∀ {zs : List Str}, sortedS zs = true → zs.Nodup → Srt zs
 | [], _, _ => List.Pairwise.nil
 | z :: r, h, hn => by
  rw [List.nodup_cons] at hn
  refine List.Pairwise.cons (fun x hx => ?_) (srt_of (SetT.rising_sorted h) hn.2)
  have h1 := SetT.rising_all r z h x hx
  rcases List.le_iff_lt_or_eq.mp h1 with q | q
  ·exact q
  ·exact absurd hx (by rw [← SetT.str_ext q]; exact hn.1)
theorem srt_nodup {zs : List Str} (h : Srt zs) : zs.Nodup := h.imp fun q e => by rw [e] at q; exact List.lt_irrefl _ q
theorem srt_unique : ∀ {a b : List Str}, Srt a → Srt b → (∀ x, x ∈ a ↔ x ∈ b) → a = b
 | [], [], _, _, _ => rfl
 | [], y :: b, _, _, h => by have := (h y).mpr (List.mem_cons_self ..); cases this
 | x :: a, [], _, _, h => by have := (h x).mp (List.mem_cons_self ..); cases this
 | x :: a, y :: b, ha, hb, h => by
  unfold Srt at ha hb
  rw [List.pairwise_cons] at ha hb
  have exy : x = y := by
   rcases List.mem_cons.mp ((h x).mp (List.mem_cons_self ..)) with e | e
   ·exact e
   ·rcases List.mem_cons.mp ((h y).mpr (List.mem_cons_self ..)) with e2 | e2
    ·exact e2.symm
    ·exact absurd (List.lt_trans (ha.1 y e2) (hb.1 x e)) (List.lt_irrefl _)
  subst exy
  have nx : ∀ (l : List Str), (∀ z ∈ l, x.cps.toList < z.cps.toList) → x ∉ l := fun l hl hm => List.lt_irrefl _ (hl x hm)
  have : a = b := srt_unique ha.2 hb.2 fun z => by
   constructor
   ·intro hz
    rcases List.mem_cons.mp ((h z).mp (List.mem_cons_of_mem _ hz)) with e | e
    ·exact absurd (e ▸ hz) (nx a ha.1)
    ·exact e
   ·intro hz
    rcases List.mem_cons.mp ((h z).mpr (List.mem_cons_of_mem _ hz)) with e | e
    ·exact absurd (e ▸ hz) (nx b hb.1)
    ·exact e
  rw [this]
noncomputable def IsCut (n : Net) (ps : List Str) (z : Str) : Prop := ∃ e, tieAt n e = some z ∧ nmA n e.1 ∈ ps ∧ nmA n (other n e).1 ∉ ps
theorem cut_mem {n : Net} {ps : List Str} {z : Str} (h : IsCut n ps z) : z ∈ ties n := by
 obtain ⟨e, he, _⟩ := h
 exact tie_mem he
theorem cut_iff {n : Net} (T : Twice n) {ps : List Str} {z : Str} {e : End} (he : tieAt n e = some z) : IsCut n ps z ↔ (decide (nmA n e.1 ∈ ps) != decide (nmA n (other n e).1 ∈ ps)) = true := by
 have o := other_spec T he
 constructor
 ·rintro ⟨x, hx, h1, h2⟩
  rcases (tie_two T he).mp hx with q | q
  ·subst q
   simp [h1, h2]
  ·subst q
   rw [o.2.1] at h2
   simp [h1, h2]
 ·intro h
  by_cases h1 : nmA n e.1 ∈ ps
  ·by_cases h2 : nmA n (other n e).1 ∈ ps
   ·simp [h1, h2] at h
   ·exact ⟨e, he, h1, h2⟩
  ·by_cases h2 : nmA n (other n e).1 ∈ ps
   ·exact ⟨other n e, o.1, h2, by rw [o.2.1]; exact h1⟩
   ·simp [h1, h2] at h
noncomputable def fstN (n : Net) : Str := nmA n 0
structure IsSide (n : Net) (ss sd : List Str) : Prop where
 srt : Srt sd
 mem : ∀ x ∈ sd, x ∈ n.map (·.1)
 fst : fstN n ∉ sd
 cut : ∀ z, z ∈ ss ↔ IsCut n sd z
structure Tells (n : Net) (ss : List Str) (ls : List Bl) : Prop where
 to : ∀ e z, tieAt n e = some z → Touch ls (nmA n e.1) (nmA n (other n e).1) (decide (z ∈ ss))
 fro : ∀ l ∈ ls, ∃ e z, tieAt n e = some z ∧ l = (nmA n e.1, nmA n (other n e).1, decide (z ∈ ss))
theorem way_cut {n : Net} (T : Twice n) {ss sd : List Str} {ls : List Bl} (t : Tells n ss ls) (hc : ∀ z, z ∈ ss ↔ IsCut n sd z) {f x : Str} {b : Bool} (w : Way ls f x b) : decide (x ∈ sd) = (decide (f ∈ sd) != b) := by
 have step : ∀ {x y : Str} {o : Bool}, (x, y, o) ∈ ls → o = (decide (x ∈ sd) != decide (y ∈ sd)) := fun {x y o} h => by
  obtain ⟨e, z, he, hl⟩ := t.fro _ h
  have h1 : x = nmA n e.1 := congrArg (·.1) hl
  have h2 : y = nmA n (other n e).1 := congrArg (·.2.1) hl
  have h3 : o = decide (z ∈ ss) := congrArg (·.2.2) hl
  rw [h1, h2, h3, Bool.eq_iff_iff, decide_eq_true_iff, hc z]
  exact cut_iff T he
 induction w with
 | here => simp
 | @there x y b o w h ih =>
  rw [step h, ih]
  cases decide (f ∈ sd) <;> cases b <;> cases decide (y ∈ sd) <;> rfl
 | @back x y b o w h ih =>
  rw [step h, ih]
  cases decide (f ∈ sd) <;> cases b <;> cases decide (y ∈ sd) <;> rfl
theorem way_side {n : Net} (T : Twice n) {ss sd : List Str} {ls : List Bl} (t : Tells n ss ls) (h : IsSide n ss sd) {x : Str} {b : Bool} (w : Way ls (fstN n) x b) : decide (x ∈ sd) = b := by
 rw [way_cut T t h.cut w, decide_eq_false h.fst]
 simp
theorem at_name {n : Net} {i : Nat} (h : i < n.length) : nmA n i ∈ n.map (·.1) := by
 rw [nmA_eq h]
 exact List.mem_map.mpr ⟨_, List.getElem_mem h, rfl⟩
noncomputable def lksE (n : Net) (ss : List Str) : List Bl := (ends n).map fun e => (nmA n e.1, nmA n (other n e).1, decide ((tieAt n e).getD ⟨#[]⟩ ∈ ss))
theorem lksE_tells {n : Net} {ss : List Str} : Tells n ss (lksE n ss) := by
 refine ⟨fun e z h => .inl (List.mem_map.mpr ⟨e, mem_ends.mpr ⟨z, h⟩, by rw [h]; rfl⟩), fun l hl => ?_⟩
 obtain ⟨e, he, q⟩ := List.mem_map.mp hl
 obtain ⟨z, hz⟩ := mem_ends.mp he
 exact ⟨e, z, hz, by rw [← q, hz]; rfl⟩
theorem other_lt {n : Net} (T : Twice n) {e : End} {z : Str} (h : tieAt n e = some z) : (other n e).1 < n.length := row_lt (other_spec T h).1
end Nt
namespace Nt
open PySem L2
end Nt
namespace Nt
open PySem L2
open PyProof.Rows (sortedS)
theorem val_none {kvs : List (Key × V)} {k : Key} (hg : valV kvs k = none) : k ∉ kvs.map (·.1) := by
 induction kvs with
 | nil => intro h; cases h
 | cons c r ih =>
  intro h
  by_cases hc : c.1 = k
  ·rw [valV_pos hc] at hg
   cases hg
  ·rw [valV_neg hc] at hg
   rcases List.mem_cons.mp h with q | q
   ·exact hc q.symm
   ·exact ih hg q
theorem inl_ne {a b : Nat} (h : a ≠ b) : ¬ (Sum.inl (a : Int) : Key) = Sum.inl (b : Int) := fun q => h (by have := Sum.inl.inj q; omega)
theorem nmA_inj {n : Net} (hn : (n.map (·.1)).Nodup) {i j : Nat} (hi : i < n.length) (hj : j < n.length) (h : nmA n i = nmA n j) : i = j := by
 rw [nmA_eq hi, nmA_eq hj] at h
 have := (List.nodup_iff_pairwise_ne.mp hn)
 rw [List.pairwise_iff_getElem] at this
 rcases Nat.lt_trichotomy i j with q | q | q
 ·exact absurd (by rw [List.getElem_map, List.getElem_map]; exact h) (this i j (by simpa using hi) (by simpa using hj) q)
 ·exact q
 ·exact absurd (by rw [List.getElem_map, List.getElem_map]; exact h.symm) (this j i (by simpa using hj) (by simpa using hi) q)
end Nt
namespace Nt
open PySem L2
open PyProof.Rows (sortedS)
theorem filter_xor (a b c : List Str) (h : ∀ z, z ∈ c ↔ (if z ∈ a then z ∉ b else z ∈ b)) : ∀ zs : List Str, (zs.filter fun z => c.contains z).length % 2 = ((zs.filter fun z => a.contains z).length + (zs.filter fun z => b.contains z).length) % 2
 | [] => rfl
 | z :: r => by
  have ih := filter_xor a b c h r
  have hz := h z
  have ca := fun (l : List Str) => (List.contains_iff_mem (as := l) (a := z))
  simp only [List.filter_cons]
  by_cases ha : z ∈ a <;> by_cases hb : z ∈ b
  ·have hc : z ∉ c := fun q => by have := hz.mp q; rw [if_pos ha] at this; exact this hb
   rw [if_pos ((ca a).mpr ha), if_pos ((ca b).mpr hb), if_neg (fun q => hc ((ca c).mp q)), List.length_cons, List.length_cons]
   omega
  ·have hc : z ∈ c := hz.mpr (by rw [if_pos ha]; exact hb)
   rw [if_pos ((ca a).mpr ha), if_neg (fun q => hb ((ca b).mp q)), if_pos ((ca c).mpr hc), List.length_cons, List.length_cons]
   omega
  ·have hc : z ∈ c := hz.mpr (by rw [if_neg ha]; exact hb)
   rw [if_neg (fun q => ha ((ca a).mp q)), if_pos ((ca b).mpr hb), if_pos ((ca c).mpr hc), List.length_cons, List.length_cons]
   omega
  ·have hc : z ∉ c := fun q => by have := hz.mp q; rw [if_neg ha] at this; exact hb this
   rw [if_neg (fun q => ha ((ca a).mp q)), if_neg (fun q => hb ((ca b).mp q)), if_neg (fun q => hc ((ca c).mp q))]
   exact ih
theorem even_iff {n : Net} {ss : List Str} : evenAt n ss = true ↔ ∀ r ∈ n, (r.2.filter fun z => ss.contains z).length % 2 = 0 := by
 unfold evenAt
 rw [List.all_eq_true]
 exact ⟨fun h r hr => by simpa using h r hr, fun h r hr => by simpa using h r hr⟩
theorem sum_count {a : List Str} (hn : a.Nodup) : ∀ l : List Str, (l.filter fun z => a.contains z).length = (a.map fun z => l.count z).sum
 | [] => by
  have : ∀ a : List Str, (a.map fun z => ([] : List Str).count z).sum = 0 := fun a => by
   induction a with
   | nil => rfl
   | cons x r ih => rw [List.map_cons, List.sum_cons, ih]; rfl
  rw [this]
  rfl
 | y :: l => by
  have ih := sum_count hn l
  have key : ∀ a : List Str, (a.map fun z => (y :: l).count z).sum = (a.map fun z => l.count z).sum + a.count y := fun a => by
   induction a with
   | nil => rfl
   | cons x r ih =>
    rw [List.map_cons, List.sum_cons, ih, List.map_cons, List.sum_cons, List.count_cons, List.count_cons]
    by_cases h : y = x
    ·rw [if_pos (by simp [h]), if_pos (by simp [h])]
     omega
    ·rw [if_neg (by simpa using h), if_neg (by simpa using fun q => h (Eq.symm q))]
     omega
  rw [key, List.filter_cons, ← ih, hn.count]
  by_cases h : y ∈ a
  ·rw [if_pos (List.contains_iff_mem.mpr h), if_pos h, List.length_cons]
  ·rw [if_neg (fun q => h (List.contains_iff_mem.mp q)), if_neg h]
   rfl
theorem half_len {n : Net} (T : Twice n) {ss : List Str} (hn : ss.Nodup) (hm : ∀ z ∈ ss, z ∈ ties n) : 2 * ss.length ≤ (ties n).length := by
 have h := sum_count hn (ties n)
 have e : ∀ l : List Str, (∀ z ∈ l, z ∈ ties n) → (l.map fun z => (ties n).count z).sum = 2 * l.length := fun l => by
  induction l with
  | nil => intro _; rfl
  | cons x r ih =>
   intro hl
   rw [List.map_cons, List.sum_cons, ih fun z hz => hl z (List.mem_cons_of_mem _ hz), T x (hl x (List.mem_cons_self ..)), List.length_cons]
   omega
 rw [e ss hm] at h
 rw [← h]
 exact List.length_filter_le _ _
theorem ltS_or {x y : Str} (h : x ≠ y) : x.cps.toList < y.cps.toList ∨ y.cps.toList < x.cps.toList := by
 by_cases q : x.cps.toList < y.cps.toList
 ·exact .inl q
 ·rcases List.le_iff_lt_or_eq.mp (List.not_lt.mp q) with q | q
  ·exact .inr q
  ·exact absurd (SetT.str_ext q).symm h
theorem srt_ins (x : Str) : ∀ sd : List Str, Srt sd → ∃ sd', Srt sd' ∧ ∀ y, y ∈ sd' ↔ y = x ∨ y ∈ sd
 | [], _ => ⟨[x], List.pairwise_singleton _ _, fun y => by simp⟩
 | z :: r, h => by
  have h := List.pairwise_cons.mp h
  by_cases e : x = z
  ·subst e
   exact ⟨x :: r, List.pairwise_cons.mpr h, fun y => by simp⟩
  ·rcases ltS_or e with q | q
   ·refine ⟨x :: z :: r, List.pairwise_cons.mpr ⟨fun y hy => ?_, List.pairwise_cons.mpr h⟩, fun y => List.mem_cons⟩
    rcases List.mem_cons.mp hy with rfl | hy
    ·exact q
    ·exact List.lt_trans q (h.1 y hy)
   ·obtain ⟨sd', hs, hm⟩ := srt_ins x r h.2
    refine ⟨z :: sd', List.pairwise_cons.mpr ⟨fun y hy => ?_, hs⟩, fun y => ?_⟩
    ·rcases (hm y).mp hy with rfl | hy
     ·exact q
     ·exact h.1 y hy
    ·rw [List.mem_cons, hm y, List.mem_cons]
     exact ⟨fun k => by rcases k with k | k | k <;> simp [k], fun k => by rcases k with k | k | k <;> simp [k]⟩
theorem srt_exists : ∀ l : List Str, ∃ sd, Srt sd ∧ ∀ x, x ∈ sd ↔ x ∈ l
 | [] => ⟨[], List.Pairwise.nil, fun _ => Iff.rfl⟩
 | x :: r => by
  obtain ⟨sd, hs, hm⟩ := srt_exists r
  obtain ⟨sd', hs', hm'⟩ := srt_ins x sd hs
  exact ⟨sd', hs', fun y => by rw [hm' y, hm y, List.mem_cons]⟩
end Nt
namespace Nt
open PySem L2
noncomputable def HF (n : Net) : Prop := Hang n ∧ Fl n
theorem hf_one {nm : Str} : HF [(nm, [])] := ⟨hang_one _, fl_one⟩
theorem hf_spikeC {n : Net} {c : End} {z pt : Str} (T : Twice n) (F : Full n) (hz : z ∉ ties n) (hc : Corner n c) (hp : (ties (ins n c z ++ [(pt, [z])])).Perm (z :: z :: ties n)) (P : HF n) : HF (ins n c z ++ [(pt, [z])]) :=
 ⟨hang_more (hang_ins P.1) (ins_has hc.1), fl_spikeC T F hz hc hp P.2⟩
theorem hf_tieC {n : Net} {k1 k2 : End} {z : Str} (T : Twice n) (F : Full n) (hz : z ∉ ties n) (h1 : Corner n k1) (h2 : Corner n k2) (hp : (ties (ins (ins n k1 z) k2 z)).Perm (z :: z :: ties n)) (ord : k2 = k1 ∨ sh k1 k2 = k2) (same : (∃ k, it (step n) k k1 = k2) ∨ ∃ k, it (step n) k k2 = k1) (P : HF n) : HF (ins (ins n k1 z) k2 z) :=
 ⟨hang_ins (hang_ins P.1), fl_tieC T F hz h1 h2 hp ord same P.2⟩
theorem hf_popN {n n2 n0 : Net} {j i : Nat} (hj : j < n.length) (hi : i < max 1 (row n j).length) (T0 : Twice n0) (pt : (ties n ++ ties n2).Perm (ties n0))
  (pt' : (ties (n.eraseIdx j) ++ ties (n2 ++ [(n[j].1, (row n j).drop i ++ (row n j).take i)])).Perm (ties n0)) (P : HF (n ++ n2)) : HF (n.eraseIdx j ++ (n2 ++ [(n[j].1, (row n j).drop i ++ (row n j).take i)])) := by
 refine ⟨hang_of (fun r hr => ?_) (fun x hx => ?_) P.1, fl_popN hj hi T0 pt pt' P.2⟩
 ·rcases List.mem_append.mp hr with hx | hx
  ·rcases (SetT.pick_perm n j hj).symm.mem_iff.mp hx |> List.mem_cons.mp with q | q
   ·refine ⟨(n[j].1, (row n j).drop i ++ (row n j).take i), List.mem_append_right _ (List.mem_append_right _ (List.mem_singleton.mpr rfl)), by rw [q], fun t ht => ?_⟩
    refine (rot_perm (row n j) i).mem_iff.mpr ?_
    rw [row_eq hj, ← q]
    exact ht
   ·exact ⟨r, List.mem_append_left _ q, rfl, fun t h => h⟩
  ·exact ⟨r, List.mem_append_right _ (List.mem_append_left _ hx), rfl, fun t h => h⟩
 ·rcases List.mem_append.mp hx with hx | hx
  ·exact ⟨x, List.mem_append_left _ (List.mem_of_mem_eraseIdx hx), rfl⟩
  ·rcases List.mem_append.mp hx with hx | hx
   ·exact ⟨x, List.mem_append_right _ hx, rfl⟩
   ·rw [List.mem_singleton] at hx
    exact ⟨n[j], List.mem_append_left _ (List.getElem_mem hj), by rw [hx]⟩
theorem parL_filter (s : Str → Bool) : ∀ l : List Str, parL (l.map s) = decide ((l.filter s).length % 2 = 1)
 | [] => rfl
 | x :: l => by
  show (s x ^^ parL (l.map s)) = _
  rw [parL_filter s l, List.filter_cons]
  cases h : s x
  ·rw [if_neg (by decide), Bool.false_xor]
  ·rw [if_pos rfl, List.length_cons, Bool.true_xor, ← decide_not]
   exact decide_eq_decide.mpr (by omega)
theorem ev_of_evN {n : Net} {s : Str → Bool} {ss : List Str} (h : EvN n s) (hs : ∀ z ∈ ties n, ss.contains z = s z) : evenAt n ss = true := even_iff.mpr fun r hr => by
 obtain ⟨i, hi, rfl⟩ := List.mem_iff_getElem.mp hr
 have := h i
 rw [parL_filter, row_eq hi] at this
 have e : (n[i].2.filter fun z => ss.contains z) = n[i].2.filter s := List.filter_congr fun z hz => hs z (List.mem_flatMap.mpr ⟨n[i], hr, hz⟩)
 rw [e]
 have := of_decide_eq_false this
 omega
theorem parL_none {α : Type} : ∀ l : List α, parL (l.map fun _ => false) = false
 | [] => rfl
 | _ :: l => by show (false ^^ parL _) = false; rw [parL_none l]; rfl
theorem par_at (x : Nat) (e : End) : ∀ m, parL ((List.range m).map fun p => decide ((x, p) = e)) = decide (x = e.1 ∧ e.2 < m)
 | 0 => by simp [parL]
 | m + 1 => by
  rw [List.range_succ, List.map_append, parL_app, par_at x e m]
  show (decide (x = e.1 ∧ e.2 < m) ^^ (decide ((x, m) = e) ^^ false)) = _
  rw [Bool.xor_false]
  obtain ⟨a, b⟩ := e
  by_cases h : x = a
  ·by_cases h2 : b = m
   ·subst h; subst h2
    simp
   ·have e1 : ((x, m) = (a, b)) = False := by simp [h]; omega
    rw [decide_eq_false (p := (x, m) = (a, b)) (by rw [e1]; exact id), Bool.xor_false]
    exact decide_eq_decide.mpr ⟨fun q => ⟨q.1, by have := q.2; omega⟩, fun q => ⟨q.1, by have := q.2; show b < m; omega⟩⟩
  ·rw [decide_eq_false (fun q => h q.1), decide_eq_false (fun q => h (congrArg Prod.fst q)), decide_eq_false (fun q => h q.1)]
   rfl
theorem par_tie {n : Net} (T : Twice n) {e : End} {t : Str} (h : tieAt n e = some t) (x : Nat) : parL ((row n x).map fun y => decide (y = t)) = (decide (x = e.1) ^^ decide (x = (other n e).1)) := by
 have o := other_spec T h
 rw [row_range n x (fun y => decide (y = t)) (fun a => decide (a = e) ^^ decide (a = other n e)) fun p z hz => ?_]
 ·rw [parL_xor (fun p => decide ((x, p) = e)) (fun p => decide ((x, p) = other n e)), par_at, par_at]
  have l1 := end_lt h
  have l2 := end_lt o.1
  congr 1
  ·exact decide_eq_decide.mpr ⟨fun q => q.1, fun q => ⟨q, by rw [q]; exact l1⟩⟩
  ·exact decide_eq_decide.mpr ⟨fun q => q.1, fun q => ⟨q, by rw [q]; exact l2⟩⟩
 ·have hz : tieAt n (x, p) = some z := hz
  by_cases q : z = t
  ·subst q
   rcases (tie_two T h).mp hz with k | k
   ·rw [k, decide_eq_true rfl, decide_eq_true rfl, decide_eq_false (Ne.symm o.2.2)]
    rfl
   ·rw [k, decide_eq_true rfl, decide_eq_true rfl, decide_eq_false o.2.2]
    rfl
  ·have h1 : ((x, p) : End) ≠ e := fun k => by rw [k, h] at hz; exact q (Option.some.inj hz).symm
   have h2 : ((x, p) : End) ≠ other n e := fun k => by rw [k, o.1] at hz; exact q (Option.some.inj hz).symm
   rw [decide_eq_false q, decide_eq_false h1, decide_eq_false h2]
   rfl
end Nt
namespace M2
open PySem L2 Nt Sort2
noncomputable def spPut : Sp := fun vs H Q _ => ∃ (R : Addr) (as : List (Addr × Addr)) (n : Net) (b : Int) (z pt : Str), vs = [.ref R, .int b, .str z, .str pt] ∧ RowsAt H R as n ∧ Twice n ∧ Full n ∧ z ∉ ties n ∧ n.length ≤ 100 ∧ (ties n).length ≤ 100 ∧
 ∀ i as' n' H', RowsAt H' R as' n' → Keep H H' (R :: as.map (·.2)) → (∀ a ∈ as', a ∈ as ∨ H a.2 = none) → (ties n').Perm (z :: z :: ties n) → (n'.map (·.1) = n.map (·.1) ∨ n'.map (·.1) = n.map (·.1) ++ [pt]) → Full n' → (HF n → HF n') → Q (.int i) H'
section
variable {P : Program} {w : World} {K : PySem.W.Frag} {mg : Str → Option Value} {base : Heap}
noncomputable abbrev NP : List Str := ["_law_rows", "_law_big_here", "_law_tie", "_law_point", "_law_corners", "_law_r", "_law_place", "_law_one", "_law_kind", "_law_face_here", "_law_other_here", "_law_spot"]
theorem scPut : FnScope NP ["_law_rows", "_law_big_here", "_law_tie", "_law_point"] (defScope sPut) := ⟨rfl, rfl, rfl, by decide +kernel, rfl, by decide +kernel, by decide +kernel⟩
theorem at_refs {ts : List Addr} {j : Nat} {t : Addr} (h : ts[j]? = some t) : atI (ts.map V.ref) (j : Int) = some (.ref t) := atI_nat (by rw [List.getElem?_map, h]; rfl)
theorem ok_put {f : Addr} {fd : FuncData} (F : Fun K "_law_put" "_law_put" sPut f fd) (T : Txt mg)
  (GS : Has P w K mg base 3 "_law_seats" ["_law_rows"] spSeats)
  (GF : Has P w K mg base 3 "_law_face" ["_law_rows", "_law_seats_here", "_law_end"] spFace) :
  FnOk P w K mg base CX0 4 f fd ["_law_rows", "_law_big_here", "_law_tie", "_law_point"] spPut := by
 refine F.gb scPut (fun vs H Q E h => ?_) (fun b0 H vs Q E hr h => ?_)
 ·obtain ⟨R, as, n, b, z, pt, rfl, _⟩ := h
  rfl
 obtain ⟨R, as, n, b, z, pt, rfl, hR, hT, hF, hz, hn, htn, q⟩ := h
 have nd := scPut.nd
 have hu := hr.u100
 have hal := hR.len
 show Run _ _ _ [some (.ref R), some (.int b), some (.str z), some (.str pt), none, none, none, none, none, none, none, none] H
 refine run_set 4 nd (ev_lst (ea_nil ⟨(by show 0 ≤ sizeLine; decide), fun lc hlc => ?_⟩))
 have g0 := same_new hlc (.lst [])
 refine run_forR1 T.range (ev_blt call_len_seq T.len boot_len (ea_cons (ev_v 0 (ea_nil ⟨R, _, rfl, .inl (SqL.of (g0 _ _ hR.lst)), _, rfl, by omega, by rw [List.length_map]; omega, ?_⟩))))
 rw [List.length_map, hal, Int.toNat_natCast]
 refine loop_range (fun r σ H3 => ∃ (ts : List Addr) (cs : List Nt.End) (u1 u2 : Option V), Same H H3 ∧ H3 lc = some (.lst (ts.map V.ref)) ∧ Pd H3 ts cs ∧ (∀ c ∈ cs, Corner n c) ∧ (0 < r → cs ≠ []) ∧ cs.length ≤ 101 * r ∧ σ = [some (.ref R), some (.int b), some (.str z), some (.str pt), some (.ref lc), u1, u2, none, none, none, none, none]) ⟨[], [], _, _, g0, upd_same, .nil, fun c hc => (nomatch hc), fun h => absurd h (by decide), Nat.le_refl _, rfl⟩ ?_ ?_
 ·rintro r σ H3 hi ⟨ts, cs, u1, u2, sH, el, ep, hc, hne, hlen, rfl⟩
  rw [Int.zero_add]
  refine eg_name 5 nd ?_
  obtain ⟨a, ea, eat, et, ell, er⟩ := (hR.same sH).at hi
  have hrl := row_le n r
  refine run_forR1 T.range (ev_blt (call_max2 rfl) T.max PyProof.Rows.boot_max (ea_cons (ev_int (ea_cons (ev_blt call_len_seq T.len boot_len (ea_cons (ev_ix ix_tup (ev_ix ix_list (ev_v 0 (ev_v 5 ⟨R, _, _, .ref a.1, rfl, rfl, SqL.of (sH _ _ hR.lst), eat, ev_int ⟨a.1, _, _, .ref a.2, rfl, rfl, SqT.of et, rfl, ea_nil ⟨a.2, _, rfl, .inl (SqL.of ell), ?_⟩⟩⟩))))))))))
  rw [List.length_map]
  have em : (if ((row n r).length : Int) > 1 then ((row n r).length : Int) else 1) = ((max 1 (row n r).length : Nat) : Int) := by
   split <;> omega
  refine ea_nil ⟨1, _, rfl, ((max 1 (row n r).length : Nat) : Int), by rw [em], by omega, by omega, ?_⟩
  rw [Int.toNat_natCast]
  refine loop_range (fun p σ H4 => ∃ (ts : List Addr) (cs : List Nt.End) (u2 : Option V), Same H H4 ∧ H4 lc = some (.lst (ts.map V.ref)) ∧ Pd H4 ts cs ∧ (∀ c ∈ cs, Corner n c) ∧ (0 < r + p → cs ≠ []) ∧ cs.length ≤ 101 * r + p ∧ σ = [some (.ref R), some (.int b), some (.str z), some (.str pt), some (.ref lc), some (.int (r : Int)), u2, none, none, none, none, none]) ⟨ts, cs, _, sH, el, ep, hc, hne, hlen, rfl⟩ ?_ ?_
  ·rintro p σ H4 hp ⟨ts, cs, u2, sH, el, ep, hc, hne, hlen, rfl⟩
   rw [Int.zero_add]
   refine eg_name 6 nd ?_
   refine run_expr (ev_append (ev_v 4 ⟨lc, rfl, ⟨_, el⟩, ev_tup (ea_cons (ev_v 5 (ea_cons (ev_v 6 (ea_nil ⟨(by show 2 ≤ sizeLine; decide), fun t ht => ?_⟩)))))⟩))
   have htl : lc ≠ t := ne_of_none el ht
   have s2 := same_new ht (Tp (r, p))
   have epl := ep.length
   refine ⟨ts.map V.ref, by rw [upd_ne htl]; exact el, by rw [List.length_map]; exact small' (by omega), ?_⟩
   refine run_nil ⟨ts ++ [t], cs ++ [(r, p)], _, same_mut (sH.trans s2) hlc, by rw [upd_same, List.map_append]; rfl, ?_, fun c h => ?_, fun _ => by simp, by rw [List.length_append]; simp; omega, rfl⟩
   ·refine Pd.append (ep.keep fun x e h => ?_) (.cons ?_ .nil)
    ·rw [upd_ne (tp_ne_lst h el)]
     exact s2 _ _ h
    ·rw [upd_ne htl.symm, upd_same]
   ·rcases List.mem_append.mp h with h | h
    ·exact hc c h
    ·rw [List.mem_singleton] at h
     subst h
     exact ⟨hi, hp⟩
  ·rintro σ H4 ⟨ts, cs, u2, sH, el, ep, hc, hne, hlen, rfl⟩
   refine run_nil ⟨ts, cs, _, _, sH, el, ep, hc, fun _ => hne (by omega), by omega, rfl⟩
 rintro σ H3 ⟨ts, cs, u1, u2, sH, el, ep, hc, hne, hlen, rfl⟩
 have hn0 : 0 < n.length := List.length_pos_iff.mpr hF.some
 have cne := hne hn0
 have cpos : 0 < cs.length := List.length_pos_iff.mpr cne
 have epl := ep.length
 have m0 : 0 ≤ b % (cs.length : Int) := Int.emod_nonneg _ (by omega)
 have m1 : b % (cs.length : Int) < cs.length := Int.emod_lt_of_pos _ (by omega)
 obtain ⟨j, hj⟩ : ∃ j : Nat, b % (cs.length : Int) = j := ⟨(b % (cs.length : Int)).toNat, by omega⟩
 have hjl : j < cs.length := by omega
 have hce : cs[j]? = some cs[j] := List.getElem?_eq_getElem hjl
 obtain ⟨t1, et1, e1⟩ := ep.at hce
 have hcc : Corner n cs[j] := hc _ (List.getElem_mem hjl)
 generalize cs[j] = c1 at e1 hcc
 refine run_set 7 nd (ev_ix ix_list (ev_v 4 (ev_op op_mod (ev_v 1 (ev_blt call_len_seq T.len boot_len (ea_cons (ev_v 4 (ea_nil ⟨lc, _, rfl, .inl (SqL.of el), ?_⟩))))))))
 rw [List.length_map, epl]
 refine ⟨_, _, rfl, rfl, by omega, lc, _, _, .ref t1, rfl, rfl, SqL.of el, by rw [hj]; exact at_refs et1, ?_⟩
 refine run_set 1 nd (ev_op op_fdiv (ev_v 1 (ev_blt call_len_seq T.len boot_len (ea_cons (ev_v 4 (ea_nil ⟨lc, _, rfl, .inl (SqL.of el), ?_⟩))))))
 rw [List.length_map, epl]
 refine ⟨_, _, rfl, rfl, ⟨by omega, by omega⟩, ?_⟩
 show Run _ _ _ [some (.ref R), some (.int (b / (cs.length : Int))), some (.str z), some (.str pt), some (.ref lc), u1, u2, some (.ref t1), none, none, none, none] H3
 generalize b / (cs.length : Int) = b2
 refine run_set 8 nd (ev_op op_mod (ev_v 1 (ev_int ⟨_, _, rfl, rfl, (by show (0 : Int) < 3; decide), ?_⟩)))
 refine run_set 1 nd (ev_op op_fdiv (ev_v 1 (ev_int ⟨_, _, rfl, rfl, ⟨by decide, by decide⟩, ?_⟩)))
 show Run _ _ _ [some (.ref R), some (.int (b2 / 3)), some (.str z), some (.str pt), some (.ref lc), u1, u2, some (.ref t1), some (.int (b2 % 3)), none, none, none] H3
 generalize b2 / 3 = b3
 have hR3 := hR.same sH
 obtain ⟨a, ea, eat, eta, ela, era⟩ := hR3.at hcc.1
 have insOk : ∀ (m : Net), (ties m).length ≤ 200 → ∀ i, (row m i).length ≤ 200 := fun m h i => Nat.le_trans (row_le m i) h
 have cin : c1.2 ≤ (row n c1.1).length := by
  have := hcc.2
  omega
 refine run_if (et_cmp op_eq (ev_v 8 (ev_int ⟨rfl, _, rfl, ?_⟩)))
 refine ite2 (fun _ => ?_) (fun _ => run_nil ?_)
 ·
  have rl := row_le n c1.1
  refine run_expr (ev_m2 PySem.F.plainAttrs_list PySem.F.slot_list_insert PySem.F.type_list_insert mt_insert (ev_ix ix_tup (ev_ix ix_list (ev_v 0 (ev_ix ix_tup (ev_v 7 (ev_int ⟨t1, _, _, .int (c1.1 : Int), rfl, rfl, SqT.of e1, rfl, R, _, _, .ref a.1, rfl, rfl, SqL.of hR3.lst, eat, ev_int ⟨a.1, _, _, .ref a.2, rfl, rfl, SqT.of eta, rfl, Or.inl ⟨rfl, _, SqL.of ela⟩, ?_⟩⟩)))))))
  refine ev_ix ix_tup (ev_v 7 (ev_int ⟨t1, _, _, .int (c1.2 : Int), rfl, rfl, SqT.of e1, rfl, ev_v 2 ⟨a.2, _, _, _, rfl, rfl, ela, by omega, by rw [Int.toNat_natCast, List.length_map]; exact cin, by rw [List.length_map]; exact small' (by omega), ?_⟩⟩))
  rw [Int.toNat_natCast, ls_ins]
  have R4 := hR3.ins (z := z) ea hcc.1
  refine run_expr (ev_append (ev_v 0 ⟨R, rfl, ⟨_, R4.lst⟩, ev_tup (ea_cons (ev_v 3 (ea_cons (ev_lst (ea_cons (ev_v 2 (ea_nil ⟨(by show 1 ≤ sizeLine; decide), fun l1 hl1 => ?_⟩)))))))⟩))
  refine ea_nil ⟨(by show 2 ≤ sizeLine; decide), fun t2 ht2 => ?_⟩
  have s5 := same_new hl1 (Ls [z])
  have s6 := same_new ht2 (.tup [.str pt, .ref l1])
  have R6 := (R4.same s5).same s6
  refine ⟨_, R6.lst, by rw [List.length_map]; exact small' (by omega), ?_⟩
  have l1f : H3 l1 = none := by
   by_cases q1 : l1 = a.2
   ·rw [q1, upd_same] at hl1; cases hl1
   ·rwa [upd_ne q1] at hl1
  have l1n : l1 ∉ as.map (·.2) := fun hm => by
   obtain ⟨x, hx, e⟩ := List.mem_map.mp hm
   exact R4.fresh hl1 hx e.symm
  have l1R : l1 ≠ R := fun e => by rw [e, R4.lst] at hl1; cases hl1
  have R7 := R6.more (t := t2) (l := l1) (pt := pt) (zs := [z]) upd_same (s6 _ _ upd_same) l1n l1R
  have tp : (ties (ins n c1 z ++ [(pt, [z])])).Perm (z :: z :: ties n) := by
   unfold ties
   rw [List.flatMap_append]
   show (ties (ins n c1 z) ++ [z]).Perm _
   exact (List.perm_append_comm).trans ((ties_ins n c1 z hcc.1).cons z)
  refine run_ret (ev_v 1 (q _ _ _ _ R7 (fun x o hx hbad => ?_) (fun x hx => ?_) tp (.inr ?_) ?_ fun hP => hf_spikeC hT hF hz hcc tp hP))
  ·have x1 : x ≠ R := fun e => hbad (by rw [e]; exact List.mem_cons_self)
   have x2 : x ≠ a.2 := fun e => hbad (List.mem_cons_of_mem _ (by rw [e]; exact List.mem_map.mpr ⟨a, List.mem_of_getElem? ea, rfl⟩))
   rw [upd_ne x1]
   refine s6 _ _ (s5 _ _ ?_)
   rw [upd_ne x2]
   exact sH _ _ hx
  ·rcases List.mem_append.mp hx with hx | hx
   ·exact .inl hx
   ·rw [List.mem_singleton] at hx
    subst hx
    exact .inr (sH.free l1f)
  ·rw [List.map_append, ins_names]
   rfl
  ·refine .inr ⟨by simp, fun i hi => ?_⟩
   have hfi := (full_ins (z := z) hF hcc.1 hF.either).1
   rw [List.length_append] at hi
   simp at hi
   rcases Nat.lt_or_ge i (ins n c1 z).length with h | h
   ·have := hfi i h
    unfold row at this ⊢
    rw [List.getElem?_append_left h]
    exact this
   ·unfold row
    rw [List.getElem?_append_right h, show i - (ins n c1 z).length = 0 by omega]
    simp
 ·
  refine run_set 9 nd (ev_lst (ea_cons (ev_v 7 (ea_nil ⟨(by show 1 ≤ sizeLine; decide), fun lf hlf => ?_⟩))))
  have s4 := same_new hlf (.lst [.ref t1])
  have sH4 := sH.trans s4
  have hR4 := hR3.same s4
  obtain ⟨a0, ea0, eat0, et0, el0, er0⟩ := hR4.at hn0
  have lf0 : ∀ x ∈ as, lf ≠ x.2 := fun x hx => hR3.fresh hlf hx
  show Run _ _ _ [some (.ref R), some (.int b3), some (.str z), some (.str pt), some (.ref lc), u1, u2, some (.ref t1), some (.int (b2 % 3)), some (.ref lf), none, none] (upd H3 lf (.lst [.ref t1]))
  refine run_ifH (fun k H' => Same (upd H3 lf (.lst [.ref t1])) H' ∧ (k = true → row n 0 ≠ [])) (fun σ' H' => ∃ (lf : Addr) (ts2 : List Addr) (fs : List Nt.End), Same H3 H' ∧ (∀ x ∈ as, lf ≠ x.2) ∧ H' lf = some (.lst (ts2.map V.ref)) ∧ Pd H' ts2 fs ∧ 0 < fs.length ∧ fs.length ≤ 1000 ∧ (∀ c ∈ fs, Corner n c ∧ ∃ k, it (step n) k c1 = c) ∧
   σ' = [some (.ref R), some (.int b3), some (.str z), some (.str pt), some (.ref lc), u1, u2, some (.ref t1), some (.int (b2 % 3)), some (.ref lf), none, none]) ?_ ?_ (fun H5 ⟨s5, _⟩ => run_nil ⟨lf, [t1], [c1], s4.trans s5, lf0, s5 _ _ upd_same, .cons (s5 _ _ (s4 _ _ e1)) .nil, Nat.one_pos, by show 1 ≤ 1000; decide, fun c hcm => by rw [List.mem_singleton] at hcm; rw [hcm]; exact ⟨hcc, 0, rfl⟩, rfl⟩) ?_
  ·refine et_cmp (op_neD hu) (ev_ix ix_tup (ev_ix ix_list (ev_v 0 (ev_int ⟨R, _, _, .ref a0.1, rfl, rfl, SqL.of hR4.lst, eat0, ev_int ⟨a0.1, _, _, .ref a0.2, rfl, rfl, SqT.of et0, rfl, ev_lst (ea_nil ⟨(by show 0 ≤ sizeLine; decide), fun p hp => ?_⟩)⟩⟩))))
   have s5 := same_new hp (.lst [])
   by_cases h0 : row n 0 = []
   ·refine ⟨1, _, by decide, rnD_list (k := 0) (xs := []) (ys := []) (fun _ => true) (SqL.of (by rw [s5 _ _ el0, h0]; rfl)) (SqL.of upd_same) rfl (fun j x y hx _ => by simp at hx), _, rfl, s5, fun h => by cases h⟩
   ·refine ⟨1, _, by decide, rnD_lens (k := 1) (SqL.of (s5 _ _ el0)) (SqL.of (xs := []) upd_same) (by rw [List.length_map]; intro h; exact h0 (List.length_eq_zero_iff.mp h)), _, rfl, s5, fun _ => h0⟩
  ·rintro H4 ⟨s45, h0⟩
   have h0 := h0 rfl
   have hR4 := hR4.same s45
   have he1 := hF.corner h0 hcc
   have hel := ends_len n
   refine run_set 9 nd (ev_has GF hr (ea_cons (ev_v 0 (ea_cons (ev_has GS hr (ea_cons (ev_v 0 (ea_nil ⟨R, as, n, rfl, hR4, by omega, by omega, fun d ks H5 s5 n5 S5 => ?_⟩))))))))
   refine ea_cons (ev_v 7 (ea_nil ⟨R, d, t1, as, n, ks, c1, rfl, hR4.same s5, S5, hT, s5 _ _ (s45 _ _ (s4 _ _ e1)), he1, by omega, fun l6 ts6 fs6 H6 s6 n6 e6 p6 f6 => ?_⟩))
   exact run_nil ⟨l6, ts6, fs6, s4.trans (s45.trans (s5.trans s6)), fun x hx => (hR4.same s5).fresh n6 hx, e6, p6, f6.pos, by have := f6.len; omega, fun c hcm => ⟨corner_of (f6.ends hT he1 c hcm), face_it f6 hcm⟩, rfl⟩
  ·rintro σ' H5 ⟨lf, ts2, fs, s5, lfn, elf, epf, fpos, flen, fcor, rfl⟩
   have epl2 := epf.length
   have n0 : 0 ≤ b3 % (fs.length : Int) := Int.emod_nonneg _ (by omega)
   have n1 : b3 % (fs.length : Int) < fs.length := Int.emod_lt_of_pos _ (by omega)
   obtain ⟨j2, hj2⟩ : ∃ j : Nat, b3 % (fs.length : Int) = j := ⟨(b3 % (fs.length : Int)).toNat, by omega⟩
   have hjl2 : j2 < fs.length := by omega
   have hce2 : fs[j2]? = some fs[j2] := List.getElem?_eq_getElem hjl2
   obtain ⟨t2, et2, e2⟩ := epf.at hce2
   obtain ⟨hcc2, hsm⟩ := fcor _ (List.getElem_mem hjl2)
   generalize fs[j2] = c2 at e2 hcc2 hsm
   have e1' := s5 _ _ e1
   refine run_set 10 nd (ev_ix ix_list (ev_v 9 (ev_op op_mod (ev_v 1 (ev_blt call_len_seq T.len boot_len (ea_cons (ev_v 9 (ea_nil ⟨lf, _, rfl, .inl (SqL.of elf), ?_⟩))))))))
   rw [List.length_map, epl2]
   refine ⟨_, _, rfl, rfl, by omega, lf, _, _, .ref t2, rfl, rfl, SqL.of elf, by rw [hj2]; exact at_refs et2, ?_⟩
   have hR5 := hR3.same s5
   show Run _ _ _ [some (.ref R), some (.int b3), some (.str z), some (.str pt), some (.ref lc), u1, u2, some (.ref t1), some (.int (b2 % 3)), some (.ref lf), some (.ref t2), none] H5
   refine run_forL (ev_sorted2 T.sorted (ev_lst (ea_cons (ev_v 7 (ea_cons (ev_v 10 (ea_nil ⟨(by show 2 ≤ sizeLine; decide), fun l2 hl2 => ?_⟩)))))))
   have s6 := same_new hl2 (.lst [.ref t1, .ref t2])
   refine ⟨l2, t1, t2, (c1.1 : Int), (c1.2 : Int), (c2.1 : Int), (c2.2 : Int), rfl, upd_same, s6 _ _ e1', s6 _ _ e2, fun rr hrr => ?_⟩
   have rn : ∀ x ∈ as, rr ≠ x.2 := fun x hx => (hR5.same s6).fresh hrr hx
   obtain ⟨x1, x2, k1, k2, hxs, f1, f2, q1, q2, hord, hsame⟩ : ∃ x1 x2 k1 k2, (if lexLt ((c1.1 : Int), (c1.2 : Int)) ((c2.1 : Int), (c2.2 : Int)) = true then [V.ref t2, .ref t1] else [.ref t1, .ref t2]) = [.ref x1, .ref x2] ∧ (upd H5 l2 (.lst [.ref t1, .ref t2])) x1 = some (Tp k1) ∧ (upd H5 l2 (.lst [.ref t1, .ref t2])) x2 = some (Tp k2) ∧ Corner n k1 ∧ Corner n k2 ∧ (k2 = k1 ∨ sh k1 k2 = k2) ∧ ((∃ k, it (step n) k k1 = k2) ∨ ∃ k, it (step n) k k2 = k1) := by
    cases hlx : lexLt ((c1.1 : Int), (c1.2 : Int)) ((c2.1 : Int), (c2.2 : Int)) with
    | true => exact ⟨t2, t1, c2, c1, rfl, s6 _ _ e2, s6 _ _ e1', hcc2, hcc, .inr (sh_of_lt hlx), .inr hsm⟩
    | false => exact ⟨t1, t2, c1, c2, rfl, s6 _ _ e1', s6 _ _ e2, hcc, hcc2, sh_of_ge hlx, .inl hsm⟩
   rw [hxs]
   have s7 := same_new hrr (.lst [.ref x1, .ref x2])
   have f1 := s7 _ _ f1
   have f2 := s7 _ _ f2
   have s6 := s6.trans s7
   have fr := upd_same (H := upd H5 l2 (.lst [.ref t1, .ref t2])) (a := rr) (o := .lst [.ref x1, .ref x2])
   generalize upd (upd H5 l2 (.lst [.ref t1, .ref t2])) rr (.lst [.ref x1, .ref x2]) = H6 at f1 f2 s6 fr ⊢
   have sH6 : Same H H6 := sH.trans (s5.trans s6)
   have hR6 := hR5.same s6
   have keep0 : Keep H H6 (R :: as.map (·.2)) := fun x o hx _ => sH6 _ _ hx
   refine ⟨rr, rfl, ⟨_, SqL.of fr⟩, loop_list (xs := [.ref x1, .ref x2]) (fun i σ H7 => ∃ (m : Net) (u : Option V), RowsAt H7 R as m ∧ Keep H H7 (R :: as.map (·.2)) ∧ H7 rr = some (.lst [.ref x1, .ref x2]) ∧ H7 lf = some (.lst (ts2.map V.ref)) ∧ H7 x1 = some (Tp k1) ∧ H7 x2 = some (Tp k2) ∧
    ((i = 0 ∧ m = n) ∨ (i = 1 ∧ m = ins n k1 z) ∨ (i = 2 ∧ m = ins (ins n k1 z) k2 z)) ∧ σ = [some (.ref R), some (.int b3), some (.str z), some (.str pt), some (.ref lc), u1, u2, some (.ref t1), some (.int (b2 % 3)), some (.ref lf), some (.ref t2), u]) ⟨n, _, hR6, keep0, fr, s6 _ _ elf, f1, f2, .inl ⟨rfl, rfl⟩, rfl⟩ ?_ ?_ ?_⟩
   ·rintro i σ H7 _ ⟨m, u, _, _, fr7, _⟩
    exact SqL.of fr7
   ·rintro i v σ H7 hv ⟨m, u, hR7, kp7, fr7, fl7, g1, g2, hm, rfl⟩
    have ti1 := (ties_ins n k1 z q1.1).length_eq
    rw [List.length_cons] at ti1
    obtain ⟨y, k, rfl, hy, hk, hnext, hml⟩ : ∃ y k, v = .ref y ∧ H7 y = some (Tp k) ∧ Corner m k ∧ ((i + 1 = 0 ∧ ins m k z = n) ∨ (i + 1 = 1 ∧ ins m k z = ins n k1 z) ∨ (i + 1 = 2 ∧ ins m k z = ins (ins n k1 z) k2 z)) ∧ (ties m).length ≤ 200 := by
     rcases hm with ⟨rfl, rfl⟩ | ⟨rfl, rfl⟩ | ⟨rfl, rfl⟩
     ·cases hv
      exact ⟨x1, k1, rfl, g1, q1, .inr (.inl ⟨rfl, rfl⟩), by omega⟩
     ·cases hv
      exact ⟨x2, k2, rfl, g2, corner_ins q2 q1.1, .inr (.inr ⟨rfl, rfl⟩), by omega⟩
     ·simp at hv
    refine eg_name 11 nd ?_
    obtain ⟨a', ea', eat', eta', ela', era'⟩ := hR7.at hk.1
    have rl := row_le m k.1
    have kin : k.2 ≤ (row m k.1).length := by
     have := hk.2
     omega
    refine run_expr (ev_m2 PySem.F.plainAttrs_list PySem.F.slot_list_insert PySem.F.type_list_insert mt_insert (ev_ix ix_tup (ev_ix ix_list (ev_v 0 (ev_ix ix_tup (ev_v 11 (ev_int ⟨y, _, _, .int (k.1 : Int), rfl, rfl, SqT.of hy, rfl, R, _, _, .ref a'.1, rfl, rfl, SqL.of hR7.lst, eat', ev_int ⟨a'.1, _, _, .ref a'.2, rfl, rfl, SqT.of eta', rfl, Or.inl ⟨rfl, _, SqL.of ela'⟩, ?_⟩⟩)))))))
    refine ev_ix ix_tup (ev_v 11 (ev_int ⟨y, _, _, .int (k.2 : Int), rfl, rfl, SqT.of hy, rfl, ev_v 2 ⟨a'.2, _, _, _, rfl, rfl, ela', by omega, by rw [Int.toNat_natCast, List.length_map]; exact kin, by rw [List.length_map]; exact small' (by omega), ?_⟩⟩))
    rw [Int.toNat_natCast, ls_ins]
    have am : a' ∈ as := List.mem_of_getElem? ea'
    refine run_nil ⟨ins m k z, _, hR7.ins ea' hk.1, fun x o hx hbad => ?_, by rw [upd_ne (rn a' am)]; exact fr7, by rw [upd_ne (lfn a' am)]; exact fl7, by rw [upd_ne (tp_ne_lst g1 ela')]; exact g1, by rw [upd_ne (tp_ne_lst g2 ela')]; exact g2, hnext, rfl⟩
    have x2 : x ≠ a'.2 := fun e => hbad (List.mem_cons_of_mem _ (by rw [e]; exact List.mem_map.mpr ⟨a', am, rfl⟩))
    rw [upd_ne x2]
    exact kp7 x o hx hbad
   ·rintro σ H7 ⟨m, u, hR7, kp7, fr7, fl7, g1, g2, hm, rfl⟩
    have em : m = ins (ins n k1 z) k2 z := by
     rcases hm with ⟨h, _⟩ | ⟨h, _⟩ | ⟨_, h⟩
     ·exact absurd h (by show ¬ (2 = 0); decide)
     ·exact absurd h (by show ¬ (2 = 1); decide)
     ·exact h
    refine run_ret (ev_op op_fdiv (ev_v 1 (ev_blt call_len_seq T.len boot_len (ea_cons (ev_v 9 (ea_nil ⟨lf, _, rfl, .inl (SqL.of fl7), ?_⟩))))))
    rw [List.length_map, epl2]
    refine ⟨_, _, rfl, rfl, ⟨by omega, by omega⟩, ?_⟩
    have fi := full_ins (z := z) hF q1.1 hF.either
    have F2 : Full (ins n k1 z) := .inr ⟨fi.2, fi.1⟩
    have fi2 := full_ins (z := z) F2 (corner_ins (z := z) q2 q1.1).1 F2.either
    subst em
    exact q _ as _ H7 hR7 kp7 (fun x hx => .inl hx) ((ties_ins _ k2 z (corner_ins (z := z) q2 q1.1).1).trans ((ties_ins n k1 z q1.1).cons z)) (.inl (by rw [ins_names, ins_names])) (.inr ⟨fi2.2, fi2.1⟩) fun hP => hf_tieC hT hF hz q1 q2 ((ties_ins _ k2 z (corner_ins (z := z) q2 q1.1).1).trans ((ties_ins n k1 z q1.1).cons z)) hord hsame hP
end
end M2
namespace M2
open PySem L2 Nt Sort2
noncomputable def spNet : Sp := fun vs H Q _ => ∃ (b m sm : Int), vs = [.int b, .int m, .int sm] ∧ 0 ≤ m ∧ m ≤ 35 ∧
 ∀ L as n H', Same H H' → H L = none → RowsAt H' L as n → Twice n → (n.map (·.1)).Nodup → Full n → HF n → (ties n).length ≤ 2 * m.toNat → n.length ≤ m.toNat + 1 → (∀ a ∈ as, H a.2 = none) → Q (.ref L) H'
section
variable {P : Program} {w : World} {K : PySem.W.Frag} {mg : Str → Option Value} {base : Heap}
noncomputable abbrev NB : List Str := ["_law_big_here", "_law_most", "_law_stem", "_law_many", "_law_ties", "_law_points", "_law_rows", "_law_k", "_law_told", "_law_row", "_law_size"]
theorem scNet : FnScope NB ["_law_big_here", "_law_most", "_law_stem"] (defScope sNet) := ⟨rfl, rfl, rfl, by decide +kernel, rfl, by decide +kernel, by decide +kernel⟩
theorem ty_lst {H : Hp} {d : Addr} {xs : List V} (h : H d = some (.lst xs)) : tyV K "list" (.ref d) H := Or.inl ⟨rfl, xs, SqL.of h⟩
theorem at_name {b : Int} {m i : Nat} (h : i < m) : atI ((namesOf b m).map V.str) (i : Int) = some (.str (nameOf b i)) := at_strs (namesOf_at h)
theorem ok_net {f : Addr} {fd : FuncData} (F : Fun K "_law_net_by" "_law_net_by" sNet f fd) (T : Txt mg)
  (GN : Has P w K mg base 4 "_law_names" ["_law_stem", "_law_many"] spNames)
  (GP : Has P w K mg base 4 "_law_put" ["_law_rows", "_law_big_here", "_law_tie", "_law_point"] spPut) :
  FnOk P w K mg base CX0 5 f fd ["_law_big_here", "_law_most", "_law_stem"] spNet := by
 refine F.gb scNet (fun vs H Q E h => ?_) (fun b0 H vs Q E hr h => ?_)
 ·obtain ⟨b, m, sm, rfl, _⟩ := h
  rfl
 obtain ⟨b, m, sm, rfl, m0, m35, q⟩ := h
 have nd := scNet.nd
 have hu := hr.u100
 have k0 : 0 ≤ b % (m + 1) := Int.emod_nonneg _ (by omega)
 have k1 : b % (m + 1) < m + 1 := Int.emod_lt_of_pos _ (by omega)
 obtain ⟨mn, hmn⟩ : ∃ k : Nat, b % (m + 1) = k := ⟨(b % (m + 1)).toNat, by omega⟩
 have hmm : mn ≤ m.toNat := by omega
 show Run _ _ _ [some (.int b), some (.int m), some (.int sm), none, none, none, none, none, none, none, none] H
 refine run_set 3 nd (ev_op op_mod (ev_v 0 (ev_op op_add (ev_v 1 (ev_int ⟨_, _, rfl, rfl, ?_⟩)))))
 refine ⟨_, _, rfl, rfl, (by show 0 < m + 1; omega), ?_⟩
 refine run_set 0 nd (ev_op op_fdiv (ev_v 0 (ev_op op_add (ev_v 1 (ev_int ⟨_, _, rfl, rfl, ?_⟩)))))
 refine ⟨_, _, rfl, rfl, (by show CDiv b (m + 1); exact ⟨by omega, by omega⟩), ?_⟩
 show Run _ _ _ [some (.int (b / (m + 1))), some (.int m), some (.int sm), some (.int (b % (m + 1))), none, none, none, none, none, none, none] H
 rw [hmn]
 generalize b / (m + 1) = b1
 refine run_set 4 nd (ev_has GN hr (ea_cons (ev_v 2 (ea_cons (ev_v 3 (ea_nil ⟨sm, (mn : Int), rfl, by omega, by omega, fun lt H1 s1 n1 e1 => ?_⟩))))))
 rw [Int.toNat_natCast] at e1
 refine run_set 5 nd (ev_has GN hr (ea_cons (ev_ix ix_list (ev_lst (ea_cons (ev_op op_add (ev_op op_fdiv (ev_v 2 (ev_int ⟨_, _, rfl, rfl, ⟨by decide, by decide⟩, ev_int ⟨_, _, rfl, rfl, ea_cons (ev_v 2 (ea_nil ⟨(by show 2 ≤ sizeLine; decide), fun p hp => ?_⟩))⟩⟩)))))))))
 refine ev_typ call_intB T.tint PyProof.Rows.boot_int (ea_cons (ev_cmp op_eq (ev_op op_mod (ev_v 2 (ev_int ⟨_, _, rfl, rfl, (by show (0 : Int) < 4; decide), ev_int ⟨rfl, ea_nil ⟨_, rfl, ?_⟩⟩⟩)))))
 have s2 := same_new hp (.lst [.int (sm / 3 + 1), .int sm])
 obtain ⟨s2m, ex⟩ : ∃ s2m : Int, atI [V.int (sm / 3 + 1), .int sm] (if decide (V.int (sm % 4) = V.int 1) = true then 1 else 0) = some (.int s2m) := by
  cases decide (V.int (sm % 4) = V.int 1) with
  | true => exact ⟨sm, rfl⟩
  | false => exact ⟨sm / 3 + 1, rfl⟩
 refine ⟨p, _, _, .int s2m, rfl, rfl, SqL.of upd_same, ex, ?_⟩
 refine ea_cons (ev_op op_add (ev_v 3 (ev_int ⟨_, _, rfl, rfl, ea_nil ⟨s2m, (mn : Int) + 1, rfl, by omega, by omega, fun lp H2 s3 n3 e3 => ?_⟩⟩)))
 have em : ((mn : Int) + 1).toNat = mn + 1 := by omega
 rw [em] at e3
 have sH2 : Same H H2 := s1.trans (s2.trans s3)
 have e1 : H2 lt = some (Ls (namesOf sm mn)) := s3 _ _ (s2 _ _ e1)
 show Run _ _ _ [some (.int b1), some (.int m), some (.int sm), some (.int (mn : Int)), some (.ref lt), some (.ref lp), none, none, none, none, none] H2
 refine run_set 6 nd (ev_lst (ea_cons (ev_tup (ea_cons (ev_ix ix_list (ev_v 5 (ev_int ⟨lp, _, _, .str (nameOf s2m 0), rfl, rfl, SqL.of e3, at_name (Nat.succ_pos _), ea_cons (ev_lst (ea_nil ⟨(by show 0 ≤ sizeLine; decide), fun l1 hl1 => ?_⟩))⟩)))))))
 refine ea_nil ⟨(by show 2 ≤ sizeLine; decide), fun t1 ht1 => ea_nil ⟨(by show 1 ≤ sizeLine; decide), fun R hRn => ?_⟩⟩
 have s4 := same_new hl1 (Ls [])
 have s5 := same_new ht1 (.tup [.str (nameOf s2m 0), .ref l1])
 have s6 := same_new hRn (.lst [.ref t1])
 have hR0 : RowsAt (upd (upd (upd H2 l1 (.lst [])) t1 (.tup [.str (nameOf s2m 0), .ref l1])) R (.lst [.ref t1])) R [(t1, l1)] [(nameOf s2m 0, [])] := by
  refine ⟨rfl, upd_same, fun i a r h1 h2 => ?_, by simp⟩
  cases i with
  | zero =>
   cases h1
   cases h2
   exact ⟨s6 _ _ upd_same, s6 _ _ (s5 _ _ upd_same)⟩
  | succ i => simp at h1
 have fR : H2 R = none := s4.free (s5.free hRn)
 show Run _ _ _ [some (.int b1), some (.int m), some (.int sm), some (.int (mn : Int)), some (.ref lt), some (.ref lp), some (.ref R), none, none, none, none] (upd (upd (upd H2 l1 (.lst [])) t1 (.tup [.str (nameOf s2m 0), .ref l1])) R (.lst [.ref t1]))
 refine run_forR1 T.range (ev_v 3 ⟨(mn : Int), rfl, by omega, by omega, ?_⟩)
 rw [Int.toNat_natCast]
 refine loop_range (fun k σ H3 => ∃ (as : List (Addr × Addr)) (n : Net) (b : Int) (u : Option V), RowsAt H3 R as n ∧ Same H2 H3 ∧ (∀ a ∈ as, H2 a.2 = none) ∧ Full n ∧ HF n ∧ (ties n).Perm (dbl (namesOf sm k)) ∧ n.map (·.1) = namesOf s2m n.length ∧ n.length ≤ k + 1 ∧
  σ = [some (.int b), some (.int m), some (.int sm), some (.int (mn : Int)), some (.ref lt), some (.ref lp), some (.ref R), u, none, none, none]) ⟨_, _, b1, _, hR0, s4.trans (s5.trans s6), fun a ha => by rw [List.mem_singleton] at ha; rw [ha]; exact hl1, .inl ⟨_, rfl⟩, hf_one, List.Perm.refl _, rfl, Nat.le_refl _, rfl⟩ ?_ ?_
 ·rintro k σ H3 hk ⟨as, n, b, u, hR, sH, hfr, hF, hPl, hp, hnm, hlen, rfl⟩
  rw [Int.zero_add]
  refine eg_name 7 nd ?_
  have hal := hR.len
  have tl := hp.length_eq
  rw [dbl_len, namesOf_len] at tl
  have nz : nameOf sm k ∉ ties n := fun h => by
   have h1 := dbl_mem.mp (hp.mem_iff.mp h)
   have h2 := namesOf_nodup (b := sm) (m := k + 1) (by omega)
   rw [namesOf_succ, List.nodup_append] at h2
   exact h2.2.2 _ h1 _ (List.mem_singleton.mpr rfl) rfl
  have n0 : 0 < n.length := List.length_pos_iff.mpr hF.some
  refine run_set 0 nd (ev_has GP hr (ea_cons (ev_v 6 (ea_cons (ev_v 0 (ea_cons (ev_ix ix_list (ev_v 4 (ev_v 7 ⟨lt, _, _, .str (nameOf sm k), rfl, rfl, SqL.of (sH _ _ e1), at_name hk, ?_⟩)))))))))
  refine ea_cons (ev_ix ix_list (ev_v 5 (ev_blt call_len_seq T.len boot_len (ea_cons (ev_v 6 (ea_nil ⟨R, _, rfl, .inl (SqL.of hR.lst), ?_⟩))))))
  rw [List.length_map, hal]
  refine ⟨lp, _, _, .str (nameOf s2m n.length), rfl, rfl, SqL.of (sH _ _ e3), at_name (by omega), ?_⟩
  refine ea_nil ⟨R, as, n, b, nameOf sm k, nameOf s2m n.length, rfl, hR, twice_of (namesOf_nodup (by omega)) hp, hF, nz, by omega, by omega, fun i as' n' H' hR' kp hfr' hp' hnm' hF' hPl' => ?_⟩
  have sH' : Same H2 H' := fun x o hx => by
   refine kp x o (sH _ _ hx) fun hm => ?_
   rcases List.mem_cons.mp hm with h | h
   ·rw [h, fR] at hx; cases hx
   ·obtain ⟨y, hy, e⟩ := List.mem_map.mp h
    rw [← e, hfr y hy] at hx; cases hx
  refine run_nil ⟨as', n', i, _, hR', sH', fun y hy => ?_, hF', hPl' hPl, ?_, ?_, ?_, rfl⟩
  ·rcases hfr' y hy with h | h
   ·exact hfr y h
   ·exact sH.free h
  ·refine hp'.trans ?_
   rw [namesOf_succ, dbl_snoc]
   refine List.Perm.trans ?_ List.perm_append_comm
   exact ((hp.cons _).cons _)
  ·rcases hnm' with h | h
   ·have hl := congrArg List.length h
    rw [List.length_map, List.length_map] at hl
    rw [h, hl]
    exact hnm
   ·have hl := congrArg List.length h
    rw [List.length_map, List.length_append, List.length_map] at hl
    have hl' : n'.length = n.length + 1 := hl
    rw [h, hl', namesOf_succ, hnm]
  ·rcases hnm' with h | h
   ·have hl := congrArg List.length h
    rw [List.length_map, List.length_map] at hl
    omega
   ·have hl := congrArg List.length h
    rw [List.length_map, List.length_append, List.length_map] at hl
    have hl' : n'.length = n.length + 1 := hl
    omega
 rintro σ H3 ⟨as0, n0, b, u, hR, sH, hfr, hF, hPl0, hp, hnm, hlen, rfl⟩
 have tl := hp.length_eq
 rw [dbl_len, namesOf_len] at tl
 have hT0 : Twice n0 := twice_of (namesOf_nodup (by omega)) hp
 have hN0 : (n0.map (·.1)).Nodup := by rw [hnm]; exact namesOf_nodup (by omega)
 refine run_set 8 nd (ev_lst (ea_nil ⟨(by show 0 ≤ sizeLine; decide), fun L hL => ?_⟩))
 have s7 := same_new hL (.lst [])
 have hRL : R ≠ L := ne_of_none hR.lst hL
 have fL : H2 L = none := sH.free hL
 have hL0 : RowsAt (upd H3 L (.lst [])) L [] [] := ⟨rfl, upd_same, fun i a r h1 => by simp at h1, by simp⟩
 refine run_while (fun k σ H4 => ∃ (as as2 : List (Addr × Addr)) (n n2 : Net) (b : Int) (u9 u10 : Option V), k = n.length ∧ RowsAt H4 R as n ∧ RowsAt H4 L as2 n2 ∧ Same H2 H4 ∧ (∀ a ∈ as, a.2 ≠ L) ∧ (∀ a ∈ as2, a.2 ≠ R) ∧ (∀ a ∈ as2, H2 a.2 = none) ∧ n.length + n2.length = n0.length ∧
   (ties n ++ ties n2).Perm (ties n0) ∧ (n.map (·.1) ++ n2.map (·.1)).Perm (n0.map (·.1)) ∧ (NE n0 → NE n ∧ NE n2) ∧ HF (n ++ n2) ∧
   σ = [some (.int b), some (.int m), some (.int sm), some (.int (mn : Int)), some (.ref lt), some (.ref lp), some (.ref R), u, some (.ref L), u9, u10])
  (m0 := n0.length) ⟨as0, [], n0, [], b, _, _, rfl, hR.same s7, hL0, sH.trans s7, fun a ha => (hR.fresh hL ha).symm, fun a ha => (nomatch ha), fun a ha => (nomatch ha), rfl, by simp [ties], by simp, fun h => ⟨h, fun r hr => (nomatch hr)⟩, by rw [List.append_nil]; exact hPl0, rfl⟩ ?_
 rintro k σ H4 ⟨as, as2, n, n2, b, u9, u10, rfl, hR, hL2, sH, aL, aR, fr2, hlen2, pt, pn, hne, hPl, rfl⟩
 have hal := hR.len
 have hal2 := hL2.len
 have tlen : (ties n).length ≤ 70 := by
  have := pt.length_eq
  rw [List.length_append] at this
  omega
 refine et_cmp (op_neD hu) (ev_v 6 (ev_lst (ea_nil ⟨(by show 0 ≤ sizeLine; decide), fun p hp2 => ?_⟩)))
 have s8 := same_new hp2 (.lst [])
 by_cases h0 : n = []
 ·subst h0
  have ea : as = [] := List.length_eq_zero_iff.mp (by simpa using hal)
  subst ea
  refine ⟨1, _, by decide, rnD_list (k := 0) (xs := []) (ys := []) (fun _ => true) (SqL.of (s8 _ _ hR.lst)) (SqL.of upd_same) rfl (fun j x y hx _ => by simp at hx), _, rfl, iteF (run_ret (ev_v 8 ?_))⟩
  have pt' : (ties n2).Perm (ties n0) := pt
  have pn' : (n2.map (·.1)).Perm (n0.map (·.1)) := pn
  have l2 : n2.length = n0.length := by simpa using hlen2
  refine q L as2 n2 _ (sH2.trans (sH.trans s8)) (sH2.free fL) (hL2.same s8) (fun z hz => ?_) (pn'.nodup_iff.mpr hN0) ?_ hPl (by rw [pt'.length_eq]; omega) (by omega) fun a ha => sH2.free (fr2 a ha)
  ·rw [pt'.count_eq]
   exact hT0 z (pt'.mem_iff.mp hz)
  ·rcases hF.ne with ⟨nm, h⟩ | h
   ·subst h
    have t0 : ties n2 = [] := List.Perm.eq_nil pt'
    match n2, l2, t0 with
    | [(nm2, zs)], _, t0 =>
     have : zs = [] := by simpa [ties] using t0
     subst this
     exact .inl ⟨_, rfl⟩
   ·refine ne_full (hne h).2 fun e => ?_
    rw [e] at l2
    exact hF.some (List.length_eq_zero_iff.mp l2.symm)
 ·have np : 0 < n.length := List.length_pos_iff.mpr h0
  refine ⟨1, _, by decide, rnD_lens (k := 1) (SqL.of (s8 _ _ hR.lst)) (SqL.of (xs := []) upd_same) (by rw [List.length_map, hal]; exact Nat.ne_of_gt np), _, rfl, iteT ?_⟩
  have hR := hR.same s8
  have hL2 := hL2.same s8
  have sH := sH.trans s8
  generalize upd H4 p (.lst []) = H5 at hR hL2 sH ⊢
  have r0 : 0 ≤ b % (n.length : Int) := Int.emod_nonneg _ (by omega)
  have r1 : b % (n.length : Int) < n.length := Int.emod_lt_of_pos _ (by omega)
  obtain ⟨j, hj⟩ : ∃ k : Nat, b % (n.length : Int) = k := ⟨(b % (n.length : Int)).toNat, by omega⟩
  have hjn : j < n.length := by omega
  obtain ⟨a, ea, eat, et, el, er⟩ := hR.at hjn
  refine run_set 9 nd (ev_m1 PySem.F.plainAttrs_list PySem.F.slot_list_pop PySem.F.type_list_pop mt_popAt (ev_v 6 ⟨ty_lst hR.lst, ev_op op_mod (ev_v 0 (ev_blt call_len_seq T.len boot_len (ea_cons (ev_v 6 (ea_nil ⟨R, _, rfl, .inl (SqL.of hR.lst), ?_⟩)))))⟩))
  rw [List.length_map, hal]
  refine ⟨_, _, rfl, rfl, by omega, R, _, _, j, .ref a.1, rfl, rfl, hR.lst, by rw [hj]; omega, by rw [hj]; omega, ?_, ?_, ?_⟩
  ·rw [hj, List.length_map, hal]
   unfold seqIndex?
   have c1 : ¬ ((j : Int) < 0) := by omega
   simp only [c1, if_false]
   have c2 : (decide (0 ≤ (j : Int)) && decide ((j : Int) < (n.length : Int))) = true := by
    rw [Bool.and_eq_true, decide_eq_true_eq, decide_eq_true_eq]
    omega
   rw [if_pos c2, Int.toNat_natCast]
  ·rw [List.getElem?_map, ea]
   rfl
  have R6 := hR.erase hjn
  have am : a ∈ as := List.mem_of_getElem? ea
  have lneR : ∀ x ∈ as, x.2 ≠ R := fun x hx e => by
   obtain ⟨zs, e2⟩ := hR.lists hx
   have h3 := hR.lst
   rw [← e, e2] at h3
   have h4 := HO.lst.inj (Option.some.inj h3)
   cases as with
   | nil => cases hx
   | cons b' bs =>
    cases zs with
    | nil => simp at h4
    | cons y r => simp at h4
  have L6 := hL2.upd (o := .lst ((as.map fun a => V.ref a.1).eraseIdx j)) hR.lst hRL.symm aR
  have et6 : (upd H5 R (.lst ((as.map fun a => V.ref a.1).eraseIdx j))) a.1 = some (.tup [.str n[j].1, .ref a.2]) := by rw [upd_ne (ne_of et hR.lst fun e => nomatch e)]; exact et
  have el6 : (upd H5 R (.lst ((as.map fun a => V.ref a.1).eraseIdx j))) a.2 = some (Ls (row n j)) := by rw [upd_ne (lneR a am)]; exact el
  have sH6 : Same H2 (upd H5 R (.lst ((as.map fun a => V.ref a.1).eraseIdx j))) := same_mut sH fR
  generalize upd H5 R (.lst ((as.map fun a => V.ref a.1).eraseIdx j)) = H6 at R6 L6 et6 el6 sH6 ⊢
  have le6 := R6.len
  have len6 : (n.eraseIdx j).length = n.length - 1 := by rw [List.length_eraseIdx, if_pos hjn]
  refine run_set 0 nd (ev_op op_fdiv (ev_v 0 (ev_op op_add (ev_blt call_len_seq T.len boot_len (ea_cons (ev_v 6 (ea_nil ⟨R, _, rfl, .inl (SqL.of R6.lst), ev_int ⟨_, _, rfl, rfl, ?_⟩⟩)))))))
  rw [List.length_map, le6, len6]
  refine ⟨_, _, rfl, rfl, ⟨by omega, by omega⟩, ?_⟩
  have rlen := row_le n j
  refine run_set 10 nd (ev_blt (call_max2 rfl) T.max PyProof.Rows.boot_max (ea_cons (ev_int (ea_cons (ev_blt call_len_seq T.len boot_len (ea_cons (ev_ix ix_tup (ev_v 9 (ev_int ⟨a.1, _, _, .ref a.2, rfl, rfl, SqT.of et6, rfl, ea_nil ⟨a.2, _, rfl, .inl (SqL.of el6), ?_⟩⟩)))))))))
  rw [List.length_map]
  refine ea_nil ⟨1, _, rfl, ?_⟩
  have emx : (if ((row n j).length : Int) > 1 then ((row n j).length : Int) else 1) = ((max 1 (row n j).length : Nat) : Int) := by
   split <;> omega
  rw [emx]
  show Run _ _ _ [some (.int (b / ((n.length - 1 : Nat) + 1 : Int))), some (.int m), some (.int sm), some (.int (mn : Int)), some (.ref lt), some (.ref lp), some (.ref R), u, some (.ref L), some (.ref a.1), some (.int ((max 1 (row n j).length : Nat) : Int))] H6
  generalize b / ((n.length - 1 : Nat) + 1 : Int) = b2
  have z0 : 0 ≤ b2 % ((max 1 (row n j).length : Nat) : Int) := Int.emod_nonneg _ (by omega)
  obtain ⟨i, hi⟩ : ∃ k : Nat, b2 % ((max 1 (row n j).length : Nat) : Int) = k := ⟨(b2 % ((max 1 (row n j).length : Nat) : Int)).toNat, by omega⟩
  refine run_expr (ev_append (ev_v 8 ⟨L, rfl, ⟨_, L6.lst⟩, ev_tup (ea_cons (ev_ix ix_tup (ev_v 9 (ev_int ⟨a.1, _, _, .str n[j].1, rfl, rfl, SqT.of et6, rfl, ?_⟩))))⟩))
  refine ea_cons (ev_op op_cat (ev_slice sl_list (ev_ix ix_tup (ev_v 9 (ev_int ⟨a.1, _, _, .ref a.2, rfl, rfl, SqT.of et6, rfl, eo_some (ev_op op_mod (ev_v 0 (ev_v 10 ⟨b2, ((max 1 (row n j).length : Nat) : Int), rfl, rfl, by omega, _, rfl, eo_none ⟨a.2, _, rfl, SqL.of el6, fun p1 hp1 => ?_⟩⟩)))⟩)))))
  rw [hi, cut_from]
  have t1 := same_new hp1 (Ls ((row n j).drop i))
  refine ev_slice sl_list (ev_ix ix_tup (ev_v 9 (ev_int ⟨a.1, _, _, .ref a.2, rfl, rfl, SqT.of (t1 _ _ et6), rfl, eo_none (eo_some (ev_op op_mod (ev_v 0 (ev_v 10 ⟨b2, ((max 1 (row n j).length : Nat) : Int), rfl, rfl, by omega, _, rfl, a.2, _, rfl, SqL.of (t1 _ _ el6), fun p2 hp2 => ?_⟩))))⟩)))
  rw [hi, cut_to]
  have t2 := same_new hp2 (Ls ((row n j).take i))
  refine ⟨p1, p2, _, _, rfl, rfl, t2 _ _ upd_same, upd_same, ?_, fun p3 hp3 => ?_⟩
  ·rw [List.length_map, List.length_map, List.length_drop, List.length_take]
   exact small (by omega)
  rw [← List.map_append]
  have t3 := same_new hp3 (Ls ((row n j).drop i ++ (row n j).take i))
  refine ea_nil ⟨(by show 2 ≤ sizeLine; decide), fun t4 ht4 => ?_⟩
  have s4 := same_new ht4 (.tup [.str n[j].1, .ref p3])
  have sAll := t1.trans (t2.trans (t3.trans s4))
  have L7 := L6.same sAll
  have R7 := R6.same sAll
  have p3L : p3 ≠ L := fun e => by rw [e, (t1.trans t2) _ _ L6.lst] at hp3; cases hp3
  have p3R : p3 ≠ R := fun e => by rw [e, (t1.trans t2) _ _ R6.lst] at hp3; cases hp3
  have p3n : p3 ∉ as2.map (·.2) := fun hm => by
   obtain ⟨y, hy, e⟩ := List.mem_map.mp hm
   exact (L6.same (t1.trans t2)).fresh hp3 hy e.symm
  have L8 := L7.more (t := t4) (l := p3) (pt := n[j].1) (zs := (row n j).drop i ++ (row n j).take i) upd_same (s4 _ _ upd_same) p3n p3L
  refine ⟨_, L7.lst, by rw [List.length_map, hal2]; exact small' (by omega), ?_⟩
  have aL6 : ∀ x ∈ as.eraseIdx j, x.2 ≠ L := fun x hx => aL x (List.mem_of_mem_eraseIdx hx)
  have R8 := R7.upd (o := .lst (as2.map (fun a => V.ref a.1) ++ [.ref t4])) L7.lst hRL aL6
  refine run_set 0 nd (ev_op op_fdiv (ev_v 0 (ev_v 10 ⟨b2, ((max 1 (row n j).length : Nat) : Int), rfl, rfl, ⟨by omega, by omega⟩, ?_⟩)))
  have pe := ties_erase n j hjn
  have ne := names_erase n j hjn
  have pt8 : (ties (n.eraseIdx j) ++ ties (n2 ++ [(n[j].1, (row n j).drop i ++ (row n j).take i)])).Perm (ties n0) := by
   refine List.Perm.trans ?_ pt
   unfold ties
   rw [List.flatMap_append]
   show (ties (n.eraseIdx j) ++ (ties n2 ++ (((row n j).drop i ++ (row n j).take i) ++ []))).Perm _
   rw [List.append_nil, er]
   have w1 : (n[j].2.drop i ++ n[j].2.take i).Perm n[j].2 := rot_perm _ _
   refine ((w1.append_left _).append_left _).trans ?_
   have w2 : (ties n ++ ties n2).Perm ((n[j].2 ++ ties (n.eraseIdx j)) ++ ties n2) := pe.append_right _
   refine List.Perm.trans ?_ w2.symm
   rw [List.append_assoc]
   refine List.Perm.trans ?_ (List.perm_append_comm (l₁ := ties (n.eraseIdx j) ++ ties n2))
   rw [List.append_assoc]
  refine run_nil ⟨n.length - 1, by omega, as.eraseIdx j, as2 ++ [(t4, p3)], n.eraseIdx j, n2 ++ [(n[j].1, (row n j).drop i ++ (row n j).take i)], _, _, _, len6.symm, R8, L8, same_mut (sH6.trans sAll) fL, aL6, fun x hx => ?_, fun x hx => ?_, ?_, pt8, ?_, fun h => ⟨fun r hr => ?_, fun r hr => ?_⟩, hf_popN hjn (by have := Int.emod_lt_of_pos b2 (show (0 : Int) < ((max 1 (row n j).length : Nat) : Int) by omega); rw [hi] at this; exact Int.ofNat_lt.mp this) hT0 pt pt8 hPl, rfl⟩
  ·rcases List.mem_append.mp hx with hx | hx
   ·exact aR x hx
   ·rw [List.mem_singleton] at hx
    rw [hx]
    exact p3R
  ·rcases List.mem_append.mp hx with hx | hx
   ·exact fr2 x hx
   ·rw [List.mem_singleton] at hx
    rw [hx]
    exact sH6.free (t1.free (t2.free hp3))
  ·rw [List.length_append, len6]
   simp
   omega
  ·refine List.Perm.trans ?_ pn
   rw [List.map_append]
   show ((n.eraseIdx j).map (·.1) ++ (n2.map (·.1) ++ [n[j].1])).Perm _
   refine List.Perm.trans ?_ (ne.append_right _).symm
   rw [← List.append_assoc]
   exact List.perm_append_comm
  ·exact (hne h).1 r (List.mem_of_mem_eraseIdx hr)
  ·rcases List.mem_append.mp hr with hr | hr
   ·exact (hne h).2 r hr
   ·rw [List.mem_singleton] at hr
    rw [hr]
    intro e
    have w1 := (rot_perm (row n j) i).length_eq
    have e' : (row n j).drop i ++ (row n j).take i = [] := e
    rw [e'] at w1
    have := (hne h).1 n[j] (List.getElem_mem hjn)
    rw [er] at w1
    exact this (List.length_eq_zero_iff.mp w1.symm)
end
end M2
namespace M2
open PySem L2 Nt Sort2
noncomputable def spCopy : Sp := fun vs H Q _ => ∃ (R : Addr) (as : List (Addr × Addr)) (n : Net), vs = [.ref R] ∧ RowsAt H R as n ∧ n.length ≤ 1000 ∧ ∀ L as' H', Same H H' → H L = none → (∀ a ∈ as', H a.1 = none ∧ H a.2 = none) → RowsAt H' L as' n → Q (.ref L) H'
section
variable {P : Program} {w : World} {K : PySem.W.Frag} {mg : Str → Option Value} {base : Heap}
theorem free_back {H H' : Hp} {l : Addr} (s : Same H H') (h : H' l = none) : H l = none := by
 cases e : H l with
 | none => rfl
 | some v => rw [s _ _ e] at h; cases h
noncomputable abbrev NC : List Str := ["_law_rows"]
noncomputable abbrev NC' : List Str := ["_law_rows", "_law_row"]
theorem scCopy : FnScope NC ["_law_rows"] (defScope sCopy) := ⟨rfl, rfl, rfl, by decide +kernel, rfl, by decide +kernel, by decide +kernel⟩
theorem nd_c : NC'.Nodup := by decide +kernel
theorem ok_copy {f : Addr} {fd : FuncData} (F : Fun K "_law_copy" "_law_copy" sCopy f fd) (T : Txt mg) : FnOk P w K mg base CX0 1 f fd ["_law_rows"] spCopy := by
 refine F.gb scCopy (fun vs H Q E h => ?_) (fun b0 H vs Q E hr h => ?_)
 ·obtain ⟨R, as, n, rfl, _⟩ := h
  rfl
 obtain ⟨R, as, n, rfl, hR, hn, q⟩ := h
 have nd := scCopy.nd
 have hal := hR.len
 show Run _ _ _ [some (.ref R)] H
 refine run_ret (ev_comp (defScope sCopy) NC NC' 1 (pi_list pe_ev) (ev_v 0 ⟨R, rfl, ⟨_, SqL.of hR.lst⟩, fun D hD => ?_⟩))
 refine comp_listP (xs := as.map fun a => V.ref a.1) (fun i σ' H' => (∃ v, σ' = [some (.ref R)] ++ [v]) ∧ ∃ bs : List (Addr × Addr), bs.length = i ∧ H' D = some (.lst (bs.map fun a => .ref a.1)) ∧
  (∀ (j : Nat) a r, bs[j]? = some a → n[j]? = some r → H' a.1 = some (.tup [.str r.1, .ref a.2]) ∧ H' a.2 = some (Ls r.2)) ∧ (bs.map (·.2)).Nodup ∧ (∀ a ∈ bs, a.2 ≠ D ∧ H a.1 = none ∧ H a.2 = none ∧ ∃ zs, H' a.2 = some (Ls zs)) ∧ Same H H')
  ⟨⟨none, rfl⟩, [], rfl, upd_same, fun j a r h => by simp at h, List.nodup_nil, fun a h => by simp at h, same_new hD _⟩ ?_ ?_ ?_
 ·rintro i σ' H' _ ⟨_, bs, _, _, _, _, _, sm⟩
  exact SqL.of (sm _ _ hR.lst)
 ·rintro i x σ' H' hx ⟨⟨v, rfl⟩, bs, hb1, hb2, hb3, hb4, hb5, sm⟩
  have hi : i < n.length := by
   have := (List.getElem?_eq_some_iff.mp hx).1
   rw [List.length_map] at this
   omega
  obtain ⟨a, ea, eat, et, el, er⟩ := (hR.same sm).at hi
  rw [List.getElem?_map, ea] at hx
  cases hx
  intro cl C' s₀ H₀ ex
  refine eg_name 1 nd_c ?_
  intro cl C' s₀ H₀ ex
  refine ei_nil ?_
  rw [if_pos rfl]
  intro cl C' s₀ H₀ ex
  refine ev_tup (ea_cons (ev_ix ix_tup (ev_v 1 (ev_int ⟨a.1, _, _, .str n[i].1, rfl, rfl, SqT.of et, rfl, ?_⟩))))
  refine ea_cons (ev_typ call_list_of T.tlist PyProof.Rows.boot_list (ea_cons (ev_ix ix_tup (ev_v 1 (ev_int ⟨a.1, _, _, .ref a.2, rfl, rfl, SqT.of et, rfl, ?_⟩)))))
  refine ea_nil ⟨a.2, _, rfl, .inl (SqL.of el), fun l hl => ea_nil ⟨(by show 2 ≤ sizeLine; decide), fun t ht => ?_⟩⟩
  have hl0 := free_back sm hl
  have ntl : t ≠ l := fun e => by rw [e, upd_same] at ht; cases ht
  have ht' : H' t = none := by rw [upd_ne ntl] at ht; exact ht
  have ht0 := free_back sm ht'
  have nlD : l ≠ D := fun e => by rw [e] at hl; rw [hl] at hb2; cases hb2
  have ntD : t ≠ D := fun e => by rw [e] at ht'; rw [ht'] at hb2; cases hb2
  refine ⟨bs.map fun a => .ref a.1, ?_, ?_, ⟨_, rfl⟩, bs ++ [(t, l)], by rw [List.length_append, hb1]; rfl, ?_, ?_, ?_, ?_, ?_⟩
  ·rw [upd_ne (Ne.symm ntD), upd_ne (Ne.symm nlD)]
   exact hb2
  ·rw [List.length_map]
   exact small' (by omega)
  ·rw [upd_same, List.map_append]
   rfl
  ·intro j b r hb hr'
   by_cases hj : j < bs.length
   ·rw [List.getElem?_append_left hj] at hb
    obtain ⟨q1, q2⟩ := hb3 j b r hb hr'
    have hbD := (hb5 b (List.mem_of_getElem? hb)).1
    have n1 : b.1 ≠ D := ne_of q1 hb2 fun z => nomatch z
    refine ⟨?_, ?_⟩
    ·rw [upd_ne n1, upd_ne (ne_of_none q1 ht'), upd_ne (ne_of_none q1 hl)]
     exact q1
    ·rw [upd_ne hbD, upd_ne (ne_of_none q2 ht'), upd_ne (ne_of_none q2 hl)]
     exact q2
   ·rw [List.getElem?_append_right (by omega)] at hb
    have hj2 : j - bs.length = 0 := by
     have := (List.getElem?_eq_some_iff.mp hb).1
     simp at this
     omega
    have hji : j = i := by omega
    rw [hj2] at hb
    cases hb
    rw [hji, List.getElem?_eq_getElem hi] at hr'
    cases hr'
    refine ⟨?_, ?_⟩
    ·rw [upd_ne ntD, upd_same]
    ·rw [upd_ne nlD, upd_ne (Ne.symm ntl), upd_same, er]
  ·rw [List.map_append]
   refine nd_snoc hb4 fun hm => ?_
   obtain ⟨b, hb, e⟩ := List.mem_map.mp hm
   obtain ⟨_, _, _, zs, q⟩ := hb5 b hb
   have e' : b.2 = l := e
   rw [e', hl] at q
   cases q
  ·intro b hb
   rcases List.mem_append.mp hb with hb | hb
   ·obtain ⟨q1, q2, q3, zs, q4⟩ := hb5 b hb
    refine ⟨q1, q2, q3, zs, ?_⟩
    rw [upd_ne q1, upd_ne (ne_of_none q4 ht'), upd_ne (ne_of_none q4 hl)]
    exact q4
   ·rw [List.mem_singleton.mp hb]
    refine ⟨nlD, ht0, hl0, row n i, ?_⟩
    rw [upd_ne nlD, upd_ne (Ne.symm ntl), upd_same]
  ·intro c o hc
   rw [upd_ne (ne_of_none hc hD), upd_ne (ne_of_none hc ht0), upd_ne (ne_of_none hc hl0)]
   exact sm _ _ hc
 ·rintro σ' H' ⟨_, bs, hb1, hb2, hb3, hb4, hb5, sm⟩
  rw [List.length_map] at hb1
  exact q D bs H' sm hD (fun a ha => ⟨(hb5 a ha).2.1, (hb5 a ha).2.2.1⟩) ⟨by omega, hb2, hb3, hb4⟩
end
noncomputable abbrev Tn (p : Str) (j : Int) : HO := .tup [.str p, .int j]
noncomputable def spEnds : Sp := fun vs H Q _ => ∃ (t l : Addr) (p : Str) (zs : List Str), vs = [.ref t] ∧ H t = some (.tup [.str p, .ref l]) ∧ H l = some (Ls zs) ∧ zs.length ≤ 1000 ∧
 ∀ (L : Addr) (ts : List Addr) (H' : Hp), Same H H' → H L = none → H' L = some (.lst (ts.map V.ref)) → ts.length = zs.length → (∀ (j : Nat) t, ts[j]? = some t → H' t = some (Tn p j)) → Q (.ref L) H'
section
variable {X : Cx} {elt tg : Expr} {ifs : List Expr} {scope : Scope} {σ : St} {H : Hp} {N' : List Str} {A : Addr} {after : Hp → Prop}
theorem comp_rangeP {lo : Int} {n : Nat} (Pv : Nat → St → Hp → Prop) (h0 : Pv 0 σ H)
  (hs : ∀ i σ' H', i < n → Pv i σ' H' → CEg X N' scope tg (.int (lo + i)) σ' H' fun σ2 H3 => CEi X N' scope ifs σ2 H3 fun b H4 =>
   if b = true then CEv X N' scope elt σ2 H4 fun v H5 => ∃ ys, H5 A = some (.lst ys) ∧ ys.length < sizeLine ∧ Pv (i + 1) σ2 (upd H5 A (.lst (ys ++ [v]))) else Pv (i + 1) σ2 H4)
  (hd : ∀ σ' H', Pv n σ' H' → after H') : CompL X N' scope tg ifs elt (Itr lo n) A after σ H := by
 refine ⟨fun i m σ' H' => m = n - i ∧ i ≤ n ∧ Pv i σ' H', ⟨_, rfl, Nat.zero_le _, h0⟩, ?_⟩
 rintro i m σ' H' ⟨rfl, hi, p⟩
 by_cases hlt : i < n
 ·refine .inr ⟨hlt, Pv (i + 1), fun σ' H' p' => ⟨n - (i + 1), by omega, rfl, hlt, p'⟩, fun x H2 y => ?_⟩
  obtain ⟨e, y⟩ := y
  subst e y
  exact hs i σ' _ hlt p
 ·have e : i = n := by omega
  subst e
  exact .inl ⟨Nat.le_refl _, hd σ' H' p⟩
end
section
variable {P : Program} {w : World} {K : PySem.W.Frag} {mg : Str → Option Value} {base : Heap}
noncomputable abbrev NE1 : List Str := ["row", "point", "ties"]
noncomputable abbrev NE2 : List Str := ["row", "point", "ties", "place"]
theorem scEnds : FnScope NE1 ["row"] (defScope sEnds) := ⟨rfl, rfl, rfl, by decide +kernel, rfl, by decide +kernel, by decide +kernel⟩
theorem nd_e2 : NE2.Nodup := by decide +kernel
theorem ok_ends {f : Addr} {fd : FuncData} (F : Fun K "ends_round" "ends_round" sEnds f fd) (T : Txt mg) : FnOk P w K mg base CX0 1 f fd ["row"] spEnds := by
 refine F.gb scEnds (fun vs H Q E h => ?_) (fun b0 H vs Q E hr h => ?_)
 ·obtain ⟨t, l, p, zs, rfl, _⟩ := h
  rfl
 obtain ⟨t, l, p, zs, rfl, ht, hl, hz, q⟩ := h
 have nd := scEnds.nd
 show Run _ _ _ [some (.ref t), none, none] H
 refine run_asg (ev_v 0 (eg_pair rfl (SqT.of ht) (eg_name 1 nd (eg_name 2 nd ?_))))
 show Run _ _ _ [some (.ref t), some (.str p), some (.ref l)] H
 refine run_ret (ev_comp (defScope sEnds) NE1 NE2 1 (pi_range1 rfl T.range (ta := tEa _ _) pa_ea (star_one _ [] _ rfl)) ?_)
 show Ea _ _ _ _ _
 refine ea_cons (ev_blt call_len_seq T.len boot_len (ea_cons (ev_v 2 (ea_nil ⟨l, _, rfl, .inl (SqL.of hl), ea_nil ⟨_, rfl, by omega, by rw [List.length_map]; omega, fun D hD => ?_⟩⟩))))
 rw [List.length_map, Int.toNat_natCast]
 refine comp_rangeP (fun i σ' H' => (∃ v, σ' = [some (.ref t), some (.str p), some (.ref l)] ++ [v]) ∧ ∃ ts : List Addr, ts.length = i ∧ H' D = some (.lst (ts.map V.ref)) ∧ (∀ (j : Nat) t, ts[j]? = some t → H' t = some (Tn p j)) ∧ Same H H')
  ⟨⟨none, rfl⟩, [], rfl, upd_same, fun j t h => by simp at h, same_new hD _⟩ ?_ ?_
 ·rintro i σ' H' hi ⟨⟨v, rfl⟩, ts, hl1, eD, hts, sm⟩
  rw [Int.zero_add]
  intro cl C' s₀ H₀ ex
  refine eg_name 3 nd_e2 ?_
  intro cl C' s₀ H₀ ex
  refine ei_nil ?_
  rw [if_pos rfl]
  intro cl C' s₀ H₀ ex
  refine ev_tup (ea_cons (ev_v 1 (ea_cons (ev_v 3 (ea_nil ⟨(by show 2 ≤ sizeLine; decide), fun u hu => ?_⟩)))))
  have nu : u ≠ D := fun e => by rw [e, eD] at hu; cases hu
  have hu0 := free_back sm hu
  refine ⟨ts.map V.ref, by rw [upd_ne (Ne.symm nu)]; exact eD, by rw [List.length_map]; exact small' (by omega), ⟨_, rfl⟩, ts ++ [u], by rw [List.length_append, hl1]; rfl, by rw [upd_same, List.map_append]; rfl, ?_, ?_⟩
  ·intro j t' ht'
   by_cases hj : j < ts.length
   ·rw [List.getElem?_append_left hj] at ht'
    have e := hts j t' ht'
    have n1 : t' ≠ D := ne_of e eD fun z => nomatch z
    rw [upd_ne n1, upd_ne (ne_of_none e hu)]
    exact e
   ·rw [List.getElem?_append_right (by omega)] at ht'
    have hj2 : j - ts.length = 0 := by
     have := (List.getElem?_eq_some_iff.mp ht').1
     simp at this
     omega
    rw [hj2] at ht'
    cases ht'
    have : j = i := by omega
    rw [this, upd_ne nu, upd_same]
  ·intro c o hc
   rw [upd_ne (ne_of_none hc hD), upd_ne (ne_of_none hc hu0)]
   exact sm _ _ hc
 ·rintro σ' H' ⟨_, ts, hl1, eD, hts, sm⟩
  exact q D ts H' sm hD eD hl1 hts
end
end M2
namespace M2
open PySem L2 Nt Sort2
noncomputable def spTL (g : Int → Int) : Sp := fun vs H Q _ => ∃ (e : Addr) (p : Str) (j m : Int), vs = [.ref e, .int m] ∧ H e = some (Tn p j) ∧ 0 < m ∧ ∀ t H', Same H H' → H' t = some (Tn p (g j % m)) → Q (.ref t) H'
section
variable {P : Program} {w : World} {K : PySem.W.Frag} {mg : Str → Option Value} {base : Heap}
noncomputable abbrev NT1 : List Str := ["end", "many", "point", "place"]
theorem scLeft : FnScope NT1 ["end", "many"] (defScope sLeft) := ⟨rfl, rfl, rfl, by decide +kernel, rfl, by decide +kernel, by decide +kernel⟩
theorem scRightT : FnScope NT1 ["end", "many"] (defScope sRightT) := ⟨rfl, rfl, rfl, by decide +kernel, rfl, by decide +kernel, by decide +kernel⟩
theorem ok_left {f : Addr} {fd : FuncData} (F : Fun K "turned_left" "turned_left" sLeft f fd) (T : Txt mg) : FnOk P w K mg base CX0 1 f fd ["end", "many"] (spTL fun j => j + 1) := by
 refine F.gb scLeft (fun vs H Q E h => ?_) (fun b0 H vs Q E hr h => ?_)
 ·obtain ⟨e, p, j, m, rfl, _⟩ := h
  rfl
 obtain ⟨e, p, j, m, rfl, he, hm, q⟩ := h
 have nd := scLeft.nd
 show Run _ _ _ [some (.ref e), some (.int m), none, none] H
 refine run_asg (ev_v 0 (eg_pair rfl (SqT.of he) (eg_name 2 nd (eg_name 3 nd ?_))))
 refine run_ret (ev_tup (ea_cons (ev_v 2 (ea_cons (ev_op op_mod (ev_op op_add (ev_v 3 (ev_int ⟨_, _, rfl, rfl, ev_v 1 ⟨_, _, rfl, rfl, (by show 0 < m; exact hm), ea_nil ⟨(by show 2 ≤ sizeLine; decide), fun t ht => ?_⟩⟩⟩))))))))
 exact q t _ (same_new ht _) upd_same
theorem ok_rightT {f : Addr} {fd : FuncData} (F : Fun K "turned_right" "turned_right" sRightT f fd) (T : Txt mg) : FnOk P w K mg base CX0 1 f fd ["end", "many"] (spTL fun j => j - 1) := by
 refine F.gb scRightT (fun vs H Q E h => ?_) (fun b0 H vs Q E hr h => ?_)
 ·obtain ⟨e, p, j, m, rfl, _⟩ := h
  rfl
 obtain ⟨e, p, j, m, rfl, he, hm, q⟩ := h
 have nd := scRightT.nd
 show Run _ _ _ [some (.ref e), some (.int m), none, none] H
 refine run_asg (ev_v 0 (eg_pair rfl (SqT.of he) (eg_name 2 nd (eg_name 3 nd ?_))))
 refine run_ret (ev_tup (ea_cons (ev_v 2 (ea_cons (ev_op op_mod (ev_op op_sub (ev_v 3 (ev_int ⟨_, _, rfl, rfl, ev_v 1 ⟨_, _, rfl, rfl, (by show 0 < m; exact hm), ea_nil ⟨(by show 2 ≤ sizeLine; decide), fun t ht => ?_⟩⟩⟩))))))))
 exact q t _ (same_new ht _) upd_same
theorem fold_new {kvs : List (Key × V)} : ∀ {acc : List (Key × V)}, ((acc ++ kvs).map (·.1)).Nodup → kvs.foldl (fun a p => putK a p.1 p.2) acc = acc ++ kvs := by
 induction kvs with
 | nil => intro acc _; simp
 | cons p r ih =>
  intro acc h
  have hn : valV acc p.1 = none := by
   cases e : valV acc p.1 with
   | none => rfl
   | some v =>
    have hm := valV_in e
    rw [List.map_append, List.map_cons] at h
    exact absurd rfl ((List.nodup_append.mp h).2.2 _ hm _ List.mem_cons_self)
  rw [List.foldl_cons, putK_new _ hn, ih (by rw [List.append_assoc]; exact h), List.append_assoc]
  rfl
theorem valV_at : ∀ {kvs : List (Key × V)} {i : Nat} {p : Key × V}, (kvs.map (·.1)).Nodup → kvs[i]? = some p → valV kvs p.1 = some p.2
 | [], _, _, _, h => by simp at h
 | q :: r, 0, p, _, h => by
  cases h
  exact valV_pos rfl
 | q :: r, i + 1, p, hn, h => by
  rw [List.map_cons, List.nodup_cons] at hn
  have hm : r[i]? = some p := by simpa using h
  rw [valV_neg fun e => hn.1 (by rw [e]; exact List.mem_map.mpr ⟨p, List.mem_of_getElem? hm, rfl⟩)]
  exact valV_at hn.2 hm
noncomputable def rowKvs (n : Net) (as : List (Addr × Addr)) : List (Key × V) := List.zipWith (fun r a => (Sum.inr r.1, V.ref a.2)) n as
theorem rowKvs_keys : ∀ (n : Net) (as : List (Addr × Addr)), as.length = n.length → (rowKvs n as).map (·.1) = (n.map (·.1)).map Sum.inr
 | [], [], _ => rfl
 | [], _ :: _, h => by simp at h
 | _ :: _, [], h => by simp at h
 | r :: n, a :: as, h => by
  have := rowKvs_keys n as (by simpa using h)
  show Sum.inr r.1 :: (rowKvs n as).map (·.1) = _
  rw [this]
  rfl
theorem rowKvs_at {n : Net} {as : List (Addr × Addr)} {i : Nat} {r : Str × List Str} {a : Addr × Addr} (h1 : n[i]? = some r) (h2 : as[i]? = some a) : (rowKvs n as)[i]? = some (Sum.inr r.1, .ref a.2) := by
 unfold rowKvs
 rw [List.getElem?_zipWith, h1, h2]
theorem nodup_inr {l : List Str} (h : l.Nodup) : (l.map (Sum.inr : Str → Key)).Nodup := by
 rw [List.nodup_iff_pairwise_ne, List.pairwise_map]
 exact (List.nodup_iff_pairwise_ne.mp h).imp fun h q => h (Sum.inr.inj q)
end
noncomputable def nameAt (n : Net) (r : Nat) : Str := ((n[r]?).map (·.1)).getD ⟨#[]⟩
noncomputable def key (n : Net) (e : Nt.End) : List Key := [Sum.inr (nameAt n e.1), Sum.inl (e.2 : Int)]
noncomputable abbrev TN (n : Net) (e : Nt.End) : HO := Tn (nameAt n e.1) (e.2 : Int)
theorem nameAt_eq {n : Net} {r : Nat} (h : r < n.length) : nameAt n r = n[r].1 := by unfold nameAt; rw [List.getElem?_eq_getElem h]; rfl
theorem key_inj {n : Net} (hN : (n.map (·.1)).Nodup) {a b : Nt.End} (ha : a.1 < n.length) (hb : b.1 < n.length) (h : key n a = key n b) : a = b := by
 unfold key at h
 injection h with h1 h2
 injection h2 with h2 _
 have e1 := Sum.inr.inj h1
 have e2 := Sum.inl.inj h2
 rw [nameAt_eq ha, nameAt_eq hb] at e1
 have e3 : a.1 = b.1 := by
  have la : a.1 < (n.map (·.1)).length := by rw [List.length_map]; exact ha
  have lb : b.1 < (n.map (·.1)).length := by rw [List.length_map]; exact hb
  refine (List.getElem_inj (i := a.1) (j := b.1) (h₀ := la) (h₁ := lb) hN).mp ?_
  rw [List.getElem_map, List.getElem_map]
  exact e1
 exact Prod.ext e3 (by omega)
theorem seats_split {n : Net} {r p : Nat} {z : Str} (hr : r < n.length) (hz : (row n r)[p]? = some z) : ∃ rest, seats n = (seats (n.take r) ++ rowSeats r ((row n r).take p) 0) ++ (z, (r, p)) :: rest := by
 have e1 : seats n = seats (n.take (r + 1)) ++ seatsFrom (0 + (n.take (r + 1)).length) (n.drop (r + 1)) := by
  have := seatsFrom_append (n.take (r + 1)) (n.drop (r + 1)) 0
  rw [List.take_append_drop] at this
  exact this
 have e2 : rowSeats r (row n r) 0 = rowSeats r ((row n r).take (p + 1)) 0 ++ rowSeats r ((row n r).drop (p + 1)) (0 + ((row n r).take (p + 1)).length) := by
  unfold rowSeats
  rw [← List.map_append, ← List.zipIdx_append, List.take_append_drop]
 rw [e1, seats_take hr, e2, rowSeats_take hz]
 refine ⟨rowSeats r ((row n r).drop (p + 1)) (0 + ((row n r).take (p + 1)).length) ++ seatsFrom (0 + (n.take (r + 1)).length) (n.drop (r + 1)), ?_⟩
 simp only [List.append_assoc, List.cons_append, List.nil_append]
theorem keys_putK {κ : Type} [DecidableEq κ] (kvs : List (κ × V)) (k : κ) (v : V) : (putK kvs k v).map (·.1) = if k ∈ kvs.map (·.1) then kvs.map (·.1) else kvs.map (·.1) ++ [k] := by
 have e : (kvs.any fun kv => decide (kv.1 = k)) = decide (k ∈ kvs.map (·.1)) := by
  rw [Bool.eq_iff_iff, List.any_eq_true, decide_eq_true_iff, List.mem_map]
  exact ⟨fun ⟨p, h1, h2⟩ => ⟨p, h1, of_decide_eq_true h2⟩, fun ⟨p, h1, h2⟩ => ⟨p, h1, decide_eq_true h2⟩⟩
 unfold putK
 rw [e]
 by_cases h : k ∈ kvs.map (·.1)
 ·rw [if_pos (decide_eq_true h), if_pos h, List.map_map]
  refine List.map_congr_left fun p _ => ?_
  show (if p.1 = k then (p.1, v) else p).1 = p.1
  split <;> rfl
 ·rw [if_neg (by simpa using h), if_neg h, List.map_append]
  rfl
theorem mem_putK {κ : Type} [DecidableEq κ] {kvs : List (κ × V)} {k j : κ} {v : V} : j ∈ (putK kvs k v).map (·.1) ↔ j ∈ kvs.map (·.1) ∨ j = k := by
 rw [keys_putK]
 split
 ·exact ⟨.inl, fun h => h.elim id fun e => by rw [e]; assumption⟩
 ·rw [List.mem_append, List.mem_singleton]
theorem nodup_putK {κ : Type} [DecidableEq κ] {kvs : List (κ × V)} {k : κ} {v : V} (h : (kvs.map (·.1)).Nodup) : ((putK kvs k v).map (·.1)).Nodup := by
 rw [keys_putK]
 split
 ·exact h
 ·rename_i hn
  exact nd_snoc h hn
structure OEI (n : Net) (done : List (Str × Nt.End)) (H : Hp) (kM : List (Key × V)) (kO : List (List Key × V)) : Prop where
 m0 : ∀ z, posIn done z = [] → valV kM (Sum.inr z) = none
 m1 : ∀ z a rest, posIn done z = a :: rest → ∃ t, valV kM (Sum.inr z) = some (.ref t) ∧ H t = some (TN n a)
 o : ∀ z a b rest, posIn done z = a :: b :: rest → (∃ u, valV kO (key n a) = some (.ref u) ∧ H u = some (TN n b)) ∧ ∃ u, valV kO (key n b) = some (.ref u) ∧ H u = some (TN n a)
 sub : ∀ p ∈ done, tieAt n p.2 = some p.1
 lenM : kM.length ≤ done.length
 lenO : kO.length ≤ 2 * done.length
 ks : ∀ k ∈ kO.map (·.1), ∃ p ∈ done, k = key n p.2
 nd : (kO.map (·.1)).Nodup
theorem OEI.keep {n : Net} {done : List (Str × Nt.End)} {H H' : Hp} {kM : List (Key × V)} {kO : List (List Key × V)} (I : OEI n done H kM kO) (k : ∀ t p j, H t = some (Tn p j) → H' t = some (Tn p j)) : OEI n done H' kM kO where
 m0 := I.m0
 m1 := fun z a rest h => let ⟨t, e1, e2⟩ := I.m1 z a rest h; ⟨t, e1, k _ _ _ e2⟩
 o := fun z a b rest h => let ⟨⟨u, e1, e2⟩, ⟨v, e3, e4⟩⟩ := I.o z a b rest h; ⟨⟨u, e1, k _ _ _ e2⟩, ⟨v, e3, k _ _ _ e4⟩⟩
 sub := I.sub
 lenM := I.lenM
 lenO := I.lenO
 ks := I.ks
 nd := I.nd
theorem posIn_mem {done : List (Str × Nt.End)} {z : Str} {a : Nt.End} (h : a ∈ posIn done z) : (z, a) ∈ done := by
 unfold posIn at h
 obtain ⟨⟨y, b⟩, hm, rfl⟩ := List.mem_map.mp h
 obtain ⟨h1, h2⟩ := List.mem_filter.mp hm
 have : y = z := of_decide_eq_true h2
 subst this
 exact h1
theorem OEI.new {n : Net} {done : List (Str × Nt.End)} {H : Hp} {kM : List (Key × V)} {kO : List (List Key × V)} (I : OEI n done H kM kO) {z : Str} {e : Nt.End} {t : Addr} (ht : H t = some (TN n e)) (hz : tieAt n e = some z) (h0 : posIn done z = []) :
  OEI n (done ++ [(z, e)]) H (putK kM (Sum.inr z) (.ref t)) kO where
 m0 := fun y hy => by
  rw [posIn_snoc] at hy
  obtain ⟨h1, h2⟩ := List.append_eq_nil_iff.mp hy
  have hne : ¬ z = y := fun q => by rw [if_pos q] at h2; cases h2
  rw [valV_put, if_neg (fun q => hne (Sum.inr.inj q).symm)]
  exact I.m0 y h1
 m1 := fun y a rest hy => by
  rw [posIn_snoc] at hy
  by_cases q : z = y
  ·subst q
   rw [h0, if_pos rfl] at hy
   cases hy
   exact ⟨t, by rw [valV_put, if_pos rfl], ht⟩
  ·rw [if_neg q, List.append_nil] at hy
   obtain ⟨u, e1, e2⟩ := I.m1 y a rest hy
   exact ⟨u, by rw [valV_put, if_neg (fun p => q (Sum.inr.inj p).symm)]; exact e1, e2⟩
 o := fun y a b rest hy => by
  rw [posIn_snoc] at hy
  by_cases q : z = y
  ·subst q
   rw [h0, if_pos rfl] at hy
   cases hy
  ·rw [if_neg q, List.append_nil] at hy
   exact I.o y a b rest hy
 sub := fun p hp => by
  rcases List.mem_append.mp hp with h | h
  ·exact I.sub p h
  ·rw [List.mem_singleton.mp h]
   exact hz
 lenM := by
  have := length_putK kM (Sum.inr z) (.ref t)
  have := I.lenM
  rw [List.length_append, List.length_singleton]
  omega
 lenO := by
  have := I.lenO
  rw [List.length_append, List.length_singleton]
  omega
 ks := fun k hk => let ⟨p, hp, e⟩ := I.ks k hk; ⟨p, List.mem_append_left _ hp, e⟩
 nd := I.nd
theorem OEI.old {n : Net} (hN : (n.map (·.1)).Nodup) {done : List (Str × Nt.End)} {H : Hp} {kM : List (Key × V)} {kO : List (List Key × V)} (I : OEI n done H kM kO) {z : Str} {e a : Nt.End} {te tm : Addr} (ht : H te = some (TN n e)) (hm : H tm = some (TN n a)) (hz : tieAt n e = some z) (h1 : posIn done z = [a]) (hae : a ≠ e) :
  OEI n (done ++ [(z, e)]) H kM (putK (putK kO (key n e) (.ref tm)) (key n a) (.ref te)) where
 m0 := fun y hy => by
  rw [posIn_snoc] at hy
  exact I.m0 y (List.append_eq_nil_iff.mp hy).1
 m1 := fun y c rest hy => by
  rw [posIn_snoc] at hy
  by_cases q : z = y
  ·subst q
   rw [h1, if_pos rfl] at hy
   cases hy
   exact I.m1 z a [] h1
  ·rw [if_neg q, List.append_nil] at hy
   exact I.m1 y c rest hy
 o := fun y c b rest hy => by
  rw [posIn_snoc] at hy
  have ta : tieAt n a = some z := I.sub (z, a) (posIn_mem (by rw [h1]; exact List.mem_singleton.mpr rfl))
  by_cases q : z = y
  ·subst q
   rw [h1, if_pos rfl] at hy
   cases hy
   refine ⟨⟨te, by rw [valV_put, if_pos rfl], ht⟩, ⟨tm, ?_, hm⟩⟩
   rw [valV_put, if_neg (fun p => hae (key_inj hN (row_lt hz) (row_lt ta) p).symm), valV_put, if_pos rfl]
  ·rw [if_neg q, List.append_nil] at hy
   have tc : tieAt n c = some y := I.sub (y, c) (posIn_mem (by rw [hy]; exact List.mem_cons_self))
   have tb : tieAt n b = some y := I.sub (y, b) (posIn_mem (by rw [hy]; exact List.mem_cons_of_mem _ List.mem_cons_self))
   have ne : ∀ x : Nt.End, tieAt n x = some y → ¬ key n x = key n a ∧ ¬ key n x = key n e := fun x hx => by
    refine ⟨fun p => ?_, fun p => ?_⟩
    ·have := key_inj hN (row_lt hx) (row_lt ta) p
     rw [this, ta] at hx
     exact q (Option.some.inj hx)
    ·have := key_inj hN (row_lt hx) (row_lt hz) p
     rw [this, hz] at hx
     exact q (Option.some.inj hx)
   obtain ⟨⟨u, e1, e2⟩, ⟨v, e3, e4⟩⟩ := I.o y c b rest hy
   refine ⟨⟨u, ?_, e2⟩, ⟨v, ?_, e4⟩⟩
   ·rw [valV_put, if_neg (ne c tc).1, valV_put, if_neg (ne c tc).2]
    exact e1
   ·rw [valV_put, if_neg (ne b tb).1, valV_put, if_neg (ne b tb).2]
    exact e3
 sub := fun p hp => by
  rcases List.mem_append.mp hp with h | h
  ·exact I.sub p h
  ·rw [List.mem_singleton.mp h]
   exact hz
 lenM := by
  have := I.lenM
  rw [List.length_append, List.length_singleton]
  omega
 lenO := by
  have h1 := length_putK (putK kO (key n e) (.ref tm)) (key n a) (.ref te)
  have h2 := length_putK kO (key n e) (.ref tm)
  have := I.lenO
  rw [List.length_append, List.length_singleton]
  omega
 ks := fun k hk => by
  rcases mem_putK.mp hk with hk | rfl
  ·rcases mem_putK.mp hk with hk | rfl
   ·obtain ⟨p, hp, e⟩ := I.ks k hk
    exact ⟨p, List.mem_append_left _ hp, e⟩
   ·exact ⟨(z, e), List.mem_append_right _ (List.mem_singleton.mpr rfl), rfl⟩
  ·exact ⟨(z, a), List.mem_append_left _ (posIn_mem (by rw [h1]; exact List.mem_singleton.mpr rfl)), rfl⟩
 nd := nodup_putK (nodup_putK I.nd)
theorem OEI.whole {n : Net} (T : Twice n) {H : Hp} {kM : List (Key × V)} {kO : List (List Key × V)} (I : OEI n (seats n) H kM kO) {e : Nt.End} (he : e ∈ ends n) : ∃ u, valV kO (key n e) = some (.ref u) ∧ H u = some (TN n (other n e)) := by
 obtain ⟨z, hz⟩ := mem_ends.mp he
 obtain ⟨a, b, hp, hab, hor⟩ := pos_two T hz
 have hp' : posIn (seats n) z = a :: b :: [] := hp
 have ta : tieAt n a = some z := mem_pos.mp (by rw [hp]; simp)
 have tb : tieAt n b = some z := mem_pos.mp (by rw [hp]; simp)
 obtain ⟨o1, o2⟩ := I.o z a b [] hp'
 rcases hor with rfl | rfl
 ·have : b = other n e := ((tie_two T hz).mp tb).resolve_left (Ne.symm hab)
  rw [← this]
  exact o1
 ·have : a = other n e := ((tie_two T hz).mp ta).resolve_left hab
  rw [← this]
  exact o2
noncomputable def spOE : Sp := fun vs H Q _ => ∃ (R : Addr) (as : List (Addr × Addr)) (n : Net), vs = [.ref R] ∧ RowsAt H R as n ∧ (n.map (·.1)).Nodup ∧ Twice n ∧ n.length ≤ 1000 ∧ (ties n).length ≤ 1000 ∧
 ∀ (d : Addr) (kvs : List (List Key × V)) (H' : Hp), Same H H' → H d = none → H' d = some (.dT kvs) → (∀ e ∈ ends n, ∃ u, valV kvs (key n e) = some (.ref u) ∧ H' u = some (TN n (other n e))) → (kvs.map (·.1)).Nodup → (∀ k ∈ kvs.map (·.1), ∃ e ∈ ends n, k = key n e) → kvs.length ≤ 2000 → Q (.ref d) H'
section
variable {X : Cx} {D : Ends} {σ : St} {H : Hp} {body : List Stmt}
theorem loop_zip {tg : Expr} {a b : Addr} {xs ys : List V} {after : St → Hp → Prop} (hlen : xs.length = ys.length) (Pv : Nat → St → Hp → Prop) (h0 : Pv 0 σ H) (hl : ∀ i σ H, i ≤ xs.length → Pv i σ H → SqL X.K H a xs ∧ SqL X.K H b ys)
  (hs : ∀ i x y T σ H, xs[i]? = some x → ys[i]? = some y → Pv i σ H → H T = none → Eg X tg (.ref T) σ (upd H T (.tup [x, y])) fun σ2 H2 => Run X body { D with nx := Pv (i + 1), ct := Pv (i + 1), bk := after } σ2 H2) (hd : ∀ σ H, Pv xs.length σ H → after σ H) : Loop X tg body (Itz X.K a b) D after σ H := by
 refine ⟨fun i m σ H => m = xs.length - i ∧ i ≤ xs.length ∧ Pv i σ H, ⟨xs.length, by simp, Nat.zero_le _, h0⟩, ?_⟩
 rintro i m σ H ⟨rfl, hi, p⟩
 obtain ⟨q1, q2⟩ := hl i σ H hi p
 by_cases hlt : i < xs.length
 ·refine .inr ⟨⟨xs, ys, xs[i], ys[i], q1, q2, List.getElem?_eq_getElem hlt, List.getElem?_eq_getElem (by omega)⟩, Pv (i + 1), fun σ' H' p' => ⟨xs.length - (i + 1), by omega, rfl, hlt, p'⟩, fun v H' y => ?_⟩
  obtain ⟨T, x, y, hT, rfl, rfl, y1, y2⟩ := y
  exact hs i x y T σ _ (y1 xs q1) (y2 ys q2) p hT
 ·have e : i = xs.length := by omega
  subst e
  exact .inl ⟨⟨xs, ys, q1, q2, .inl (Nat.le_refl _)⟩, hd σ H p⟩
end
end M2
namespace M2
open PySem L2 Nt Sort2
section
variable {P : Program} {w : World} {K : PySem.W.Frag} {mg : Str → Option Value} {base : Heap}
noncomputable abbrev NOE : List Str := ["rows", "met", "others", "row", "end", "tie"]
theorem scOE : FnScope NOE ["rows"] (defScope sOthers) := ⟨rfl, rfl, rfl, by decide +kernel, rfl, by decide +kernel, by decide +kernel⟩
theorem tup_ne_dK {H : Hp} {t d : Addr} {xs : List V} {kvs : List (Key × V)} (h : H t = some (.tup xs)) (g : H d = some (.dK kvs)) : t ≠ d := ne_of h g fun z => nomatch z
theorem tup_ne_dT {H : Hp} {t d : Addr} {xs : List V} {kvs : List (List Key × V)} (h : H t = some (.tup xs)) (g : H d = some (.dT kvs)) : t ≠ d := ne_of h g fun z => nomatch z
theorem ok_OE {f : Addr} {fd : FuncData} (F : Fun K "other_ends" "other_ends" sOthers f fd) (T : Txt mg)
  (GE : Has P w K mg base 1 "ends_round" ["row"] spEnds) :
  FnOk P w K mg base CX0 2 f fd ["rows"] spOE := by
 refine F.gb scOE (fun vs H Q E h => ?_) (fun b0 H vs Q E hr h => ?_)
 ·obtain ⟨R, as, n, rfl, _⟩ := h
  rfl
 obtain ⟨R, as, n, rfl, hR, hN, hT, hn, ht, q⟩ := h
 have nd := scOE.nd
 have hal := hR.len
 have hu := hr.u1
 show Run _ _ _ [some (.ref R), none, none, none, none, none] H
 refine run_set 1 nd (ev_dnewK fun dm hdm => ?_)
 refine run_set 2 nd (ev_dnewT fun dO hdO => ?_)
 show Run _ _ _ [some (.ref R), some (.ref dm), some (.ref dO), none, none, none] (upd (upd H dm (.dK [])) dO (.dT []))
 have ndd : dO ≠ dm := fun e => by rw [e, upd_same] at hdO; cases hdO
 have hdO0 : H dO = none := by rw [upd_ne ndd] at hdO; exact hdO
 have em : (upd (upd H dm (.dK [])) dO (.dT [])) dm = some (.dK []) := by rw [upd_ne (Ne.symm ndd), upd_same]
 have eo : (upd (upd H dm (.dK [])) dO (.dT [])) dO = some (.dT []) := upd_same
 have s0 : Same H (upd (upd H dm (.dK [])) dO (.dT [])) := fun b o h => by rw [upd_ne (ne_of_none h hdO0), upd_ne (ne_of_none h hdm)]; exact h
 generalize upd (upd H dm (.dK [])) dO (.dT []) = H1 at em eo s0 ⊢
 refine run_forL (ev_v 0 ⟨R, rfl, ⟨_, SqL.of (s0 _ _ hR.lst)⟩, loop_list (xs := as.map fun a => V.ref a.1) (fun r σ H' => ∃ kM kO u1 u2 u3, Same H H' ∧ H' dm = some (.dK kM) ∧ H' dO = some (.dT kO) ∧ OEI n (seats (n.take r)) H' kM kO ∧ σ = [some (.ref R), some (.ref dm), some (.ref dO), u1, u2, u3])
  ⟨[], [], _, _, _, s0, em, eo, ⟨fun _ _ => rfl, fun z a rest h => (by cases h), fun z a b rest h => (by cases h), fun p h => (by cases h), Nat.zero_le _, Nat.zero_le _, fun k h => (by cases h), List.nodup_nil⟩, rfl⟩ ?_ ?_ ?_⟩)
 ·rintro r σ H' _ ⟨kM, kO, u1, u2, u3, sm, _⟩
  exact SqL.of (sm _ _ hR.lst)
 ·rintro r x σ H' hx ⟨kM, kO, u1, u2, u3, sm, em', eo', I, rfl⟩
  have hi : r < n.length := by
   have := (List.getElem?_eq_some_iff.mp hx).1
   rw [List.length_map] at this
   omega
  obtain ⟨a, ea, eat, et, el, er⟩ := (hR.same sm).at hi
  rw [List.getElem?_map, ea] at hx
  cases hx
  have hrl : (row n r).length ≤ 1000 := Nat.le_trans (row_le n r) ht
  have enm : nameAt n r = n[r].1 := nameAt_eq hi
  refine eg_name 3 nd ?_
  refine run_for (pi_zip rfl T.zip (ta := tEa _ _) pa_ea) ?_
  show Ea _ _ _ _ _
  refine ea_cons (ev_has GE hr (ea_cons (ev_v 3 (ea_nil ⟨a.1, a.2, n[r].1, row n r, rfl, et, el, hrl, fun L ts H5 s5 n5 e5 l5 t5 => ?_⟩))))
  refine ea_cons (ev_ix ix_tup (ev_v 3 (ev_int ⟨a.1, _, _, .ref a.2, rfl, rfl, SqT.of (s5 _ _ et), rfl, ea_nil ⟨L, a.2, rfl, ⟨_, SqL.of e5⟩, ⟨_, SqL.of (s5 _ _ el)⟩, ?_⟩⟩)))
  have em5 := s5 _ _ em'
  have eo5 := s5 _ _ eo'
  have el5 := s5 _ _ el
  refine loop_zip (xs := ts.map V.ref) (ys := (row n r).map V.str) (by rw [List.length_map, List.length_map, l5]) (fun p σ' H'' => ∃ kM kO u2 u3, (∀ b o, b ≠ dm → b ≠ dO → H5 b = some o → H'' b = some o) ∧ H'' dm = some (.dK kM) ∧ H'' dO = some (.dT kO) ∧ OEI n (seats (n.take r) ++ rowSeats r ((row n r).take p) 0) H'' kM kO ∧ σ' = [some (.ref R), some (.ref dm), some (.ref dO), some (.ref a.1), u2, u3])
   ⟨kM, kO, _, _, fun b o _ _ h => h, em5, eo5, ?_, rfl⟩ ?_ ?_ ?_
  ·have : rowSeats r ((row n r).take 0) 0 = [] := by simp [rowSeats]
   rw [this, List.append_nil]
   exact I.keep fun t p j h => s5 _ _ h
  ·rintro p σ' H'' _ ⟨kM, kO, u2, u3, kb, _, _, _, rfl⟩
   exact ⟨SqL.of (kb _ _ (ne_of e5 em5 fun z => nomatch z) (ne_of e5 eo5 fun z => nomatch z) e5), SqL.of (kb _ _ (ne_of el5 em5 fun z => nomatch z) (ne_of el5 eo5 fun z => nomatch z) el5)⟩
  ·rintro p x y Tt σ' H'' hx hy ⟨kM, kO, u2, u3, kb, em6, eo6, I6, rfl⟩ hTt
   rw [List.getElem?_map, Option.map_eq_some_iff] at hx hy
   obtain ⟨te, hte, rfl⟩ := hx
   obtain ⟨z, hz, rfl⟩ := hy
   have e5t := t5 p te hte
   have ete : H'' te = some (Tn n[r].1 p) := kb _ _ (tup_ne_dK e5t em5) (tup_ne_dT e5t eo5) e5t
   have htz : tieAt n (r, p) = some z := hz
   obtain ⟨rest, hsp⟩ := seats_split hi hz
   have hlen : (seats (n.take r) ++ rowSeats r ((row n r).take p) 0).length < 1000 := by
    have h1 : (seats n).length = (ties n).length := by
     have := congrArg List.length (seats_names n 0)
     rw [List.length_map] at this
     exact this
    have h2 := congrArg List.length hsp
    rw [List.length_append, List.length_cons] at h2
    omega
   have hnext : seats (n.take r) ++ rowSeats r ((row n r).take (p + 1)) 0 = (seats (n.take r) ++ rowSeats r ((row n r).take p) 0) ++ [(z, (r, p))] := by
    rw [rowSeats_take hz, List.append_assoc]
   have hfresh : ∀ b, b ∈ posIn (seats (n.take r) ++ rowSeats r ((row n r).take p) 0) z → b ≠ (r, p) := fun b hb e => by
    have hm := posIn_mem hb
    have hnd := ends_nodup n
    unfold ends at hnd
    rw [hsp, List.map_append, List.map_cons] at hnd
    exact (List.nodup_append.mp hnd).2.2 _ (List.mem_map.mpr ⟨_, hm, rfl⟩) _ List.mem_cons_self e
   have hcnt : (posIn (seats (n.take r) ++ rowSeats r ((row n r).take p) 0) z).length ≤ 1 := by
    have h1 : (pos n z).length = 2 := by rw [pos_len]; exact hT z (tie_mem htz)
    have h2 : pos n z = posIn (seats (n.take r) ++ rowSeats r ((row n r).take p) 0) z ++ posIn ((z, (r, p)) :: rest) z := by
     show posIn (seats n) z = _
     rw [hsp]
     unfold posIn
     rw [List.filter_append, List.map_append]
    have h3 : 1 ≤ (posIn ((z, (r, p)) :: rest) z).length := by
     unfold posIn
     rw [List.filter_cons, if_pos (by simp)]
     simp
    rw [h2, List.length_append] at h1
    omega
   generalize seats (n.take r) ++ rowSeats r ((row n r).take p) 0 = done at I6 hlen hnext hfresh hcnt
   rw [hnext]
   have hTm : Tt ≠ dm := fun e => by rw [e, em6] at hTt; cases hTt
   have hTo : Tt ≠ dO := fun e => by rw [e, eo6] at hTt; cases hTt
   have s7 := same_new hTt (.tup [.ref te, .str z])
   have kb7 : ∀ b o, b ≠ dm → b ≠ dO → H5 b = some o → (upd H'' Tt (.tup [.ref te, .str z])) b = some o := fun b o h1 h2 h => s7 _ _ (kb b o h1 h2 h)
   have em7 := s7 _ _ em6
   have eo7 := s7 _ _ eo6
   have I7 := I6.keep (H' := upd H'' Tt (.tup [.ref te, .str z])) fun t p j h => s7 _ _ h
   have ete7 := s7 _ _ ete
   refine eg_pair rfl (SqT.of upd_same) (eg_name 4 nd (eg_name 5 nd ?_))
   show Run _ _ _ [some (.ref R), some (.ref dm), some (.ref dO), some (.ref a.1), some (.ref te), some (.str z)] _
   generalize upd H'' Tt (.tup [.ref te, .str z]) = H7 at kb7 em7 eo7 I7 ete7
   have ete8 : H7 te = some (TN n (r, p)) := by
    show H7 te = some (Tn (nameAt n r) p)
    rw [enm]
    exact ete7
   have hM : kM.length < sizeLine := small' (by have := I7.lenM; omega)
   have hO : kO.length < sizeLine := small' (by have := I7.lenO; omega)
   refine run_if (et_din hu (ev_v 5 (ev_v 1 ⟨dm, _, rfl, DGet.k (k := Sum.inr z) em7, ?_⟩)))
   match hpz : posIn done z with
   | [] =>
    rw [I7.m0 z hpz]
    show if false = true then _ else _
    rw [if_neg Bool.false_ne_true]
    refine run_dput hu (ev_v 4 (ev_v 1 (ev_v 5 ⟨dm, _, rfl, DPut.k (k := Sum.inr z) em7 hM, run_nil (run_nil ⟨_, kO, _, _, fun b o h1 h2 h => ?_, upd_same, ?_, ?_, rfl⟩)⟩)))
    ·rw [upd_ne h1]
     exact kb7 b o h1 h2 h
    ·rw [upd_ne ndd]
     exact eo7
    ·exact (I7.new ete8 htz hpz).keep fun t p j h => by rw [upd_ne (tup_ne_dK h em7)]; exact h
   | b :: more =>
    have hmore : more = [] := by
     rw [hpz, List.length_cons] at hcnt
     exact List.length_eq_zero_iff.mp (by omega)
    subst hmore
    obtain ⟨tm, vm, etm⟩ := I7.m1 z b [] hpz
    rw [vm]
    show if true = true then _ else _
    rw [if_pos rfl]
    have hbe : b ≠ (r, p) := hfresh b (by rw [hpz]; exact List.mem_singleton.mpr rfl)
    refine run_dput hu (ev_dget hu (ev_v 1 (ev_v 5 ⟨dm, .ref tm, rfl, by rw [← vm]; exact DGet.k (k := Sum.inr z) em7, ev_v 2 (ev_v 4 ⟨dO, _, rfl, DPut.t (k := key n (r, p)) eo7 ete8 hO, ?_⟩)⟩)))
    have hO2 := length_putK kO (key n (r, p)) (.ref tm)
    have hO3 := I7.lenO
    have em8 : (upd H7 dO (.dT (putK kO (key n (r, p)) (.ref tm)))) dm = some (.dK kM) := by rw [upd_ne (Ne.symm ndd)]; exact em7
    have etm8 : (upd H7 dO (.dT (putK kO (key n (r, p)) (.ref tm)))) tm = some (TN n b) := by rw [upd_ne (tup_ne_dT etm eo7)]; exact etm
    refine run_dput hu (ev_v 4 (ev_v 2 (ev_dget hu (ev_v 1 (ev_v 5 ⟨dm, .ref tm, rfl, by rw [← vm]; exact DGet.k (k := Sum.inr z) em8, dO, _, rfl, DPut.t (k := key n b) upd_same etm8 (small' (by omega)), run_nil (run_nil ⟨kM, _, _, _, fun b o h1 h2 h => ?_, ?_, upd_same, ?_, rfl⟩)⟩)))))
    ·rw [upd_ne h2, upd_ne h2]
     exact kb7 b o h1 h2 h
    ·rw [upd_ne (Ne.symm ndd)]
     exact em8
    ·exact (I7.old hN ete8 etm htz hpz hbe).keep fun t p j h => by rw [upd_ne (tup_ne_dT h eo7), upd_ne (tup_ne_dT h eo7)]; exact h
  ·rintro σ' H'' ⟨kM, kO, u2, u3, kb, em6, eo6, I6, rfl⟩
   refine run_nil ⟨kM, kO, _, _, _, fun b o h => ?_, em6, eo6, ?_, rfl⟩
   ·exact kb b o (ne_of_none h hdm) (ne_of_none h hdO0) (s5 _ _ (sm _ _ h))
   ·rw [List.length_map, l5, List.take_length] at I6
    rw [seats_take hi]
    exact I6
 ·rintro σ H' ⟨kM, kO, u1, u2, u3, sm, em', eo', I, rfl⟩
  rw [List.length_map, hal, List.take_length] at I
  have lO := I.lenO
  have ls : (seats n).length = (ties n).length := by rw [← seats_names n 0, List.length_map]; rfl
  exact run_ret (ev_v 2 (q dO kO H' sm hdO0 eo' (fun e he => I.whole hT he) I.nd (fun k hk => let ⟨p, hp, e⟩ := I.ks k hk; ⟨p.2, List.mem_map.mpr ⟨p, hp, rfl⟩, e⟩) (by omega)))
end
end M2
namespace M2
open PySem L2 Nt Sort2
noncomputable def AtN (n : Net) (H : Hp) (us : List Addr) (done : List (Str × Nt.End)) : Prop := us.length = done.length ∧ ∀ (j : Nat) u p, us[j]? = some u → done[j]? = some p → H u = some (TN n p.2)
theorem AtN.keep {n : Net} {H H' : Hp} {us : List Addr} {done : List (Str × Nt.End)} (h : AtN n H us done) (k : ∀ t p j, H t = some (Tn p j) → H' t = some (Tn p j)) : AtN n H' us done := ⟨h.1, fun j u p h1 h2 => k _ _ _ (h.2 j u p h1 h2)⟩
theorem AtN.snoc {n : Net} {H H' : Hp} {us : List Addr} {done : List (Str × Nt.End)} {u : Addr} {p : Str × Nt.End} (h : AtN n H us done) (k : ∀ t p j, H t = some (Tn p j) → H' t = some (Tn p j)) (hu : H' u = some (TN n p.2)) : AtN n H' (us ++ [u]) (done ++ [p]) := by
 obtain ⟨hl, ha⟩ := h
 refine ⟨by rw [List.length_append, List.length_append, hl]; rfl, fun j v x hv hx => ?_⟩
 by_cases hj : j < us.length
 ·rw [List.getElem?_append_left hj] at hv
  rw [List.getElem?_append_left (by omega)] at hx
  exact k _ _ _ (ha j v x hv hx)
 ·rw [List.getElem?_append_right (by omega)] at hv hx
  have hj2 : j - us.length = 0 := by
   have := (List.getElem?_eq_some_iff.mp hv).1
   simp at this
   omega
  have hj3 : j - done.length = 0 := by omega
  rw [hj2] at hv
  rw [hj3] at hx
  cases hv
  cases hx
  exact hu
section
variable {X : Cx} {tg : Expr} {ifs : List Expr} {inner : Sem Unit} {σ : St} {H : Hp} {a b : Addr} {xs ys : List V} {after : St → Hp → Prop}
theorem clause_listP (Pv : Nat → St → Hp → Prop) (h0 : Pv 0 σ H) (hl : ∀ i σ' H', i ≤ xs.length → Pv i σ' H' → SqL X.K H' a xs)
  (hs : ∀ i x σ' H', xs[i]? = some x → Pv i σ' H' → Eg X tg x σ' H' fun σ2 H3 => Ei X ifs σ2 H3 fun b H4 => if b = true then Ein X inner σ2 H4 (Pv (i + 1)) else Pv (i + 1) σ2 H4)
  (hd : ∀ σ' H', Pv xs.length σ' H' → after σ' H') : ClauseL X tg ifs inner (Itl X.K a) after σ H := by
 refine ⟨fun i m σ' H' => m = xs.length - i ∧ i ≤ xs.length ∧ Pv i σ' H', ⟨_, rfl, Nat.zero_le _, h0⟩, ?_⟩
 rintro i m σ' H' ⟨rfl, hi, p⟩
 have q := hl i σ' H' hi p
 by_cases hlt : i < xs.length
 ·refine .inr ⟨⟨xs, xs[i], q, by simp [hlt]⟩, Pv (i + 1), fun σ' H' p' => ⟨xs.length - (i + 1), by omega, rfl, hlt, p'⟩, fun x H2 y => ?_⟩
  obtain ⟨e, y⟩ := y
  subst e
  exact hs i x σ' _ (y xs q) p
 ·have e : i = xs.length := by omega
  subst e
  exact .inl ⟨⟨xs, q, Nat.le_refl _⟩, hd σ' H' p⟩
theorem clause_zipP (hlen : xs.length = ys.length) (Pv : Nat → St → Hp → Prop) (h0 : Pv 0 σ H) (hl : ∀ i σ' H', i ≤ xs.length → Pv i σ' H' → SqL X.K H' a xs ∧ SqL X.K H' b ys)
  (hs : ∀ i x y T σ' H', xs[i]? = some x → ys[i]? = some y → Pv i σ' H' → H' T = none → Eg X tg (.ref T) σ' (upd H' T (.tup [x, y])) fun σ2 H3 => Ei X ifs σ2 H3 fun b H4 => if b = true then Ein X inner σ2 H4 (Pv (i + 1)) else Pv (i + 1) σ2 H4)
  (hd : ∀ σ' H', Pv xs.length σ' H' → after σ' H') : ClauseL X tg ifs inner (Itz X.K a b) after σ H := by
 refine ⟨fun i m σ' H' => m = xs.length - i ∧ i ≤ xs.length ∧ Pv i σ' H', ⟨_, rfl, Nat.zero_le _, h0⟩, ?_⟩
 rintro i m σ' H' ⟨rfl, hi, p⟩
 obtain ⟨q1, q2⟩ := hl i σ' H' hi p
 by_cases hlt : i < xs.length
 ·refine .inr ⟨⟨xs, ys, xs[i], ys[i], q1, q2, List.getElem?_eq_getElem hlt, List.getElem?_eq_getElem (by omega)⟩, Pv (i + 1), fun σ' H' p' => ⟨xs.length - (i + 1), by omega, rfl, hlt, p'⟩, fun v H2 y => ?_⟩
  obtain ⟨T, x, y, hT, rfl, rfl, y1, y2⟩ := y
  exact hs i x y T σ' _ (y1 xs q1) (y2 ys q2) p hT
 ·have e : i = xs.length := by omega
  subst e
  exact .inl ⟨⟨xs, ys, q1, q2, .inl (Nat.le_refl _)⟩, hd σ' H' p⟩
end
noncomputable def spOrd : Sp := fun vs H Q _ => ∃ (R : Addr) (as : List (Addr × Addr)) (n : Net), vs = [.ref R] ∧ RowsAt H R as n ∧ n.length ≤ 1000 ∧ (ties n).length ≤ 1000 ∧
 ∀ (L : Addr) (ts : List Addr) (H' : Hp), Same H H' → H L = none → H' L = some (.lst (ts.map V.ref)) → AtN n H' ts (seats n) → Q (.ref L) H'
section
variable {P : Program} {w : World} {K : PySem.W.Frag} {mg : Str → Option Value} {base : Heap}
noncomputable abbrev NO1 : List Str := ["rows"]
noncomputable abbrev NO2 : List Str := ["rows", "row", "end"]
theorem scOrder : FnScope NO1 ["rows"] (defScope sOrder) := ⟨rfl, rfl, rfl, by decide +kernel, rfl, by decide +kernel, by decide +kernel⟩
theorem nd_o2 : NO2.Nodup := by decide +kernel
theorem ok_order {f : Addr} {fd : FuncData} (F : Fun K "ends_in_order" "ends_in_order" sOrder f fd) (T : Txt mg)
  (GE : Has P w K mg base 1 "ends_round" ["row"] spEnds) :
  FnOk P w K mg base CX0 2 f fd ["rows"] spOrd := by
 refine F.gb scOrder (fun vs H Q E h => ?_) (fun b0 H vs Q E hr h => ?_)
 ·obtain ⟨R, as, n, rfl, _⟩ := h
  rfl
 obtain ⟨R, as, n, rfl, hR, hn, ht, q⟩ := h
 have nd := scOrder.nd
 have hal := hR.len
 show Run _ _ _ [some (.ref R)] H
 refine run_ret (ev_comp2 (defScope sOrder) NO1 NO2 2 (pi_list pe_ev) (ev_v 0 ⟨R, rfl, ⟨_, SqL.of hR.lst⟩, fun D hD cl C s₀ H₀ ex => ?_⟩))
 refine clause_listP (xs := as.map fun a => V.ref a.1) (fun r σ' H' => (∃ v1 v2, σ' = [some (.ref R)] ++ [v1, v2]) ∧ ∃ ts : List Addr, Same H H' ∧ H' D = some (.lst (ts.map V.ref)) ∧ AtN n H' ts (seats (n.take r))) ⟨⟨none, none, rfl⟩, [], same_new hD _, upd_same, ⟨rfl, fun j u p h => (by cases h)⟩⟩ ?_ ?_ ?_
 ·rintro r σ' H' _ ⟨_, ts, sm, _⟩
  exact SqL.of (sm _ _ hR.lst)
 ·rintro r x σ' H' hx ⟨⟨v1, v2, rfl⟩, ts, sm, eD, AN⟩
  have hi : r < n.length := by
   have := (List.getElem?_eq_some_iff.mp hx).1
   rw [List.length_map] at this
   omega
  obtain ⟨a, ea, eat, et, el, er⟩ := (hR.same sm).at hi
  rw [List.getElem?_map, ea] at hx
  cases hx
  have hrl : (row n r).length ≤ 1000 := Nat.le_trans (row_le n r) ht
  refine eg_name 1 nd_o2 ?_
  refine ei_nil ?_
  rw [if_pos rfl]
  refine ein_next rfl rfl (pi_list pe_ev) (ev_has GE hr (ea_cons (ev_v 1 (ea_nil ⟨a.1, a.2, n[r].1, row n r, rfl, et, el, hrl, fun L us H5 s5 n5 e5 l5 t5 => ⟨L, rfl, ⟨_, SqL.of e5⟩, ?_⟩⟩))))
  have nLD : L ≠ D := fun e => by rw [e, eD] at n5; cases n5
  refine clause_listP (xs := us.map V.ref) (fun p σ' H'' => (∃ v2, σ' = [some (.ref R)] ++ [some (.ref a.1), v2]) ∧ ∃ ts : List Addr, (∀ b o, b ≠ D → H5 b = some o → H'' b = some o) ∧ H'' D = some (.lst (ts.map V.ref)) ∧ AtN n H'' ts (seats (n.take r) ++ rowSeats r ((row n r).take p) 0))
   ⟨⟨_, rfl⟩, ts, fun b o _ h => h, s5 _ _ eD, by simpa [rowSeats] using AN.keep (H' := H5) fun t p j h => s5 _ _ h⟩ ?_ ?_ ?_
  ·rintro p σ' H'' _ ⟨_, ts, kb, _⟩
   exact SqL.of (kb _ _ nLD e5)
  ·rintro p x σ' H'' hx ⟨⟨v2, rfl⟩, ts, kb, eD6, AN6⟩
   rw [List.getElem?_map, Option.map_eq_some_iff] at hx
   obtain ⟨te, hte, rfl⟩ := hx
   have hp : p < (row n r).length := by have := (List.getElem?_eq_some_iff.mp hte).1; omega
   have hz : (row n r)[p]? = some (row n r)[p] := List.getElem?_eq_getElem hp
   generalize (row n r)[p] = z at hz
   have e5t := t5 p te hte
   have nte : te ≠ D := ne_of e5t (s5 _ _ eD) fun z => nomatch z
   have ete := kb _ _ nte e5t
   obtain ⟨rest, hsp⟩ := seats_split hi hz
   have hlen : ts.length < 1000 := by
    have h1 : (seats n).length = (ties n).length := by
     have := congrArg List.length (seats_names n 0)
     rw [List.length_map] at this
     exact this
    have h2 := congrArg List.length hsp
    rw [List.length_append, List.length_cons] at h2
    have := AN6.1
    omega
   refine eg_name 2 nd_o2 ?_
   refine ei_nil ?_
   rw [if_pos rfl]
   refine ein_emit (ev_v 2 ⟨ts.map V.ref, eD6, by rw [List.length_map]; exact small' (by omega), ⟨_, rfl⟩, ts ++ [te], fun b o hb h => by rw [upd_ne hb]; exact kb b o hb h, by rw [upd_same, List.map_append]; rfl, ?_⟩)
   rw [rowSeats_take hz, ← List.append_assoc]
   refine AN6.snoc (fun t p j h => by rw [upd_ne (ne_of h eD6 fun z => nomatch z)]; exact h) ?_
   rw [upd_ne nte]
   show H'' te = some (Tn (nameAt n r) p)
   rw [nameAt_eq hi]
   exact ete
  ·rintro σ' H'' ⟨⟨v2, rfl⟩, ts, kb, eD6, AN6⟩
   refine ⟨⟨_, _, rfl⟩, ts, fun b o h => kb b o (ne_of_none h hD) (s5 _ _ (sm _ _ h)), eD6, ?_⟩
   rw [List.length_map, l5, List.take_length, ← seats_take hi] at AN6
   exact AN6
 ·rintro σ' H' ⟨_, ts, sm, eD, AN⟩
  rw [List.length_map, hal, List.take_length] at AN
  exact q D ts H' sm hD eD AN
end
section
variable {X : Cx} {H : Hp}
theorem eqD_str {k : Nat} (z : Str) : EqD X H k (.str z) (.str z) true := by
 have := eqD_flat (X := X) (H := H) (k := k) (x := .str z) (y := .str z) rfl rfl
 have e : eqV (.str z) (.str z) = true := by show (z == z) = true; simp
 rw [e] at this
 exact this
theorem eqs_tn {p p' : Str} {j j' : Int} : ∀ (i : Nat) (u v : V), [V.str p, .int j][i]? = some u → [V.str p', .int j'][i]? = some v → EqD X H 0 u v (if i = 0 then eqV (.str p) (.str p') else eqV (.int j) (.int j'))
 | 0, u, v, h1, h2 => by
  cases h1
  cases h2
  exact eqD_flat rfl rfl
 | 1, u, v, h1, h2 => by
  cases h1
  cases h2
  exact eqD_flat rfl rfl
 | i + 2, u, v, h1, h2 => by simp at h1
theorem dec_tn (p p' : Str) (j j' : Int) : (eqV (.str p) (.str p') && eqV (.int j) (.int j')) = decide (p = p' ∧ j = j') := by
 show ((p == p') && (j == j')) = _
 by_cases h : p = p' <;> by_cases h2 : j = j' <;> simp [h, h2]
theorem rnD_tn {s t : Addr} {p p' : Str} {j j' : Int} (hs : H s = some (Tn p j)) (ht : H t = some (Tn p' j')) : RnD X H 1 (.ref s) (.ref t) (decide (p = p' ∧ j = j')) := by
 have := rnD_tup (X := X) (k := 0) (fun i => if i = 0 then eqV (.str p) (.str p') else eqV (.int j) (.int j')) (SqT.of hs) (SqT.of ht) rfl eqs_tn
 rw [show ([V.str p, .int j].length) = 2 from rfl, all2] at this
 have e := dec_tn p p' j j'
 simp only [if_true] at this
 rw [if_neg (by decide), e] at this
 exact this
theorem rcD_strs {a b : Addr} {zs : List Str} (ha : H a = some (Ls zs)) (hb : H b = some (Ls zs)) : RcD X H 1 (.ref a) (.ref b) true := by
 have q := rcD_list (X := X) (k := 0) (fun _ => true) (SqL.of (K := X.K) ha) (SqL.of (K := X.K) hb) rfl fun j x y hx hy => by
  rw [hx] at hy
  cases hy
  rw [List.getElem?_map, Option.map_eq_some_iff] at hx
  obtain ⟨z, _, rfl⟩ := hx
  exact eqD_str z
 rw [all_true] at q
 exact q
theorem eqD_ref {k : Nat} {a b : Addr} (h : RcD X H k (.ref a) (.ref b) true) : EqD X H k (.ref a) (.ref b) true := by
 by_cases e : a = b
 ·subst e
  exact eqD_same
 ·exact eqD_of e h
theorem rcD_rows {R R' : Addr} {as bs : List (Addr × Addr)} {n : Net} (h : RowsAt H R as n) (g : RowsAt H R' bs n) : RcD X H 3 (.ref R) (.ref R') true := by
 have q := rcD_list (X := X) (k := 2) (fun _ => true) (SqL.of (K := X.K) h.lst) (SqL.of (K := X.K) g.lst) (by rw [List.length_map, List.length_map, h.len, g.len]) fun j x y hx hy => by
  rw [List.getElem?_map, Option.map_eq_some_iff] at hx hy
  obtain ⟨a, ea, rfl⟩ := hx
  obtain ⟨b, eb, rfl⟩ := hy
  have hj : j < n.length := by
   have := (List.getElem?_eq_some_iff.mp ea).1
   have := h.len
   omega
  obtain ⟨q1, q2⟩ := h.tup j a n[j] ea (List.getElem?_eq_getElem hj)
  obtain ⟨q3, q4⟩ := g.tup j b n[j] eb (List.getElem?_eq_getElem hj)
  have t := rcD_tup (X := X) (k := 1) (fun _ => true) (SqT.of (K := X.K) q1) (SqT.of (K := X.K) q3) rfl fun i x y hx hy => by
   match i with
   | 0 => cases hx; cases hy; exact eqD_str _
   | 1 => cases hx; cases hy; exact eqD_ref (rcD_strs q2 q4)
   | i + 2 => simp at hx
  rw [all_true] at t
  exact eqD_ref t
 rw [all_true] at q
 exact q
end
theorem rnD_strs {X : Cx} {H : Hp} {a b : Addr} {zs : List Str} (ha : H a = some (Ls zs)) (hb : H b = some (Ls zs)) : RnD X H 1 (.ref a) (.ref b) true := by
 have q := rnD_list (X := X) (k := 0) (fun _ => true) (SqL.of (K := X.K) ha) (SqL.of (K := X.K) hb) rfl fun j x y hx hy => by
  rw [hx] at hy
  cases hy
  rw [List.getElem?_map, Option.map_eq_some_iff] at hx
  obtain ⟨z, _, rfl⟩ := hx
  exact eqD_str z
 rw [all_true] at q
 exact q
noncomputable def spBE : Sp := fun vs H Q _ => ∃ (R : Addr) (as : List (Addr × Addr)) (n : Net), vs = [.ref R] ∧ RowsAt H R as n ∧ (n.map (·.1)).Nodup ∧ n.length ≤ 1000 ∧ (ties n).length ≤ 1000 ∧
 ∀ (d : Addr) (kvs : List (List Key × V)) (H' : Hp), Same H H' → H d = none → H' d = some (.dT kvs) → (∀ e z, tieAt n e = some z → valV kvs (key n e) = some (.str z)) → Q (.ref d) H'
section
variable {P : Program} {w : World} {K : PySem.W.Frag} {mg : Str → Option Value} {base : Heap}
noncomputable abbrev NB1 : List Str := ["rows"]
noncomputable abbrev NB2 : List Str := ["rows", "row", "end", "tie"]
theorem scBE : FnScope NB1 ["rows"] (defScope sByEnd) := ⟨rfl, rfl, rfl, by decide +kernel, rfl, by decide +kernel, by decide +kernel⟩
theorem nd_b2 : NB2.Nodup := by decide +kernel
theorem ok_BE {f : Addr} {fd : FuncData} (F : Fun K "ties_by_end" "ties_by_end" sByEnd f fd) (T : Txt mg)
  (GE : Has P w K mg base 1 "ends_round" ["row"] spEnds) :
  FnOk P w K mg base CX0 2 f fd ["rows"] spBE := by
 refine F.gb scBE (fun vs H Q E h => ?_) (fun b0 H vs Q E hr h => ?_)
 ·obtain ⟨R, as, n, rfl, _⟩ := h
  rfl
 obtain ⟨R, as, n, rfl, hR, hN, hn, ht, q⟩ := h
 have hal := hR.len
 have hu := hr.u1
 show Run _ _ _ [some (.ref R)] H
 refine run_ret (ev_compDT2 (defScope sByEnd) NB1 NB2 3 (pi_list pe_ev) (ev_v 0 ⟨R, rfl, ⟨_, SqL.of hR.lst⟩, fun D hD cl C s₀ H₀ ex => ?_⟩))
 refine clause_listP (xs := as.map fun a => V.ref a.1) (fun r σ' H' => (∃ v1 v2 v3, σ' = [some (.ref R)] ++ [v1, v2, v3]) ∧ ∃ kvs : List (List Key × V), Same H H' ∧ H' D = some (.dT kvs) ∧ kvs.length ≤ (seats (n.take r)).length ∧ ∀ p ∈ seats (n.take r), tieAt n p.2 = some p.1 ∧ valV kvs (key n p.2) = some (.str p.1)) ⟨⟨none, none, none, rfl⟩, [], same_new hD _, upd_same, Nat.zero_le _, fun p h => (by cases h)⟩ ?_ ?_ ?_
 ·rintro r σ' H' _ ⟨_, kvs, sm, _⟩
  exact SqL.of (sm _ _ hR.lst)
 ·rintro r x σ' H' hx ⟨⟨v1, v2, v3, rfl⟩, kvs, sm, eD, hlk, hkv⟩
  have hi : r < n.length := by
   have := (List.getElem?_eq_some_iff.mp hx).1
   rw [List.length_map] at this
   omega
  obtain ⟨a, ea, eat, et, el, er⟩ := (hR.same sm).at hi
  rw [List.getElem?_map, ea] at hx
  cases hx
  have hrl : (row n r).length ≤ 1000 := Nat.le_trans (row_le n r) ht
  refine eg_name 1 nd_b2 ?_
  refine ei_nil ?_
  rw [if_pos rfl]
  refine ein_nextD rfl rfl (pi_zip rfl T.zip (ta := tEa _ _) pa_ea) ?_
  show Ea _ _ _ _ _
  refine ea_cons (ev_has GE hr (ea_cons (ev_v 1 (ea_nil ⟨a.1, a.2, n[r].1, row n r, rfl, et, el, hrl, fun L us H5 s5 n5 e5 l5 t5 => ?_⟩))))
  refine ea_cons (ev_ix ix_tup (ev_v 1 (ev_int ⟨a.1, _, _, .ref a.2, rfl, rfl, SqT.of (s5 _ _ et), rfl, ea_nil ⟨L, a.2, rfl, ⟨_, SqL.of e5⟩, ⟨_, SqL.of (s5 _ _ el)⟩, ?_⟩⟩)))
  have eD5 := s5 _ _ eD
  have el5 := s5 _ _ el
  refine clause_zipP (xs := us.map V.ref) (ys := (row n r).map V.str) (by rw [List.length_map, List.length_map, l5]) (fun p σ' H'' => (∃ v2 v3, σ' = [some (.ref R)] ++ [some (.ref a.1), v2, v3]) ∧ ∃ kvs : List (List Key × V), (∀ b o, b ≠ D → H5 b = some o → H'' b = some o) ∧ H'' D = some (.dT kvs) ∧ kvs.length ≤ (seats (n.take r) ++ rowSeats r ((row n r).take p) 0).length ∧ ∀ x ∈ seats (n.take r) ++ rowSeats r ((row n r).take p) 0, tieAt n x.2 = some x.1 ∧ valV kvs (key n x.2) = some (.str x.1))
   ⟨⟨_, _, rfl⟩, kvs, fun b o _ h => h, eD5, by simpa [rowSeats] using hlk, by simpa [rowSeats] using hkv⟩ ?_ ?_ ?_
  ·rintro p σ' H'' _ ⟨_, kvs, kb, _⟩
   exact ⟨SqL.of (kb _ _ (ne_of e5 eD5 fun z => nomatch z) e5), SqL.of (kb _ _ (ne_of el5 eD5 fun z => nomatch z) el5)⟩
  ·rintro p x y Tt σ' H'' hx hy ⟨⟨v2, v3, rfl⟩, kvs, kb, eD6, hlk6, hkv6⟩ hTt
   rw [List.getElem?_map, Option.map_eq_some_iff] at hx hy
   obtain ⟨te, hte, rfl⟩ := hx
   obtain ⟨z, hz, rfl⟩ := hy
   have e5t := t5 p te hte
   have nte : te ≠ D := ne_of e5t eD5 fun z => nomatch z
   have ete := kb _ _ nte e5t
   have htz : tieAt n (r, p) = some z := hz
   obtain ⟨rest, hsp⟩ := seats_split hi hz
   have hlen : (seats (n.take r) ++ rowSeats r ((row n r).take p) 0).length < 1000 := by
    have h1 : (seats n).length = (ties n).length := by
     have := congrArg List.length (seats_names n 0)
     rw [List.length_map] at this
     exact this
    have h2 := congrArg List.length hsp
    rw [List.length_append, List.length_cons] at h2
    omega
   have nTD : Tt ≠ D := fun e => by rw [e, eD6] at hTt; cases hTt
   have s7 := same_new hTt (.tup [.ref te, .str z])
   refine eg_pair rfl (SqT.of upd_same) (eg_name 2 nd_b2 (eg_name 3 nd_b2 ?_))
   refine ei_nil ?_
   rw [if_pos rfl]
   have ete7 : (upd H'' Tt (.tup [.ref te, .str z])) te = some (.tup ((key n (r, p)).map kV)) := by
    rw [s7 _ _ ete]
    show some (Tn n[r].1 (p : Int)) = some (Tn (nameAt n r) (p : Int))
    rw [nameAt_eq hi]
   refine ein_emitD hu (ev_v 2 (ev_v 3 ⟨_, DPut.t (k := key n (r, p)) (s7 _ _ eD6) ete7 (small' (by omega)), ⟨_, _, rfl⟩, _, fun b o hb h => ?_, upd_same, ?_, ?_⟩))
   ·rw [upd_ne hb]
    exact s7 _ _ (kb b o hb h)
   ·rw [rowSeats_take hz, ← List.append_assoc, List.length_append]
    have := length_putK kvs (key n (r, p)) (.str z)
    show _ ≤ _ + 1
    omega
   ·rw [rowSeats_take hz, ← List.append_assoc]
    intro x hx
    rcases List.mem_append.mp hx with h | h
    ·obtain ⟨q1, q2⟩ := hkv6 x h
     refine ⟨q1, ?_⟩
     rw [valV_put]
     by_cases hk : key n x.2 = key n (r, p)
     ·rw [if_pos hk]
      have := key_inj hN (row_lt q1) (row_lt htz) hk
      rw [this, htz] at q1
      rw [Option.some.inj q1]
     ·rw [if_neg hk]
      exact q2
    ·rw [List.mem_singleton.mp h]
     exact ⟨htz, by rw [valV_put, if_pos rfl]⟩
  ·rintro σ' H'' ⟨⟨v2, v3, rfl⟩, kvs, kb, eD6, hlk6, hkv6⟩
   rw [List.length_map, l5, List.take_length, ← seats_take hi] at hlk6 hkv6
   exact ⟨⟨_, _, _, rfl⟩, kvs, fun b o h => kb b o (ne_of_none h hD) (s5 _ _ (sm _ _ h)), eD6, hlk6, hkv6⟩
 ·rintro σ' H' ⟨_, kvs, sm, eD, hlk, hkv⟩
  rw [List.length_map, hal, List.take_length] at hkv
  exact q D kvs H' sm hD eD fun e z he => (hkv (z, e) (mem_seats.mpr he)).2
theorem k_ll (K : PySem.W.Frag) : PySem.W.kitOne K (.type "list") (.type "list") = some true := by rfl
theorem k_ss (K : PySem.W.Frag) : PySem.W.kitOne K (.type "str") (.type "str") = some true := by rfl
end
end M2
namespace M2
open PySem L2 Nt Sort2
theorem valV_atG {κ : Type} [DecidableEq κ] : ∀ {kvs : List (κ × V)} {i : Nat} {p : κ × V}, (kvs.map (·.1)).Nodup → kvs[i]? = some p → valV kvs p.1 = some p.2
 | [], _, _, _, h => by simp at h
 | q :: r, 0, p, _, h => by
  cases h
  exact valV_pos rfl
 | q :: r, i + 1, p, hn, h => by
  rw [List.map_cons, List.nodup_cons] at hn
  have hm : r[i]? = some p := by simpa using h
  rw [valV_neg fun e => hn.1 (by rw [e]; exact List.mem_map.mpr ⟨p, List.mem_of_getElem? hm, rfl⟩)]
  exact valV_atG hn.2 hm
theorem nd_idx {κ : Type} {l : List κ} (h : l.Nodup) {i j : Nat} {a : κ} (hi : l[i]? = some a) (hj : l[j]? = some a) : i = j := by
 have h1 := (List.getElem?_eq_some_iff.mp hi).1
 have h2 := (List.getElem?_eq_some_iff.mp hj).1
 have e1 := (List.getElem?_eq_some_iff.mp hi).2
 have e2 := (List.getElem?_eq_some_iff.mp hj).2
 rcases Nat.lt_trichotomy i j with c | c | c
 ·exact absurd (e1.trans e2.symm) (List.pairwise_iff_getElem.mp h i j h1 h2 c)
 ·exact c
 ·exact absurd (e2.trans e1.symm) (List.pairwise_iff_getElem.mp h j i h2 h1 c)
noncomputable def spLS (c : Int) : Sp := fun vs H Q _ => ∃ (R : Addr) (as : List (Addr × Addr)) (n : Net), vs = [.ref R] ∧ RowsAt H R as n ∧ (n.map (·.1)).Nodup ∧ Twice n ∧ n.length ≤ 1000 ∧ (ties n).length ≤ 1000 ∧
 ∀ (d : Addr) (kvs : List (List Key × V)) (H' : Hp), Same H H' → H d = none → H' d = some (.dT kvs) → (∀ e ∈ ends n, ∃ u, valV kvs (key n e) = some (.ref u) ∧ H' u = some (TN n (go c n e))) → Q (.ref d) H'
section
variable {P : Program} {w : World} {K : PySem.W.Frag} {mg : Str → Option Value} {base : Heap}
noncomputable abbrev NLs1 : List Str := ["rows", "lists"]
noncomputable abbrev NLs2 : List Str := ["rows", "lists", "end", "other"]
theorem nd_ls2 : NLs2.Nodup := by decide +kernel
theorem scLS : FnScope NLs1 ["rows"] (defScope sLS) := ⟨rfl, rfl, rfl, by decide +kernel, rfl, by decide +kernel, by decide +kernel⟩
theorem ok_LS {f : Addr} {fd : FuncData} (F : Fun K "left_steps" "left_steps" sLS f fd) (T : Txt mg)
  (GO : Has P w K mg base 2 "other_ends" ["rows"] spOE)
  (GT : Has P w K mg base 2 "turned_left" ["end", "many"] (spTL fun j => j + 1)) :
  FnOk P w K mg base CX0 3 f fd ["rows"] (spLS (1)) := by
 refine F.gb scLS (fun vs H Q E h => ?_) (fun b0 H vs Q E hr h => ?_)
 ·obtain ⟨R, as, n, rfl, _⟩ := h
  rfl
 obtain ⟨R, as, n, rfl, hR, hN, hT, hn, ht, q⟩ := h
 have nd := scLS.nd
 have hal := hR.len
 have hu := hr.u1
 show Run _ _ _ [some (.ref R), none] H
 have keys := rowKvs_keys n as hal
 have knd : ((rowKvs n as).map (·.1)).Nodup := by rw [keys]; exact nodup_inr hN
 have klen : (rowKvs n as).length = n.length := by have := congrArg List.length keys; simpa using this
 refine run_set 1 nd (ev_typ (call_dict_list rfl) T.tdict PyProof.Rows.boot_dict (ea_cons (ev_v 0 (ea_nil ⟨R, as.map (·.1), rowKvs n as, rfl, ?_, ?_, ?_, ?_, fun dl hdl => ?_⟩))))
 ·rw [List.map_map]
  exact hR.lst
 ·rw [List.length_map, klen, hal]
 ·rw [List.length_map]
  exact small' (by omega)
 ·intro j t kv h1 h2
  rw [List.getElem?_map, Option.map_eq_some_iff] at h1
  obtain ⟨a, ea, rfl⟩ := h1
  have hj : j < n.length := by have := (List.getElem?_eq_some_iff.mp ea).1; omega
  have e := rowKvs_at (List.getElem?_eq_getElem hj) ea
  rw [h2] at e
  cases e
  exact (hR.tup j a n[j] ea (List.getElem?_eq_getElem hj)).1
 have ef : (rowKvs n as).foldl (fun a p => putK a p.1 p.2) [] = rowKvs n as := by
  rw [fold_new (acc := []) (by rw [List.nil_append]; exact knd), List.nil_append]
 rw [ef]
 have s1 := same_new hdl (.dK (rowKvs n as))
 have el : (upd H dl (.dK (rowKvs n as))) dl = some (.dK (rowKvs n as)) := upd_same
 generalize upd H dl (.dK (rowKvs n as)) = H1 at s1 el
 show Run _ _ _ [some (.ref R), some (.ref dl)] H1
 refine run_ret (ev_compDT (defScope sLS) NLs1 NLs2 2 (pi_items pe_ev) ?_)
 refine ev_has GO hr (ea_cons (ev_v 0 (ea_nil ⟨R, as, n, rfl, hR.same s1, hN, hT, hn, ht, fun d kvs H2 s2 nd2 ed val knd2 kks klen2 => ?_⟩)))
 refine ⟨d, kvs, rfl, ed, fun o D hD cl C s₀ H₀ ex => ?_⟩
 have nDd : D ≠ d := fun e => by rw [e, upd_same] at hD; cases hD
 have hD2 : H2 D = none := by rw [upd_ne nDd] at hD; exact hD
 have hd0 : H d = none := free_back s1 nd2
 have sB : Same H (upd H2 d (.frz o (.dT kvs))) := same_mut (s1.trans s2) hd0
 have kB : ∀ b o', b ≠ d → H2 b = some o' → (upd H2 d (.frz o (.dT kvs))) b = some o' := fun b o' hb h => by rw [upd_ne hb]; exact h
 have tB : ∀ b p j, H2 b = some (Tn p j) → (upd H2 d (.frz o (.dT kvs))) b = some (Tn p j) := fun b p j h => kB b _ (tup_ne_dT h ed) h
 have edB : (upd H2 d (.frz o (.dT kvs))) d = some (.frz o (.dT kvs)) := upd_same
 have elB : (upd H2 d (.frz o (.dT kvs))) dl = some (.dK (rowKvs n as)) := kB _ _ (fun e => by rw [e, nd2] at el; cases el) (s2 _ _ el)
 have hRB := hR.same sB
 generalize upd H2 d (.frz o (.dT kvs)) = HB at hD sB tB edB elB hRB
 have hD0 := free_back sB hD
 refine clause_itemsP (fun i σ' H' => (∃ v1 v2, σ' = [some (.ref R), some (.ref dl)] ++ [v1, v2]) ∧ ∃ kv2 : List (List Key × V), H' D = some (.dT kv2) ∧ kv2.length ≤ i ∧ Same HB H' ∧
  (∀ j k x e, j < i → kvs[j]? = some (k, x) → e ∈ ends n → k = key n e → ∃ u, valV kv2 (key n e) = some (.ref u) ∧ H' u = some (TN n (go (1) n e))))
  ⟨⟨none, none, rfl⟩, [], upd_same, Nat.le_refl _, same_new hD _, fun j k x e h => absurd h (Nat.not_lt_zero _)⟩ ?_ ?_ ?_
 ·rintro i σ' H' _ ⟨_, _, _, _, sm, _⟩
  exact sm _ _ edB
 ·rintro i k x b Tt σ' H' hx ⟨⟨v1, v2, rfl⟩, kv2, eD, l2, sm, all⟩ hb hTt
  have hi : i < kvs.length := (List.getElem?_eq_some_iff.mp hx).1
  obtain ⟨e, he, rfl⟩ := kks k (List.mem_map.mpr ⟨_, List.mem_of_getElem? hx, rfl⟩)
  obtain ⟨u, hv, hu2⟩ := val e he
  have hx2 : valV kvs (key n e) = some x := valV_atG knd2 hx
  rw [hv] at hx2
  cases hx2
  have hob := other_end hT he
  obtain ⟨zo, hzo⟩ := mem_ends.mp hob
  have hrl := row_lt hzo
  have hel := end_lt hzo
  have nmE : nameAt n (other n e).1 = n[(other n e).1].1 := nameAt_eq hrl
  have sT := same_new hTt (.tup [.ref b, .ref u])
  have huT := sT _ _ (sm _ _ (tB _ _ _ hu2))
  refine eg_pair rfl (SqT.of upd_same) (eg_name 2 nd_ls2 (eg_name 3 nd_ls2 ?_))
  refine ei_nil ?_
  rw [if_pos rfl]
  have eai : as[(other n e).1]? = some (as[(other n e).1]'(by omega)) := List.getElem?_eq_getElem (by omega)
  have hni : n[(other n e).1]? = some n[(other n e).1] := List.getElem?_eq_getElem hrl
  have ev : valV (rowKvs n as) (Sum.inr (nameAt n (other n e).1)) = some (.ref (as[(other n e).1]'(by omega)).2) := by rw [nmE]; exact valV_at knd (rowKvs_at hni eai)
  have hrow := (hR.tup _ _ _ eai hni).2
  have erow : row n (other n e).1 = n[(other n e).1].2 := row_eq hrl
  refine ein_emitD hu (ev_v 2 (ev_has GT hr (ea_cons (ev_v 3 (ea_cons (ev_blt call_len_seq T.len boot_len (ea_cons (ev_dget hu (ev_v 1 (ev_ix ix_tup (ev_v 3 (ev_int ⟨u, _, _, .str (nameAt n (other n e).1), rfl, rfl, SqT.of huT, rfl, ?_⟩))))))))))))
  refine ⟨dl, .ref (as[(other n e).1]'(by omega)).2, rfl, by rw [← ev]; exact DGet.k (k := Sum.inr (nameAt n (other n e).1)) (sT _ _ (sm _ _ elB)), ea_nil ⟨_, _, rfl, .inl (SqL.of (sT _ _ (sm _ _ (sB _ _ hrow)))), ea_nil ⟨u, _, _, _, rfl, huT, ?_, fun t2 H4 s4 et2 => ?_⟩⟩⟩
  ·rw [List.length_map, ← erow]
   omega
  rw [List.length_map, ← erow] at et2
  have et3 : H4 t2 = some (TN n (go (1) n e)) := by
   rw [et2]
   have := rnd_int (c := 1) hob
   show some (Tn _ _) = some (Tn _ (((go (1) n e).2 : Nat) : Int))
   unfold go
   rw [this]
   rfl
  have hb4 := s4 _ _ (sT _ _ hb)
  refine ⟨_, DPut.t (k := key n e) (s4 _ _ (sT _ _ eD)) hb4 (small' (by omega)), ⟨_, _, rfl⟩, _, upd_same, ?_, same_mut ((sm.trans sT).trans s4) hD, fun j k' x' e' hj hx' he' hk' => ?_⟩
  ·have := length_putK kv2 (key n e) (.ref t2)
   omega
  ·subst hk'
   by_cases hji : j = i
   ·subst hji
    rw [hx] at hx'
    have hke : key n e = key n e' := congrArg Prod.fst (Option.some.inj hx')
    obtain ⟨z1, hz1⟩ := mem_ends.mp he
    obtain ⟨z2, hz2⟩ := mem_ends.mp he'
    have := key_inj hN (row_lt hz1) (row_lt hz2) hke
    subst this
    exact ⟨t2, by rw [valV_put, if_pos rfl], by rw [upd_ne (tup_ne_dT et3 (s4 _ _ (sT _ _ eD)))]; exact et3⟩
   ·obtain ⟨u3, hu3, hu4⟩ := all j _ x' e' (by omega) hx' he' rfl
    refine ⟨u3, ?_, ?_⟩
    ·rw [valV_put, if_neg, hu3]
     intro hk
     have h1 : (kvs.map (·.1))[j]? = some (key n e') := by rw [List.getElem?_map, hx']; rfl
     have h2 : (kvs.map (·.1))[i]? = some (key n e') := by rw [List.getElem?_map, hx, hk]; rfl
     exact hji (nd_idx knd2 h1 h2)
    ·have q4 := s4 _ _ (sT _ _ hu4)
     rw [upd_ne (tup_ne_dT q4 (s4 _ _ (sT _ _ eD)))]
     exact q4
 ·rintro σ' H' ⟨_, kv2, eD, _, sm, all⟩
  refine q D kv2 H' (sB.trans sm) hD0 eD fun e he => ?_
  obtain ⟨u, hv, _⟩ := val e he
  obtain ⟨i, hi⟩ : ∃ i : Nat, (kvs.map (·.1))[i]? = some (key n e) := List.getElem?_of_mem (valV_in hv)
  rw [List.getElem?_map, Option.map_eq_some_iff] at hi
  obtain ⟨⟨k, x⟩, hx, hk⟩ := hi
  exact all i k x e (List.getElem?_eq_some_iff.mp hx).1 hx he hk
theorem scRS : FnScope NLs1 ["rows"] (defScope sRS) := ⟨rfl, rfl, rfl, by decide +kernel, rfl, by decide +kernel, by decide +kernel⟩
theorem ok_RS {f : Addr} {fd : FuncData} (F : Fun K "right_steps" "right_steps" sRS f fd) (T : Txt mg)
  (GO : Has P w K mg base 2 "other_ends" ["rows"] spOE)
  (GT : Has P w K mg base 2 "turned_right" ["end", "many"] (spTL fun j => j - 1)) :
  FnOk P w K mg base CX0 3 f fd ["rows"] (spLS (-1)) := by
 refine F.gb scRS (fun vs H Q E h => ?_) (fun b0 H vs Q E hr h => ?_)
 ·obtain ⟨R, as, n, rfl, _⟩ := h
  rfl
 obtain ⟨R, as, n, rfl, hR, hN, hT, hn, ht, q⟩ := h
 have nd := scRS.nd
 have hal := hR.len
 have hu := hr.u1
 show Run _ _ _ [some (.ref R), none] H
 have keys := rowKvs_keys n as hal
 have knd : ((rowKvs n as).map (·.1)).Nodup := by rw [keys]; exact nodup_inr hN
 have klen : (rowKvs n as).length = n.length := by have := congrArg List.length keys; simpa using this
 refine run_set 1 nd (ev_typ (call_dict_list rfl) T.tdict PyProof.Rows.boot_dict (ea_cons (ev_v 0 (ea_nil ⟨R, as.map (·.1), rowKvs n as, rfl, ?_, ?_, ?_, ?_, fun dl hdl => ?_⟩))))
 ·rw [List.map_map]
  exact hR.lst
 ·rw [List.length_map, klen, hal]
 ·rw [List.length_map]
  exact small' (by omega)
 ·intro j t kv h1 h2
  rw [List.getElem?_map, Option.map_eq_some_iff] at h1
  obtain ⟨a, ea, rfl⟩ := h1
  have hj : j < n.length := by have := (List.getElem?_eq_some_iff.mp ea).1; omega
  have e := rowKvs_at (List.getElem?_eq_getElem hj) ea
  rw [h2] at e
  cases e
  exact (hR.tup j a n[j] ea (List.getElem?_eq_getElem hj)).1
 have ef : (rowKvs n as).foldl (fun a p => putK a p.1 p.2) [] = rowKvs n as := by
  rw [fold_new (acc := []) (by rw [List.nil_append]; exact knd), List.nil_append]
 rw [ef]
 have s1 := same_new hdl (.dK (rowKvs n as))
 have el : (upd H dl (.dK (rowKvs n as))) dl = some (.dK (rowKvs n as)) := upd_same
 generalize upd H dl (.dK (rowKvs n as)) = H1 at s1 el
 show Run _ _ _ [some (.ref R), some (.ref dl)] H1
 refine run_ret (ev_compDT (defScope sRS) NLs1 NLs2 2 (pi_items pe_ev) ?_)
 refine ev_has GO hr (ea_cons (ev_v 0 (ea_nil ⟨R, as, n, rfl, hR.same s1, hN, hT, hn, ht, fun d kvs H2 s2 nd2 ed val knd2 kks klen2 => ?_⟩)))
 refine ⟨d, kvs, rfl, ed, fun o D hD cl C s₀ H₀ ex => ?_⟩
 have nDd : D ≠ d := fun e => by rw [e, upd_same] at hD; cases hD
 have hD2 : H2 D = none := by rw [upd_ne nDd] at hD; exact hD
 have hd0 : H d = none := free_back s1 nd2
 have sB : Same H (upd H2 d (.frz o (.dT kvs))) := same_mut (s1.trans s2) hd0
 have kB : ∀ b o', b ≠ d → H2 b = some o' → (upd H2 d (.frz o (.dT kvs))) b = some o' := fun b o' hb h => by rw [upd_ne hb]; exact h
 have tB : ∀ b p j, H2 b = some (Tn p j) → (upd H2 d (.frz o (.dT kvs))) b = some (Tn p j) := fun b p j h => kB b _ (tup_ne_dT h ed) h
 have edB : (upd H2 d (.frz o (.dT kvs))) d = some (.frz o (.dT kvs)) := upd_same
 have elB : (upd H2 d (.frz o (.dT kvs))) dl = some (.dK (rowKvs n as)) := kB _ _ (fun e => by rw [e, nd2] at el; cases el) (s2 _ _ el)
 have hRB := hR.same sB
 generalize upd H2 d (.frz o (.dT kvs)) = HB at hD sB tB edB elB hRB
 have hD0 := free_back sB hD
 refine clause_itemsP (fun i σ' H' => (∃ v1 v2, σ' = [some (.ref R), some (.ref dl)] ++ [v1, v2]) ∧ ∃ kv2 : List (List Key × V), H' D = some (.dT kv2) ∧ kv2.length ≤ i ∧ Same HB H' ∧
  (∀ j k x e, j < i → kvs[j]? = some (k, x) → e ∈ ends n → k = key n e → ∃ u, valV kv2 (key n e) = some (.ref u) ∧ H' u = some (TN n (go (-1) n e))))
  ⟨⟨none, none, rfl⟩, [], upd_same, Nat.le_refl _, same_new hD _, fun j k x e h => absurd h (Nat.not_lt_zero _)⟩ ?_ ?_ ?_
 ·rintro i σ' H' _ ⟨_, _, _, _, sm, _⟩
  exact sm _ _ edB
 ·rintro i k x b Tt σ' H' hx ⟨⟨v1, v2, rfl⟩, kv2, eD, l2, sm, all⟩ hb hTt
  have hi : i < kvs.length := (List.getElem?_eq_some_iff.mp hx).1
  obtain ⟨e, he, rfl⟩ := kks k (List.mem_map.mpr ⟨_, List.mem_of_getElem? hx, rfl⟩)
  obtain ⟨u, hv, hu2⟩ := val e he
  have hx2 : valV kvs (key n e) = some x := valV_atG knd2 hx
  rw [hv] at hx2
  cases hx2
  have hob := other_end hT he
  obtain ⟨zo, hzo⟩ := mem_ends.mp hob
  have hrl := row_lt hzo
  have hel := end_lt hzo
  have nmE : nameAt n (other n e).1 = n[(other n e).1].1 := nameAt_eq hrl
  have sT := same_new hTt (.tup [.ref b, .ref u])
  have huT := sT _ _ (sm _ _ (tB _ _ _ hu2))
  refine eg_pair rfl (SqT.of upd_same) (eg_name 2 nd_ls2 (eg_name 3 nd_ls2 ?_))
  refine ei_nil ?_
  rw [if_pos rfl]
  have eai : as[(other n e).1]? = some (as[(other n e).1]'(by omega)) := List.getElem?_eq_getElem (by omega)
  have hni : n[(other n e).1]? = some n[(other n e).1] := List.getElem?_eq_getElem hrl
  have ev : valV (rowKvs n as) (Sum.inr (nameAt n (other n e).1)) = some (.ref (as[(other n e).1]'(by omega)).2) := by rw [nmE]; exact valV_at knd (rowKvs_at hni eai)
  have hrow := (hR.tup _ _ _ eai hni).2
  have erow : row n (other n e).1 = n[(other n e).1].2 := row_eq hrl
  refine ein_emitD hu (ev_v 2 (ev_has GT hr (ea_cons (ev_v 3 (ea_cons (ev_blt call_len_seq T.len boot_len (ea_cons (ev_dget hu (ev_v 1 (ev_ix ix_tup (ev_v 3 (ev_int ⟨u, _, _, .str (nameAt n (other n e).1), rfl, rfl, SqT.of huT, rfl, ?_⟩))))))))))))
  refine ⟨dl, .ref (as[(other n e).1]'(by omega)).2, rfl, by rw [← ev]; exact DGet.k (k := Sum.inr (nameAt n (other n e).1)) (sT _ _ (sm _ _ elB)), ea_nil ⟨_, _, rfl, .inl (SqL.of (sT _ _ (sm _ _ (sB _ _ hrow)))), ea_nil ⟨u, _, _, _, rfl, huT, ?_, fun t2 H4 s4 et2 => ?_⟩⟩⟩
  ·rw [List.length_map, ← erow]
   omega
  rw [List.length_map, ← erow] at et2
  have et3 : H4 t2 = some (TN n (go (-1) n e)) := by
   rw [et2]
   have := rnd_int (c := -1) hob
   show some (Tn _ _) = some (Tn _ (((go (-1) n e).2 : Nat) : Int))
   unfold go
   rw [this]
   rfl
  have hb4 := s4 _ _ (sT _ _ hb)
  refine ⟨_, DPut.t (k := key n e) (s4 _ _ (sT _ _ eD)) hb4 (small' (by omega)), ⟨_, _, rfl⟩, _, upd_same, ?_, same_mut ((sm.trans sT).trans s4) hD, fun j k' x' e' hj hx' he' hk' => ?_⟩
  ·have := length_putK kv2 (key n e) (.ref t2)
   omega
  ·subst hk'
   by_cases hji : j = i
   ·subst hji
    rw [hx] at hx'
    have hke : key n e = key n e' := congrArg Prod.fst (Option.some.inj hx')
    obtain ⟨z1, hz1⟩ := mem_ends.mp he
    obtain ⟨z2, hz2⟩ := mem_ends.mp he'
    have := key_inj hN (row_lt hz1) (row_lt hz2) hke
    subst this
    exact ⟨t2, by rw [valV_put, if_pos rfl], by rw [upd_ne (tup_ne_dT et3 (s4 _ _ (sT _ _ eD)))]; exact et3⟩
   ·obtain ⟨u3, hu3, hu4⟩ := all j _ x' e' (by omega) hx' he' rfl
    refine ⟨u3, ?_, ?_⟩
    ·rw [valV_put, if_neg, hu3]
     intro hk
     have h1 : (kvs.map (·.1))[j]? = some (key n e') := by rw [List.getElem?_map, hx']; rfl
     have h2 : (kvs.map (·.1))[i]? = some (key n e') := by rw [List.getElem?_map, hx, hk]; rfl
     exact hji (nd_idx knd2 h1 h2)
    ·have q4 := s4 _ _ (sT _ _ hu4)
     rw [upd_ne (tup_ne_dT q4 (s4 _ _ (sT _ _ eD)))]
     exact q4
 ·rintro σ' H' ⟨_, kv2, eD, _, sm, all⟩
  refine q D kv2 H' (sB.trans sm) hD0 eD fun e he => ?_
  obtain ⟨u, hv, _⟩ := val e he
  obtain ⟨i, hi⟩ : ∃ i : Nat, (kvs.map (·.1))[i]? = some (key n e) := List.getElem?_of_mem (valV_in hv)
  rw [List.getElem?_map, Option.map_eq_some_iff] at hi
  obtain ⟨⟨k, x⟩, hx, hk⟩ := hi
  exact all i k x e (List.getElem?_eq_some_iff.mp hx).1 hx he hk
end
end M2
namespace M2
open PySem L2 Nt Sort2
noncomputable def AtE (n : Net) (H : Hp) (ts : List Addr) (es : List Nt.End) : Prop := ts.length = es.length ∧ ∀ (j : Nat) t e, ts[j]? = some t → es[j]? = some e → H t = some (TN n e)
theorem AtE.keep {n : Net} {H H' : Hp} {ts : List Addr} {es : List Nt.End} (h : AtE n H ts es) (k : ∀ t p j, H t = some (Tn p j) → H' t = some (Tn p j)) : AtE n H' ts es := ⟨h.1, fun j t e h1 h2 => k _ _ _ (h.2 j t e h1 h2)⟩
theorem AtE.same {n : Net} {H H' : Hp} {ts : List Addr} {es : List Nt.End} (h : AtE n H ts es) (s : Same H H') : AtE n H' ts es := h.keep fun _ _ _ q => s _ _ q
theorem AtE.append {n : Net} {H : Hp} {ts us : List Addr} {es fs : List Nt.End} (h : AtE n H ts es) (g : AtE n H us fs) : AtE n H (ts ++ us) (es ++ fs) := by
 refine ⟨by rw [List.length_append, List.length_append, h.1, g.1], fun j t e h1 h2 => ?_⟩
 have hl := h.1
 by_cases hj : j < ts.length
 ·rw [List.getElem?_append_left hj] at h1
  rw [List.getElem?_append_left (by omega)] at h2
  exact h.2 j t e h1 h2
 ·rw [List.getElem?_append_right (by omega)] at h1 h2
  rw [← hl] at h2
  exact g.2 _ t e h1 h2
theorem AtE.two {n : Net} {H : Hp} {t u : Addr} {a b : Nt.End} (h1 : H t = some (TN n a)) (h2 : H u = some (TN n b)) : AtE n H [t, u] [a, b] := ⟨rfl, fun j x e h3 h4 => by
 match j with
 | 0 => cases h3; cases h4; exact h1
 | 1 => cases h3; cases h4; exact h2
 | j + 2 => simp at h3⟩
theorem tn_eq {n : Net} (hN : (n.map (·.1)).Nodup) {a b : Nt.End} (ha : a ∈ ends n) (hb : b ∈ ends n) : decide (nameAt n a.1 = nameAt n b.1 ∧ (a.2 : Int) = (b.2 : Int)) = decide (a = b) := by
 obtain ⟨z1, h1⟩ := mem_ends.mp ha
 obtain ⟨z2, h2⟩ := mem_ends.mp hb
 refine decide_eq_decide.mpr ⟨fun ⟨p, q⟩ => key_inj hN (row_lt h1) (row_lt h2) (by unfold key; rw [p, q]), fun e => by rw [e]; exact ⟨rfl, rfl⟩⟩
theorem ty_l {K : PySem.W.Frag} {H : Hp} {d : Addr} {xs : List V} (h : H d = some (.lst xs)) : tyV K "list" (.ref d) H := Or.inl ⟨rfl, xs, SqL.of h⟩
noncomputable def StepAt (n : Net) (H : Hp) (d : Addr) (c : Int) : Prop := ∃ kvs, H d = some (.dT kvs) ∧ ∀ e ∈ ends n, ∃ u, valV kvs (key n e) = some (.ref u) ∧ H u = some (TN n (go c n e))
theorem StepAt.same {n : Net} {H H' : Hp} {d : Addr} {c : Int} (h : StepAt n H d c) (s : Same H H') : StepAt n H' d c := let ⟨kvs, h1, h2⟩ := h; ⟨kvs, s _ _ h1, fun e he => let ⟨u, a, b⟩ := h2 e he; ⟨u, a, s _ _ b⟩⟩
theorem StepAt.get {n : Net} {H : Hp} {d t : Addr} {c : Int} {e : Nt.End} (h : StepAt n H d c) (he : e ∈ ends n) (ht : H t = some (TN n e)) : ∃ u, DGet H d (.ref t) (some (.ref u)) ∧ H u = some (TN n (go c n e)) := by
 obtain ⟨kvs, h1, h2⟩ := h
 obtain ⟨u, a, b⟩ := h2 e he
 exact ⟨u, by rw [← a]; exact DGet.t (k := key n e) h1 ht, b⟩
noncomputable def spWF : Sp := fun vs H Q _ => ∃ (dl dr t : Addr) (n : Net) (e : Nt.End), vs = [.ref dl, .ref dr, .ref t] ∧ StepAt n H dl 1 ∧ StepAt n H dr (-1) ∧ (n.map (·.1)).Nodup ∧ Twice n ∧ (ties n).length ≤ 1000 ∧ e ∈ ends n ∧ H t = some (TN n e) ∧
 ∀ (l : Addr) (ts : List Addr) (k : Nat) (H' : Hp), Same H H' → H l = none → H' l = some (.lst (ts.map V.ref)) → AtE n H' ts (wk n e k) → Per n e k → k ≤ (ends n).length → Q (.ref l) H'
section
variable {P : Program} {w : World} {K : PySem.W.Frag} {mg : Str → Option Value} {base : Heap}
noncomputable abbrev NWf : List Str := ["lefts", "rights", "first", "walker", "end"]
theorem scWF : FnScope NWf ["lefts", "rights", "first"] (defScope sWkF) := ⟨rfl, rfl, rfl, by decide +kernel, rfl, by decide +kernel, by decide +kernel⟩
theorem map2 (ts : List Addr) (a b : Addr) : ts.map V.ref ++ [V.ref a, V.ref b] = (ts ++ [a]).map V.ref ++ [V.ref b] := by rw [List.map_append, List.append_assoc]; rfl
theorem ok_WF {f : Addr} {fd : FuncData} (F : Fun K "walker_from" "walker_from" sWkF f fd) (T : Txt mg) : FnOk P w K mg base CX0 1 f fd ["lefts", "rights", "first"] spWF := by
 refine F.gb scWF (fun vs H Q E h => ?_) (fun b0 H vs Q E hr h => ?_)
 ·obtain ⟨dl, dr, t, n, e, rfl, _⟩ := h
  rfl
 obtain ⟨dl, dr, t, n, e, rfl, hL, hRt, hN, hT, hti, he, ht, q⟩ := h
 have nd := scWF.nd
 have hel := ends_len n
 have hu := hr.u1
 have un := hr.u100
 obtain ⟨k, k0, k1, k2⟩ := comes_back (f := two n) (S := ends n) (fun a ha => two_end hT ha) (fun a ha b hb => two_inj hT ha hb) he
 obtain ⟨u1, g1, e1⟩ := hL.get he ht
 show Run _ _ _ [some (.ref dl), some (.ref dr), some (.ref t), none, none] H
 refine run_set 3 nd (ev_lst (ea_cons (ev_v 2 (ea_cons (ev_dget hu (ev_v 0 (ev_v 2 ⟨dl, .ref u1, rfl, g1, ea_nil ⟨(by show 2 ≤ sizeLine; decide), fun l hl => ?_⟩⟩)))))))
 have s1 := same_new hl (.lst [.ref t, .ref u1])
 have el : (upd H l (.lst [.ref t, .ref u1])) l = some (.lst ([t, u1].map V.ref)) := upd_same
 generalize upd H l (.lst [.ref t, .ref u1]) = H1 at s1 el
 obtain ⟨u2, g2, e2⟩ := (hRt.same s1).get (go_end hT he) (s1 _ _ e1)
 refine run_set 4 nd (ev_dget hu (ev_v 1 (ev_ix ix_list (ev_v 3 (ev_un un_neg (ev_int ⟨1, rfl, l, _, _, .ref u1, rfl, rfl, SqL.of el, rfl, dr, .ref u2, rfl, g2, ?_⟩))))))
 show Run _ _ _ [some (.ref dl), some (.ref dr), some (.ref t), some (.ref l), some (.ref u2)] H1
 refine run_while (fun m σ H2 => ∃ (j : Nat) (ts : List Addr) (u : Addr), m = k - j ∧ 0 < j ∧ j ≤ k ∧ Same H H2 ∧ H2 l = some (.lst (ts.map V.ref)) ∧ AtE n H2 ts (wk n e j) ∧ H2 u = some (TN n (it (two n) j e)) ∧ (∀ i, 0 < i → i < j → it (two n) i e ≠ e) ∧ σ = [some (.ref dl), some (.ref dr), some (.ref t), some (.ref l), some (.ref u)])
  (m0 := k - 1) ⟨1, [t, u1], u2, rfl, Nat.one_pos, k0, s1, el, AtE.two (s1 _ _ ht) (s1 _ _ e1), e2, fun i h1 h2 => by omega, rfl⟩ ?_
 rintro m σ H2 ⟨j, ts, u, rfl, j0, j1, sH, el2, at2, eu, hf, rfl⟩
 have hje : it (two n) j e ∈ ends n := it_mem (fun a ha => two_end hT ha) he j
 refine et_cmp (op_neD un) (ev_v 4 (ev_v 2 ⟨1, _, by decide, rnD_tn eu (sH _ _ ht), _, rfl, ?_⟩))
 rw [tn_eq hN hje he]
 have tl := at2.1
 rw [wk_len] at tl
 by_cases c : it (two n) j e = e
 ·rw [decide_eq_true c]
  exact iteF (run_ret (ev_v 3 (q l ts j H2 sH hl el2 at2 ⟨j0, c, hf⟩ (by omega))))
 ·rw [decide_eq_false c]
  have jk : j < k := by
   rcases Nat.lt_or_ge j k with h | h
   ·exact h
   ·have : j = k := by omega
    subst this
    exact absurd k2 c
  obtain ⟨v1, g3, e3⟩ := (hL.same sH).get hje eu
  refine iteT (run_expr (ev_m1 PySem.F.plainAttrs_list PySem.F.slot_list_extend PySem.F.type_list_extend mt_extend (ev_v 3 (v := .ref l) ⟨ty_l el2, ev_lst (ea_cons (ev_v 4 (ea_cons (ev_dget hu (ev_v 0 (ev_v 4 ⟨dl, .ref v1, rfl, g3, ea_nil ⟨(by show 2 ≤ sizeLine; decide), fun p hp => ?_⟩⟩))))))⟩)))
  have s3 := same_new hp (.lst [.ref u, .ref v1])
  have nlp : l ≠ p := ne_of_none el2 hp
  refine ⟨l, p, ts.map V.ref, [.ref u, .ref v1], rfl, rfl, s3 _ _ el2, upd_same, small (by rw [List.length_map]; show _ + 2 ≤ 100000; omega), ?_⟩
  have sH3 : Same H (upd (upd H2 p (.lst [.ref u, .ref v1])) l (.lst (ts.map V.ref ++ [.ref u, .ref v1]))) := same_mut (sH.trans s3) hl
  have el3 : (upd (upd H2 p (.lst [.ref u, .ref v1])) l (.lst (ts.map V.ref ++ [.ref u, .ref v1]))) l = some (.lst ((ts ++ [u, v1]).map V.ref)) := by rw [upd_same, List.map_append]; rfl
  have kt : ∀ b p' j', H2 b = some (Tn p' j') → (upd (upd H2 p (.lst [.ref u, .ref v1])) l (.lst (ts.map V.ref ++ [.ref u, .ref v1]))) b = some (Tn p' j') := fun b p' j' h => by
   rw [upd_ne (ne_of h el2 fun z => nomatch z)]
   exact s3 _ _ h
  generalize upd (upd H2 p (.lst [.ref u, .ref v1])) l (.lst (ts.map V.ref ++ [.ref u, .ref v1])) = H3 at sH3 el3 kt
  obtain ⟨v2, g4, e4⟩ := (hRt.same sH3).get (go_end hT hje) (kt _ _ _ e3)
  refine run_set 4 nd (ev_dget hu (ev_v 1 (ev_ix ix_list (ev_v 3 (ev_un un_neg (ev_int ⟨1, rfl, l, _, _, .ref v1, rfl, rfl, SqL.of el3, ?_, dr, .ref v2, rfl, g4, ?_⟩))))))
  ·rw [List.map_append]
   show atI (ts.map V.ref ++ [V.ref u, V.ref v1]) (-1) = _
   rw [map2]
   exact atI_last _ _
  refine run_nil ⟨k - (j + 1), by omega, j + 1, ts ++ [u, v1], v2, rfl, Nat.succ_pos _, jk, sH3, el3, (at2.keep kt).append (AtE.two (kt _ _ _ eu) (kt _ _ _ e3)), e4, fun i h1 h2 => ?_, rfl⟩
  by_cases hij : i = j
  ·subst hij
   exact c
  ·exact hf i h1 (by omega)
end
end M2
namespace M2
open PySem L2 Nt Sort2 SetT
theorem evens_map {α β : Type} (f : α → β) : ∀ xs : List α, evens (xs.map f) = (evens xs).map f
 | [] => rfl
 | [a] => rfl
 | a :: b :: r => by
  show f a :: evens (r.map f) = f a :: (evens r).map f
  rw [evens_map f r]
theorem AtE.evens {n : Net} {H : Hp} {ts : List Addr} {es : List Nt.End} (h : AtE n H ts es) : AtE n H (L2.evens ts) (L2.evens es) := by
 refine ⟨by rw [evens_len, evens_len, h.1], fun j t e h1 h2 => ?_⟩
 rw [evens_at] at h1 h2
 exact h.2 _ t e h1 h2
theorem ne_set {P : Program} {w : World} {H : Hp} {a d : Addr} {o : HO} {zs : List Str} (h : H a = some o) (g : H d = some (SetO P w d zs)) (ho : ∀ φ, o ≠ .ext φ) : a ≠ d := fun e => by
 rw [e, g] at h
 exact ho _ (Option.some.inj h).symm
structure WAt (n : Net) (H : Hp) (L : Addr) (ls : List Addr) (ws : List (List Nt.End)) : Prop where
 lst : H L = some (.lst (ls.map V.ref))
 len : ls.length = ws.length
 nod : ls.Nodup
 out : L ∉ ls
 at' : ∀ (j : Nat) l w, ls[j]? = some l → ws[j]? = some w → ∃ ts, H l = some (.lst (ts.map V.ref)) ∧ AtE n H ts w
theorem WAt.same {n : Net} {H H' : Hp} {L : Addr} {ls : List Addr} {ws : List (List Nt.End)} (h : WAt n H L ls ws) (s : Same H H') : WAt n H' L ls ws :=
 ⟨s _ _ h.lst, h.len, h.nod, h.out, fun j l w h1 h2 => let ⟨ts, a, b⟩ := h.at' j l w h1 h2; ⟨ts, s _ _ a, b.same s⟩⟩
theorem WAt.keep {n : Net} {H H' : Hp} {L : Addr} {ls : List Addr} {ws : List (List Nt.End)} (h : WAt n H L ls ws) (hL : H' L = H L) (kl : ∀ l ∈ ls, ∀ o, H l = some o → H' l = some o) (kt : ∀ t p j, H t = some (Tn p j) → H' t = some (Tn p j)) : WAt n H' L ls ws :=
 ⟨by rw [hL]; exact h.lst, h.len, h.nod, h.out, fun j l w h1 h2 => let ⟨ts, a, b⟩ := h.at' j l w h1 h2; ⟨ts, kl l (List.mem_of_getElem? h1) _ a, b.keep kt⟩⟩
theorem WAt.snoc {n : Net} {H H' : Hp} {L l : Addr} {ls ts : List Addr} {ws : List (List Nt.End)} {v : List Nt.End} (h : WAt n H L ls ws) (hL : H' L = some (.lst (ls.map V.ref ++ [.ref l]))) (kl : ∀ l ∈ ls, ∀ o, H l = some o → H' l = some o) (kt : ∀ t p j, H t = some (Tn p j) → H' t = some (Tn p j))
  (hl : H' l = some (.lst (ts.map V.ref))) (hv : AtE n H' ts v) (hn : l ∉ ls) (hLl : L ≠ l) : WAt n H' L (ls ++ [l]) (ws ++ [v]) := by
 refine ⟨by rw [hL, List.map_append]; rfl, by rw [List.length_append, List.length_append, h.len]; rfl, nd_snoc h.nod hn, fun hm => ?_, fun j a x h1 h2 => ?_⟩
 ·rcases List.mem_append.mp hm with hm | hm
  ·exact h.out hm
  ·exact hLl (List.mem_singleton.mp hm)
 ·have hlen := h.len
  by_cases hj : j < ls.length
  ·rw [List.getElem?_append_left hj] at h1
   rw [List.getElem?_append_left (by omega)] at h2
   obtain ⟨us, q1, q2⟩ := h.at' j a x h1 h2
   exact ⟨us, kl a (List.mem_of_getElem? h1) _ q1, q2.keep kt⟩
  ·rw [List.getElem?_append_right (by omega)] at h1 h2
   have hj2 : j - ls.length = 0 := by
    have := (List.getElem?_eq_some_iff.mp h1).1
    simp at this
    omega
   rw [hj2] at h1
   rw [← hlen, hj2] at h2
   cases h1
   cases h2
   exact ⟨ts, hl, hv⟩
noncomputable def spWks : Sp := fun vs H Q _ => ∃ (R : Addr) (as : List (Addr × Addr)) (n : Net), vs = [.ref R] ∧ RowsAt H R as n ∧ (n.map (·.1)).Nodup ∧ Twice n ∧ n.length ≤ 1000 ∧ (ties n).length ≤ 400 ∧
 ∀ (L : Addr) (ls : List Addr) (H' : Hp), Same H H' → H L = none → WAt n H' L ls (wks n (ends n) []) → (∀ l ∈ ls, H l = none) → Q (.ref L) H'
theorem ends_at {n : Net} {i : Nat} {p : Str × Nt.End} (h : (seats n)[i]? = some p) : (ends n)[i]? = some p.2 := by unfold ends; rw [List.getElem?_map, h]; rfl
section
variable {P : Program} {w : World} {K : PySem.W.Frag} {mg : Str → Option Value} {base : Heap}
noncomputable abbrev NWs : List Str := ["rows", "lefts", "rights", "names", "told", "walkers", "first", "walker", "end"]
theorem scWs : FnScope NWs ["rows"] (defScope sWks) := ⟨rfl, rfl, rfl, by decide +kernel, rfl, by decide +kernel, by decide +kernel⟩
theorem ok_Wks {f : Addr} {fd : FuncData} (F : Fun K "walkers_of" "walkers_of" sWks f fd) (T : Txt mg)
  (GL : Has P w K mg base 3 "left_steps" ["rows"] (spLS 1))
  (GR : Has P w K mg base 3 "right_steps" ["rows"] (spLS (-1)))
  (GN : Has P w K mg base 3 "ties_by_end" ["rows"] spBE)
  (GO : Has P w K mg base 3 "ends_in_order" ["rows"] spOrd)
  (GW : Has P w K mg base 3 "walker_from" ["lefts", "rights", "first"] spWF) :
  FnOk P w K mg base CX0 4 f fd ["rows"] spWks := by
 refine F.gb scWs (fun vs H Q E h => ?_) (fun b0 H vs Q E hr h => ?_)
 ·obtain ⟨R, as, n, rfl, _⟩ := h
  rfl
 obtain ⟨R, as, n, rfl, hR, hN, hT, hn, hti, q⟩ := h
 have nd := scWs.nd
 have hel := ends_len n
 have hu := hr.u1
 show Run _ _ _ [some (.ref R), none, none, none, none, none, none, none, none] H
 refine run_set 1 nd (ev_has GL hr (ea_cons (ev_v 0 (ea_nil ⟨R, as, n, rfl, hR, hN, hT, hn, by omega, fun dl kl H1 s1 n1 e1 v1 => ?_⟩))))
 refine run_set 2 nd (ev_has GR hr (ea_cons (ev_v 0 (ea_nil ⟨R, as, n, rfl, hR.same s1, hN, hT, hn, by omega, fun dr kr H2 s2 n2 e2 v2 => ?_⟩))))
 refine run_set 3 nd (ev_has GN hr (ea_cons (ev_v 0 (ea_nil ⟨R, as, n, rfl, hR.same (s1.trans s2), hN, hn, by omega, fun dn kn H3 s3 n3 e3 v3 => ?_⟩))))
 refine run_set 4 nd (ev_set0 T.tset fun D hD => ?_)
 refine run_set 5 nd (ev_lst (ea_nil ⟨(by show 0 ≤ sizeLine; decide), fun L hL => ?_⟩))
 have hSL : StepAt n H3 dl 1 := StepAt.same ⟨kl, e1, v1⟩ (s2.trans s3)
 have hSR : StepAt n H3 dr (-1) := StepAt.same ⟨kr, e2, v2⟩ s3
 have s123 := (s1.trans s2).trans s3
 have hLD : L ≠ D := fun e => by rw [e, upd_same] at hL; cases hL
 have hL3 : H3 L = none := by rw [upd_ne hLD] at hL; exact hL
 have hD0 := free_back s123 hD
 have hL0 := free_back s123 hL3
 have sB : Same H3 (upd (upd H3 D (SetO P w D [])) L (.lst [])) := (same_new hD _).trans (same_new hL _)
 have eD0 : (upd (upd H3 D (SetO P w D [])) L (.lst [])) D = some (SetO P w D []) := by rw [upd_ne (Ne.symm hLD), upd_same]
 have eL0 : (upd (upd H3 D (SetO P w D [])) L (.lst [])) L = some (.lst []) := upd_same
 have sHB := s123.trans sB
 have hSLB := hSL.same sB
 have hSRB := hSR.same sB
 have e3B := sB _ _ e3
 show Run _ _ _ [some (.ref R), some (.ref dl), some (.ref dr), some (.ref dn), some (.ref D), some (.ref L), none, none, none] (upd (upd H3 D (SetO P w D [])) L (.lst []))
 generalize upd (upd H3 D (SetO P w D [])) L (.lst []) = HB at sB eD0 eL0 sHB hSLB hSRB e3B
 refine run_forL (ev_has GO hr (ea_cons (ev_v 0 (ea_nil ⟨R, as, n, rfl, hR.same sHB, hn, by omega, fun U us H5 s5 n5 e5 at5 => ⟨U, rfl, ⟨_, SqL.of e5⟩, ?_⟩⟩))))
 have sH5 := sHB.trans s5
 have eD5 := s5 _ _ eD0
 have eL5 := s5 _ _ eL0
 have hSL5 := hSLB.same s5
 have hSR5 := hSRB.same s5
 have e35 := s5 _ _ e3B
 have nUL : U ≠ L := fun e => by rw [e, eL0] at n5; cases n5
 have lus : us.length = (ends n).length := by rw [at5.1]; unfold ends; rw [List.length_map]
 refine loop_list (xs := us.map V.ref) (fun i σ H' => ∃ (zs told : List Str) (ls : List Addr) (ws : List (List Nt.End)) (u1 u2 u3 : Option V), (∀ b o, b ≠ D → b ≠ L → H5 b = some o → H' b = some o) ∧ H' D = some (SetO P w D zs) ∧ zs.Nodup ∧ (∀ z ∈ zs, z ∈ ties n) ∧ (∀ z, z ∈ zs ↔ z ∈ told) ∧
  WAt n H' L ls ws ∧ (∀ l ∈ ls, H5 l = none) ∧ ls.length ≤ i ∧ wks n (ends n) [] = ws ++ wks n ((ends n).drop i) told ∧ σ = [some (.ref R), some (.ref dl), some (.ref dr), some (.ref dn), some (.ref D), some (.ref L), u1, u2, u3])
  ⟨[], [], [], [], _, _, _, fun b o _ _ h => h, eD5, List.nodup_nil, fun z h => by simp at h, fun z => by simp, ⟨eL5, rfl, List.nodup_nil, by simp, fun j l w h => by simp at h⟩, fun l h => by simp at h, Nat.le_refl _, rfl, rfl⟩ ?_ ?_ ?_
 ·rintro i σ H' _ ⟨_, _, _, _, _, _, _, kp, _⟩
  exact SqL.of (kp _ _ (ne_set e5 eD5 fun φ z => nomatch z) nUL e5)
 ·rintro i x σ H' hx ⟨zs, told, ls, ws, u1, u2, u3, kp, eD, zn, zt, zm, hW, hf, hli, hwk, rfl⟩
  have hi : i < us.length := by
   have := (List.getElem?_eq_some_iff.mp hx).1
   rw [List.length_map] at this
   exact this
  rw [List.getElem?_map, List.getElem?_eq_getElem hi] at hx
  cases hx
  have hsi : i < (seats n).length := by have := at5.1; omega
  have ht5 : H5 us[i] = some (TN n (seats n)[i].2) := at5.2 i us[i] (seats n)[i] (List.getElem?_eq_getElem hi) (List.getElem?_eq_getElem hsi)
  have hee := ends_at (List.getElem?_eq_getElem hsi)
  have htie : tieAt n (seats n)[i].2 = some (seats n)[i].1 := mem_seats.mp (by have := List.getElem_mem hsi; exact this)
  generalize (seats n)[i] = pr at ht5 hee htie
  obtain ⟨z, e⟩ := pr
  have ht5 : H5 us[i] = some (TN n e) := ht5
  have htie : tieAt n e = some z := htie
  have hee : (ends n)[i]? = some e := hee
  have he : e ∈ ends n := List.mem_of_getElem? hee
  have hdrop : (ends n).drop i = e :: (ends n).drop (i + 1) := by
   have hie : i < (ends n).length := by omega
   rw [List.drop_eq_getElem_cons hie]
   congr 1
   have := List.getElem?_eq_getElem hie
   rw [hee] at this
   exact (Option.some.inj this).symm
  have ktn : ∀ {b p j}, H5 b = some (Tn p j) → H' b = some (Tn p j) := fun {b p j} h => kp _ _ (ne_set h eD5 fun φ z => nomatch z) (ne_of h eL5 fun z => nomatch z) h
  have ht' := ktn ht5
  have ed' : H' dn = some (.dT kn) := kp _ _ (ne_set e35 eD5 fun φ z => nomatch z) (ne_of e35 eL5 fun z => nomatch z) e35
  have hst : ∀ {d c}, StepAt n H5 d c → StepAt n H' d c := fun {d c} ⟨kvs, a, b⟩ => ⟨kvs, kp _ _ (ne_set a eD5 fun φ z => nomatch z) (ne_of a eL5 fun z => nomatch z) a, fun e he => let ⟨u, p, r⟩ := b e he; ⟨u, p, ktn r⟩⟩
  have hd1 : DGet H' dn (.ref us[i]) (some (.str z)) := by rw [← v3 e z htie]; exact DGet.t (k := key n e) ed' ht'
  refine eg_name 6 nd ?_
  refine run_if (et_cmp op_notin_set (ev_dget hu (ev_v 3 (ev_v 6 ⟨dn, .str z, rfl, hd1, ev_v 4 ⟨z, D, zs, rfl, rfl, eD, _, rfl, ?_⟩⟩))))
  refine ite2 (fun c => ?_) (fun c => ?_)
  ·have hz : z ∉ zs := of_decide_eq_true c
   have hzt : tnm n e ∉ told := by rw [tnm_eq htie]; exact fun h => hz ((zm z).mpr h)
   refine run_set 7 nd (ev_has GW hr (ea_cons (ev_v 1 (ea_cons (ev_v 2 (ea_cons (ev_v 6 (ea_nil ⟨dl, dr, us[i], n, e, rfl, hst hSL5, hst hSR5, hN, hT, by omega, he, ht', fun l ts k H6 s6 n6 e6 at6 pr hk => ?_⟩))))))))
   have hpe := per_eq pr
   have hwe : walker n e = wk n e k := by unfold walker; rw [hpe]
   have eL6 := s6 _ _ hW.lst
   have eD6 := s6 _ _ eD
   have nlL : L ≠ l := ne_of_none hW.lst n6
   have nlD : D ≠ l := ne_of_none eD n6
   refine run_expr (ev_append (ev_v 5 ⟨L, rfl, ⟨_, eL6⟩, ev_v 7 ⟨_, eL6, by rw [List.length_map]; exact small' (by omega), ?_⟩⟩))
   have k7 : ∀ b o, b ≠ L → H6 b = some o → (upd H6 L (.lst (ls.map V.ref ++ [.ref l]))) b = some o := fun b o hb h => by rw [upd_ne hb]; exact h
   have eL7 : (upd H6 L (.lst (ls.map V.ref ++ [.ref l]))) L = some (.lst (ls.map V.ref ++ [.ref l])) := upd_same
   generalize upd H6 L (.lst (ls.map V.ref ++ [.ref l])) = H7 at k7 eL7
   have kt7 : ∀ t p j, H6 t = some (Tn p j) → H7 t = some (Tn p j) := fun t p j h => k7 _ _ (ne_of h eL6 fun z => nomatch z) h
   have e7 := k7 _ _ (Ne.symm nlL) e6
   have eD7 := k7 _ _ (Ne.symm hLD) eD6
   have at7 := at6.keep kt7
   have hnl : l ∉ ls := fun hm => by
    obtain ⟨j, hj⟩ := List.getElem?_of_mem hm
    have hlen := hW.len
    have hjw : j < ws.length := by have := (List.getElem?_eq_some_iff.mp hj).1; omega
    obtain ⟨_, a, _⟩ := hW.at' j l ws[j] hj (List.getElem?_eq_getElem hjw)
    rw [n6] at a
    cases a
   have hW7 : WAt n H7 L (ls ++ [l]) (ws ++ [wk n e k]) := hW.snoc eL7 (fun a ha o ho => k7 _ _ (fun q => hW.out (q ▸ ha)) (s6 _ _ ho)) (fun t p j h => kt7 _ _ _ (s6 _ _ h)) e7 at7 hnl nlL
   have l57 : H5 l = none := by
    cases q5 : H5 l with
    | none => rfl
    | some o => rw [kp _ _ (Ne.symm nlD) (Ne.symm nlL) q5] at n6; cases n6
   have hf7 : ∀ a ∈ ls ++ [l], H5 a = none := fun a ha => by
    rcases List.mem_append.mp ha with ha | ha
    ·exact hf a ha
    ·rw [List.mem_singleton.mp ha]
     exact l57
   have kp7 : ∀ b o, b ≠ D → b ≠ L → H5 b = some o → H7 b = some o := fun b o h1 h2 h => k7 _ _ h2 (s6 _ _ (kp b o h1 h2 h))
   have hll : (ls ++ [l]).length ≤ i + 1 := by rw [List.length_append]; show ls.length + 1 ≤ _; omega
   have hwk7 : wks n (ends n) [] = (ws ++ [wk n e k]) ++ wks n ((ends n).drop (i + 1)) (told ++ (evens (wk n e k)).map (tnm n)) := by
    rw [hwk, hdrop]
    show ws ++ (if tnm n e ∈ told then _ else _) = _
    rw [if_neg hzt, hwe, List.append_assoc]
    rfl
   have hev := wk_ends hT he k
   refine run_forL (ev_evens (ev_v 7 ⟨l, _, rfl, SqL.of e7, fun p hp => ⟨p, rfl, ⟨_, SqL.of upd_same⟩, ?_⟩⟩))
   rw [evens_map]
   have s8 := same_new hp (.lst ((evens ts).map V.ref))
   have e8 : (upd H7 p (.lst ((evens ts).map V.ref))) p = some (.lst ((evens ts).map V.ref)) := upd_same
   have eD8 := s8 _ _ eD7
   have hW8 := hW7.same s8
   have at8 := (at7.same s8).evens
   have kp8 : ∀ b o, b ≠ D → b ≠ L → H5 b = some o → (upd H7 p (.lst ((evens ts).map V.ref))) b = some o := fun b o h1 h2 h => s8 _ _ (kp7 b o h1 h2 h)
   have ed8 := s8 _ _ (k7 _ _ (ne_of ed' hW.lst fun z => nomatch z) (s6 _ _ ed'))
   generalize upd H7 p (.lst ((evens ts).map V.ref)) = H8 at s8 e8 eD8 hW8 at8 kp8 ed8
   have npD : p ≠ D := ne_set e8 eD8 fun φ z => nomatch z
   refine loop_list (xs := (evens ts).map V.ref) (fun m σ H9 => ∃ (zs' : List Str) (u3 : Option V), (∀ b o, b ≠ D → H8 b = some o → H9 b = some o) ∧ H9 D = some (SetO P w D zs') ∧ zs'.Nodup ∧ (∀ z ∈ zs', z ∈ ties n) ∧ (∀ z, z ∈ zs' ↔ z ∈ told ++ ((evens (wk n e k)).take m).map (tnm n)) ∧
    σ = [some (.ref R), some (.ref dl), some (.ref dr), some (.ref dn), some (.ref D), some (.ref L), some (.ref us[i]), some (.ref l), u3]) ⟨zs, _, fun b o _ h => h, eD8, zn, zt, fun z => by rw [zm z]; simp, rfl⟩ ?_ ?_ ?_
   ·rintro m σ H9 _ ⟨_, _, k9, _⟩
    exact SqL.of (k9 _ _ npD e8)
   ·rintro m x σ H9 hx ⟨zs', u3, k9, eD9, zn', zt', zm', rfl⟩
    have hm : m < (evens ts).length := by
     have := (List.getElem?_eq_some_iff.mp hx).1
     rw [List.length_map] at this
     exact this
    have l8 := at8.1
    rw [List.getElem?_map, List.getElem?_eq_getElem hm] at hx
    cases hx
    have hcm : m < (evens (wk n e k)).length := by omega
    have hc8 := at8.2 m _ _ (List.getElem?_eq_getElem hm) (List.getElem?_eq_getElem hcm)
    have hcw : (evens (wk n e k))[m] ∈ wk n e k := by
     have h1 : (evens (wk n e k))[m]? = some (evens (wk n e k))[m] := List.getElem?_eq_getElem hcm
     rw [evens_at] at h1
     exact List.mem_of_getElem? h1
    have hce := hev _ hcw
    obtain ⟨y, hy⟩ := mem_ends.mp hce
    have etk : (evens (wk n e k)).take (m + 1) = (evens (wk n e k)).take m ++ [(evens (wk n e k))[m]] := by rw [List.take_add_one, List.getElem?_eq_getElem hcm]; rfl
    generalize (evens (wk n e k))[m] = c at hc8 hce hy etk
    have hc9 : H9 (evens ts)[m] = some (TN n c) := k9 _ _ (ne_set hc8 eD8 fun φ z => nomatch z) hc8
    have ed9 : H9 dn = some (.dT kn) := k9 _ _ (ne_set ed8 eD8 fun φ z => nomatch z) ed8
    have hd9 : DGet H9 dn (.ref (evens ts)[m]) (some (.str y)) := by rw [← v3 c y hy]; exact DGet.t (k := key n c) ed9 hc9
    have zl : zs'.length ≤ (ties n).length := nodup_le zn' zt'
    refine eg_name 8 nd ?_
    refine run_expr (ev_addS (ev_v 4 ⟨D, rfl, ⟨_, eD9⟩, ev_dget hu (ev_v 3 (ev_v 8 ⟨dn, .str y, rfl, hd9, y, zs', rfl, eD9, by omega, run_nil ⟨added zs' y, _, fun b o hb h => ?_, upd_same, ?_, fun z hz => ?_, fun z => ?_, rfl⟩⟩))⟩))
    ·rw [upd_ne hb]
     exact k9 b o hb h
    ·unfold added
     split
     ·exact zn'
     ·rename_i hny
      exact nd_snoc zn' hny
    ·rcases (added_mem zs' y z).mp hz with h | h
     ·exact zt' z h
     ·rw [h]
      exact tie_mem hy
    ·rw [added_mem, zm' z, etk, List.map_append, ← List.append_assoc, List.mem_append (s := told ++ _)]
     show _ ∨ z = y ↔ _ ∨ z ∈ [tnm n c]
     rw [tnm_eq hy, List.mem_singleton]
   ·rintro σ H9 ⟨zs', u3, k9, eD9, zn', zt', zm', rfl⟩
    have l8 := at8.1
    rw [List.length_map, l8, List.take_length] at zm'
    refine run_nil (run_nil ⟨zs', told ++ (evens (wk n e k)).map (tnm n), ls ++ [l], ws ++ [wk n e k], _, _, _, fun b o h1 h2 h => k9 _ _ h1 (kp8 b o h1 h2 h), eD9, zn', zt', zm', ?_, hf7, hll, hwk7, rfl⟩)
    refine hW8.keep ?_ (fun a ha o ho => k9 _ _ ?_ ho) (fun t p j h => k9 _ _ (ne_set h eD8 fun φ z => nomatch z) h)
    ·rw [hW8.lst]
     exact k9 _ _ hLD hW8.lst
    ·intro q
     rw [q, eD8] at ho
     obtain ⟨j, hj⟩ := List.getElem?_of_mem ha
     have hlen := hW8.len
     have hjw : j < (ws ++ [wk n e k]).length := by have := (List.getElem?_eq_some_iff.mp hj).1; omega
     obtain ⟨_, b, _⟩ := hW8.at' j a _ hj (List.getElem?_eq_getElem hjw)
     rw [q, eD8] at b
     cases b
  ·have hz : z ∈ zs := Classical.not_not.mp (of_decide_eq_false (Bool.eq_false_iff.mpr c))
   refine run_nil (run_nil ⟨zs, told, ls, ws, _, _, _, kp, eD, zn, zt, zm, hW, hf, by omega, ?_, rfl⟩)
   rw [hwk, hdrop]
   show ws ++ (if tnm n e ∈ told then _ else _) = _
   rw [if_pos (by rw [tnm_eq htie]; exact (zm z).mp hz)]
 ·rintro σ H' ⟨zs, told, ls, ws, u1, u2, u3, kp, eD, zn, zt, zm, hW, hf, hli, hwk, rfl⟩
  rw [List.length_map, lus, List.drop_length] at hwk
  have hwk' : wks n (ends n) [] = ws := by rw [hwk]; show ws ++ [] = ws; rw [List.append_nil]
  refine run_ret (ev_v 5 (q L ls H' (fun b o h => ?_) hL0 (by rw [hwk']; exact hW) fun l hl => free_back sH5 (hf l hl)))
  exact kp _ _ (ne_of_none h hD0) (ne_of_none h hL0) (sH5 _ _ h)
end
end M2
namespace Sort3
open PySem PySem.W PyProof.Rows
section
variable {lt : Nat → Nat → Bool} {cmp : Nat → Nat → (Bool → Shared → Prop) → Shared → Prop} {J : Shared → Prop} {n : Nat}
end
end Sort3
namespace Sort3
open PySem PySem.W PyProof.Rows
section
variable {prog : Program} {w : World} {A : Around} {E : Value → Shared → Prop} {s : Shared}
end
end Sort3
namespace L2
open PySem PySem.Spec PyProof.Rows Sort3
section
variable {X : Cx} {σ : St} {H : Hp}
end
end L2
namespace L2
open PySem PySem.Spec PyProof.Rows
section
variable {X : Cx} {σ : St} {H : Hp} {Q : VK}
theorem ev_dict1 {k v : Expr} {pos : Pos} (hu : X.A.units + 1 < cLine) (h : ∀ d, H d = none → Ev X k σ (upd H d (.dK [])) fun y H1 => Ev X v σ H1 fun x H2 => ∃ H3, DPut H2 d y x H3 ∧ Q (.ref d) H3) : Ev X (.Dict [some k] [v] pos) σ H Q := by
 refine ⟨fun pins s I => wpAny_Dict_any rfl rfl (by simp) (by show 1 ≤ 15; decide) ?_⟩
 have I0 : Inv X pins σ (upd H s.heap.objs.size (.dK [])) { s with heap := s.heap.push { cls := .type "dict", data := .dict #[] } } := I.laid (a := s.heap.objs.size) (o := .dK []) (t' := s.toks) (fun _ _ q => Heap.get?_push_of_some _ q) (Nat.le_refl _) (dk_empty s.heap I.big)
 show wpAny _ _ (evalPairs [(eval k X.env, do let x ← eval v X.env; standAt pos; pure x)]) _ _ _
 unfold evalPairs
 refine wpAny_bind (thn ((h _ I.fresh).run pins _ I0) fun kv s1 ⟨y, H1, I1, r1, h1⟩ => ?_)
 refine wpAny_bind (wpAny_holding (wpAny_bind (thn (h1.run pins s1 I1) fun vv s2 ⟨x, H2, I2, r2, H3, dp, q⟩ => ?_)))
 refine wpAny_bind (wpAny_standAt (wpAny_pure ?_))
 unfold evalPairs
 refine wpAny_bind (wpAny_holding (wpAny_pure (wpAny_pure ?_)))
 unfold storeAll
 rw [List.forIn_cons]
 refine wpAny_bind (wpAny_bind (d_dictSet hu I2 dp r1 r2 fun s' I' => wpAny_pure ?_))
 exact wpAny_pure ⟨.ref _, H3, I', rfl, q⟩
end
end L2
namespace L2
open PySem PySem.Spec PyProof.Rows SetT
section
variable {prog : Program} {w : World} {A : Around} {E : Value → Shared → Prop} {s : Shared} {T : String} {r d : Addr} {n : Nat} {P : Nat → Value → Prop} {OK : Heap → Prop}
end
section
variable {X : Cx}
end
end L2
namespace L2
open PySem PySem.Spec PyProof.Rows
section
end
section
variable {X : Cx}
end
end L2
namespace L2
open PySem PySem.Spec PyProof.Rows
section
variable {X : Cx}
theorem count_in (z : Str) : ∀ zs : List Str, countIn (.str z) (zs.map PyData.str) = (zs.count z : Int)
 | [] => rfl
 | y :: r => by
  rw [List.map_cons, countIn, count_in z r, List.count_cons]
  simp only [same]
  rcases Bool.eq_false_or_eq_true (y == z) with hb | hb <;> simp only [hb, Bool.false_eq_true, if_true, if_false] <;> push_cast <;> omega
noncomputable def rCount (K : PySem.W.Frag) : V → List V → Hp → VK → Prop := fun x vs H Q => ∃ (l : Addr) (zs : List Str) (z : Str), x = .ref l ∧ vs = [.str z] ∧ SqL K H l (zs.map V.str) ∧ Q (.int (zs.count z : Int)) H
theorem mt_count : MtM X "list.count" (rCount X.K) := by
 intro pins s σ H x vs v us Q I rx rv h
 obtain ⟨l, zs, z, rfl, rfl, hH, q⟩ := h
 cases rx
 obtain ⟨u, rfl, ru⟩ := rv.one
 obtain ⟨tk, rfl⟩ := ru
 obtain ⟨its, r, pl, hz⟩ := I.list hH
 refine count_list_strs pl.isList (strs_of_vals r) ?_
 rw [count_in]
 exact ⟨.int (zs.count z : Int), H, I.tok _, ⟨_, rfl⟩, q⟩
end
end L2
namespace L2
open PySem PySem.Spec PyProof.Rows
section
variable {X : Cx} {σ : St} {H : Hp} {D : Ends} {body : List Stmt}
noncomputable def iDictF (tl : TE) : TI := fun σ H R => tl σ H fun x H1 => ∃ d o kvs, x = .ref d ∧ H1 d = some (.frz o (.dK kvs)) ∧ R (Itk d o kvs) H1
theorem pi_dictF {tg l : Expr} {tl : TE} (hl : PE X l tl) : PI X tg l (iDictF tl) := by
 intro pins s σ H R I h
 refine thn (hl pins s σ H _ I h) fun v s1 ⟨x, H1, I1, r1, q1⟩ => ?_
 obtain ⟨d, o, kvs, e, hH, q⟩ := q1
 subst e
 cases (show v = Value.ref d from r1)
 obtain ⟨ho, z, hdm, vs, rel, dd⟩ := (show ObjOk X.prog X.w H1 s1.heap d (.frz o (.dK kvs)) from I1.hok d _ hH)
 obtain ⟨ep, o', es, ho', r1, r2, r3⟩ := dd.dictAt
 have : o = o' := Option.some.inj (ho.symm.trans ho')
 subst this
 refine wpAny_pyIter_dict hdm ⟨o, es, ho', r1, r2, r3⟩ ?_
 refine ⟨s1.heap.objs.size, [s1.heap.objs.size], _, _, _, rfl, I1.kept (t' := s1.toks) fun b o e => Heap.get?_push_of_some _ e, turn_dict d _ o es ep kvs r2, ⟨_, Heap.get?_push_size _ rfl, rfl, by rw [rel.length]; rfl⟩, fun b hb => ?_, q⟩
 have e : b = s1.heap.objs.size := by simpa using hb
 subst e
 exact I1.fpOk (Nat.le_refl _) (I1.hok.fresh (Nat.le_refl _))
theorem loop_dict {tg : Expr} {d : Addr} {o : Obj} {kvs : List (Key × V)} {after : St → Hp → Prop} (Pv : Nat → St → Hp → Prop) (h0 : Pv 0 σ H) (hl : ∀ i σ H, i ≤ kvs.length → Pv i σ H → H d = some (.frz o (.dK kvs)))
  (hs : ∀ i p σ H, kvs[i]? = some p → Pv i σ H → Eg X tg (kV p.1) σ H fun σ2 H2 => Run X body { D with nx := Pv (i + 1), ct := Pv (i + 1), bk := after } σ2 H2) (hd : ∀ σ H, Pv kvs.length σ H → after σ H) : Loop X tg body (Itk d o kvs) D after σ H := by
 refine ⟨fun i m σ H => m = kvs.length - i ∧ i ≤ kvs.length ∧ Pv i σ H, ⟨kvs.length, by simp, Nat.zero_le _, h0⟩, ?_⟩
 rintro i m σ H ⟨rfl, hi, p⟩
 have q := hl i σ H hi p
 by_cases hlt : i < kvs.length
 ·refine .inr ⟨⟨q, hlt⟩, Pv (i + 1), fun σ' H' p' => ⟨kvs.length - (i + 1), by omega, rfl, hlt, p'⟩, fun x H' y => ?_⟩
  obtain ⟨e, p', ep, y⟩ := y
  subst e y
  exact hs i p' σ _ ep p
 ·have e : i = kvs.length := by omega
  subst e
  exact .inl ⟨⟨q, Nat.le_refl _⟩, hd σ H p⟩
end
end L2
namespace M2
open PySem L2 Nt Sort2
open PyProof.Rows (sortedS)
noncomputable def spIsR : Sp := fun vs H Q _ => ∃ (R a : Addr) (as : List (Addr × Addr)) (n : Net) (ss : List Str), vs = [.ref R, .ref a] ∧ RowsAt H R as n ∧ n.length ≤ 60 ∧ (ties n).length ≤ 1000 ∧ H a = some (Ls ss) ∧ ∀ H', Same H H' → Q (.bl (evenAt n ss)) H'
noncomputable def spLSum : Sp := fun vs H Q _ => ∃ (a b : Addr) (xs ys : List Str), vs = [.ref a, .ref b] ∧ H a = some (Ls xs) ∧ H b = some (Ls ys) ∧ xs.length + ys.length < 64 ∧ xs.Nodup ∧ ys.Nodup ∧
 ∀ l ss H', Same H H' → H l = none → H' l = some (Ls ss) → Srt ss → (∀ z, z ∈ ss ↔ (if z ∈ xs then z ∉ ys else z ∈ ys)) → Q (.ref l) H'
section
variable {P : Program} {w : World} {K : PySem.W.Frag} {mg : Str → Option Value} {base : Heap}
theorem contains_dec (zs : List Str) (z : Str) : zs.contains z = decide (z ∈ zs) := by
 rw [Bool.eq_iff_iff, decide_eq_true_iff]
 exact List.contains_iff_mem
theorem even_snoc (n : Net) (ss : List Str) (r : Str × List Str) : evenAt (n ++ [r]) ss = (evenAt n ss && ((r.2.filter fun z => ss.contains z).length % 2 == 0)) := by
 unfold evenAt
 rw [List.all_append]
 simp
theorem even_row {n : Net} {ss : List Str} {i : Nat} (hi : i < n.length) (h : ¬ ((row n i).filter fun z => ss.contains z).length % 2 = 0) : evenAt n ss = false := by
 cases e : evenAt n ss with
 | false => rfl
 | true =>
  unfold evenAt at e
  have := List.all_eq_true.mp e n[i] (List.getElem_mem hi)
  rw [beq_iff_eq, ← row_eq hi] at this
  exact absurd this h
noncomputable abbrev NEv : List Str := ["_law_rows", "_law_some", "_law_point", "_law_names_here"]
noncomputable abbrev NEv' : List Str := ["_law_rows", "_law_some", "_law_point", "_law_names_here", "_law_tie"]
theorem scEv : FnScope NEv ["_law_rows", "_law_some"] (defScope s_l_even) := ⟨rfl, rfl, rfl, by decide +kernel, rfl, by decide +kernel, by decide +kernel⟩
theorem nd_ev : NEv'.Nodup := by decide +kernel
theorem ok_even {f : Addr} {fd : FuncData} (F : Fun K "_law_even" "_law_even" s_l_even f fd) (T : Txt mg) : FnOk P w K mg base CX0 1 f fd ["_law_rows", "_law_some"] spIsR := by
 refine F.gb scEv (fun vs H Q E h => ?_) (fun b0 H vs Q E hr h => ?_)
 ·obtain ⟨R, a, as, n, ss, rfl, _⟩ := h
  rfl
 obtain ⟨R, a, as, n, ss, rfl, hR, hn, ht, ha, q⟩ := h
 have nd := scEv.nd
 have hal := hR.len
 show Run _ _ _ [some (.ref R), some (.ref a), none, none] H
 refine run_forL (ev_v 0 ⟨R, rfl, ⟨_, SqL.of hR.lst⟩, loop_list (xs := as.map fun a => V.ref a.1) (fun i σ H3 => Same H H3 ∧ evenAt (n.take i) ss = true ∧ ∃ u v, σ = [some (.ref R), some (.ref a), u, v]) ⟨Same.refl H, rfl, _, _, rfl⟩ ?_ ?_ ?_⟩)
 ·rintro i σ H3 _ ⟨sm, _, _, _, _⟩
  exact SqL.of (sm _ _ hR.lst)
 ·rintro i x σ H3 hx ⟨sm, ev, u, v, rfl⟩
  have hi : i < n.length := by
   have := (List.getElem?_eq_some_iff.mp hx).1
   rw [List.length_map] at this
   omega
  obtain ⟨b, eb, eat, et, el, er⟩ := (hR.same sm).at hi
  rw [List.getElem?_map, eb] at hx
  cases hx
  have hrl : (row n i).length ≤ 1000 := Nat.le_trans (row_le n i) ht
  refine eg_pair rfl (SqT.of et) (eg_name 2 nd (eg_name 3 nd ?_))
  refine run_ifH (fun k H4 => Same H3 H4 ∧ k = decide (((row n i).filter fun z => ss.contains z).length % 2 = 1)) (fun σ' H' => Same H H' ∧ evenAt (n.take (i + 1)) ss = true ∧ ∃ u v, σ' = [some (.ref R), some (.ref a), u, v]) ?_ ?_ ?_ (fun σ' H' h => run_nil h)
  ·refine et_cmp op_eq (ev_op op_mod (ev_blt call_len_seq T.len boot_len (ea_cons (ev_comp (defScope s_l_even) NEv NEv' 1 (pi_list pe_ev) (ev_v 3 ⟨b.2, rfl, ⟨_, SqL.of el⟩, fun D hD => ?_⟩)))))
   refine comp_filt (σ := [some (.ref R), some (.ref a), some (.str n[i].1), some (.ref b.2)]) (fun z => ss.contains z) (small' (by omega)) el hD (fun cl C s₀ H₀ ex v v0 H' R' h => eg_name 4 nd_ev h) (fun cl C s₀ H₀ ex z ys T' h => ?_) (fun cl C s₀ H₀ ex z H' R' h => ev_v 4 h) ?_
   ·refine ei_one (et_cmp op_in_seq (ev_v 4 (ev_v 1 ⟨a, _, rfl, .inl (SqL.of (by rw [upd_ne (ne_of_none (sm _ _ ha) hD)]; exact sm _ _ ha)), rfl, flat_strs _, _, rfl, ?_⟩)))
    show T' (inV (.str z) (ss.map V.str)) _
    rw [inV_strs]
    exact h
   ·refine ea_nil ⟨D, _, rfl, .inl (SqL.of upd_same), ev_int ⟨_, _, rfl, rfl, (by show (0 : Int) < 2; decide), ev_int ⟨rfl, _, rfl, same_new hD _, ?_⟩⟩⟩
    rw [List.length_map]
    refine decide_eq_decide.mpr ⟨fun h => ?_, fun h => ?_⟩
    ·have := V.int.inj h
     omega
    ·have : ((((row n i).filter fun z => ss.contains z).length : Int)) % 2 = 1 := by omega
     exact congrArg V.int this
  ·rintro H4 ⟨s4, e⟩
   have hb := of_decide_eq_true e.symm
   refine run_ret (ev_bl ?_)
   rw [← even_row (ss := ss) hi (by omega)]
   exact q H4 (sm.trans s4)
  ·rintro H4 ⟨s4, e⟩
   have hb := of_decide_eq_false e.symm
   refine run_nil ⟨sm.trans s4, ?_, _, _, rfl⟩
   rw [List.take_add_one, List.getElem?_eq_getElem hi]
   show evenAt (n.take i ++ [n[i]]) ss = true
   rw [even_snoc, ev, ← row_eq hi, Bool.true_and, beq_iff_eq]
   omega
 ·rintro σ H3 ⟨sm, ev, u, v, rfl⟩
  rw [List.length_map, hal, List.take_length] at ev
  refine run_ret (ev_bl ?_)
  rw [← ev]
  exact q H3 sm
noncomputable abbrev NSu : List Str := ["_law_one", "_law_other_here", "_law_first", "_law_second"]
noncomputable abbrev NSu' : List Str := ["_law_one", "_law_other_here", "_law_first", "_law_second", "_law_x"]
theorem scSu : FnScope NSu ["_law_one", "_law_other_here"] (defScope s_l_sum) := ⟨rfl, rfl, rfl, by decide +kernel, rfl, by decide +kernel, by decide +kernel⟩
theorem nd_su : NSu'.Nodup := by decide +kernel
theorem ok_lsum {f : Addr} {fd : FuncData} (F : Fun K "_law_sum" "_law_sum" s_l_sum f fd) (T : Txt mg) : FnOk P w K mg base CX0 1 f fd ["_law_one", "_law_other_here"] spLSum := by
 refine F.gb scSu (fun vs H Q E h => ?_) (fun b0 H vs Q E hr h => ?_)
 ·obtain ⟨a, b, xs, ys, rfl, _⟩ := h
  rfl
 obtain ⟨a, b, xs, ys, rfl, ha, hb, hl, nx, ny, q⟩ := h
 have nd := scSu.nd
 show Run _ _ _ [some (.ref a), some (.ref b), none, none] H
 refine run_setC 2 (defScope s_l_sum) NSu NSu' 1 nd (pi_list pe_ev) (ev_v 0 ⟨a, rfl, ⟨_, SqL.of ha⟩, fun D hD => ?_⟩)
 refine comp_filt (fun z => !ys.contains z) (small' (by omega)) ha hD (fun cl C s0 H0 ex v v0 H' R' h => eg_name 4 nd_su h) (fun cl C s0 H0 ex z zs T' h => ei_one (et_cmp op_notIn_seq (ev_v 4 (ev_v 1 ⟨b, _, rfl, .inl (SqL.of (by rw [upd_ne (ne_of_none hb hD)]; exact hb)), rfl, flat_strs _, _, rfl, ?_⟩)))) (fun cl C s0 H0 ex z H' R' h => ev_v 4 h) ?_
 ·show T' (!inV (.str z) (ys.map V.str)) _
  rw [inV_strs]
  exact h
 have s1 := same_new hD (.lst ((xs.filter fun z => !ys.contains z).map V.str))
 have eD : (upd H D (.lst ((xs.filter fun z => !ys.contains z).map V.str))) D = some (Ls (xs.filter fun z => !ys.contains z)) := upd_same
 show Run _ _ _ [some (.ref a), some (.ref b), some (.ref D), none] (upd H D (.lst ((xs.filter fun z => !ys.contains z).map V.str)))
 generalize upd H D (.lst ((xs.filter fun z => !ys.contains z).map V.str)) = H1 at s1 eD
 have ha1 := s1 _ _ ha
 have hb1 := s1 _ _ hb
 refine run_setC 3 (defScope s_l_sum) NSu NSu' 1 nd (pi_list pe_ev) (ev_v 1 ⟨b, rfl, ⟨_, SqL.of hb1⟩, fun D2 hD2 => ?_⟩)
 refine comp_filt (fun z => !xs.contains z) (small' (by omega)) hb1 hD2 (fun cl C s0 H0 ex v v0 H' R' h => eg_name 4 nd_su h) (fun cl C s0 H0 ex z zs T' h => ei_one (et_cmp op_notIn_seq (ev_v 4 (ev_v 0 ⟨a, _, rfl, .inl (SqL.of (by rw [upd_ne (ne_of_none ha1 hD2)]; exact ha1)), rfl, flat_strs _, _, rfl, ?_⟩)))) (fun cl C s0 H0 ex z H' R' h => ev_v 4 h) ?_
 ·show T' (!inV (.str z) (xs.map V.str)) _
  rw [inV_strs]
  exact h
 have s2 := same_new hD2 (.lst ((ys.filter fun z => !xs.contains z).map V.str))
 have eD2 : (upd H1 D2 (.lst ((ys.filter fun z => !xs.contains z).map V.str))) D2 = some (Ls (ys.filter fun z => !xs.contains z)) := upd_same
 show Run _ _ _ [some (.ref a), some (.ref b), some (.ref D), some (.ref D2)] (upd H1 D2 (.lst ((ys.filter fun z => !xs.contains z).map V.str)))
 have eD := s2 _ _ eD
 generalize upd H1 D2 (.lst ((ys.filter fun z => !xs.contains z).map V.str)) = H2 at s2 eD2 eD
 have f1 := List.length_filter_le (fun z => !ys.contains z) xs
 have f2 := List.length_filter_le (fun z => !xs.contains z) ys
 have ndp : ((xs.filter fun z => !ys.contains z) ++ (ys.filter fun z => !xs.contains z)).Nodup := List.nodup_append.mpr ⟨nx.filter _, ny.filter _, fun x hx y hy e => by
  rw [List.mem_filter] at hx hy
  subst e
  have := hy.2
  simp [hx.1] at this⟩
 have mem : ∀ z, z ∈ (xs.filter fun z => !ys.contains z) ++ (ys.filter fun z => !xs.contains z) ↔ (if z ∈ xs then z ∉ ys else z ∈ ys) := fun z => by
  rw [List.mem_append, List.mem_filter, List.mem_filter]
  by_cases q1 : z ∈ xs <;> by_cases q2 : z ∈ ys <;> simp [q1, q2]
 refine run_ret (ev_blt call_sorted_strs T.sorted PyProof.Rows.boot_sorted (ea_cons (ev_op op_cat (ev_v 2 (ev_v 3 ⟨D, D2, _, _, rfl, rfl, eD, eD2, ?_, fun l hl2 => ?_⟩)))))
 ·rw [List.length_map, List.length_map]
  exact small (by omega)
 rw [← List.map_append]
 generalize (xs.filter fun z => !ys.contains z) ++ (ys.filter fun z => !xs.contains z) = L at ndp mem hl2 ⊢
 have s3 := s2.trans (same_new hl2 (Ls L))
 have lL : L.length < 64 := by
  have := nodup_le (b := xs ++ ys) ndp fun z hz => by
   have := (mem z).mp hz
   rw [List.mem_append]
   by_cases k : z ∈ xs
   ·exact .inl k
   ·rw [if_neg k] at this
    exact .inr this
  rw [List.length_append] at this
  omega
 refine ea_nil ⟨l, L, rfl, SqL.of upd_same, lL, fun l4 ss hl4 hpm hso => ?_⟩
 have s4 := s1.trans s3
 exact q l4 ss _ (s4.trans (same_new hl4 _)) (s4.free hl4) upd_same (srt_of hso (hpm.nodup_iff.mpr ndp)) fun z => by rw [hpm.mem_iff]; exact mem z
end
end M2
namespace Nt
open PySem L2
theorem srt_insY (x : Str) : ∀ {sd : List Str}, Srt sd → ∃ sd', Srt sd' ∧ ∀ y, y ∈ sd' ↔ y = x ∨ y ∈ sd
 | [], _ => ⟨[x], List.pairwise_singleton _ _, fun y => by simp⟩
 | a :: r, h => by
  have h' := List.pairwise_cons.mp h
  by_cases q : x.cps.toList < a.cps.toList
  ·refine ⟨x :: a :: r, List.pairwise_cons.mpr ⟨fun y hy => ?_, h⟩, fun y => by simp⟩
   rcases List.mem_cons.mp hy with e | e
   ·rw [e]; exact q
   ·exact List.lt_trans q (h'.1 y e)
  ·rcases List.le_iff_lt_or_eq.mp (List.not_lt.mp q) with q2 | q2
   ·obtain ⟨sd', s1, s2⟩ := srt_insY x h'.2
    refine ⟨a :: sd', List.pairwise_cons.mpr ⟨fun y hy => ?_, s1⟩, fun y => ?_⟩
    ·rcases (s2 y).mp hy with e | e
     ·rw [e]; exact q2
     ·exact h'.1 y e
    ·rw [List.mem_cons, s2, List.mem_cons]
     constructor
     ·rintro (e | e | e)
      ·exact .inr (.inl e)
      ·exact .inl e
      ·exact .inr (.inr e)
     ·rintro (e | e | e)
      ·exact .inr (.inl e)
      ·exact .inl e
      ·exact .inr (.inr e)
   ·refine ⟨a :: r, h, fun y => ?_⟩
    have : a = x := SetT.str_ext q2
    subst this
    simp
theorem srt_someY : ∀ L : List Str, ∃ sd, Srt sd ∧ ∀ y, y ∈ sd ↔ y ∈ L
 | [] => ⟨[], List.Pairwise.nil, fun _ => Iff.rfl⟩
 | x :: L => by
  obtain ⟨sd, h1, h2⟩ := srt_someY L
  obtain ⟨sd', h3, h4⟩ := srt_insY x h1
  exact ⟨sd', h3, fun y => by rw [h4, h2, List.mem_cons]⟩
noncomputable abbrev vB (b : Bool) : V := .int (if b then 1 else 0)
theorem vB_inj {b c : Bool} (h : vB b = vB c) : b = c := by
 cases b <;> cases c <;> first | rfl | (exact absurd (V.int.inj h) (by decide))
structure FxI (n : Net) (ss : List Str) (kvs : List (Key × V)) : Prop where
 nod : (kvs.map (·.1)).Nodup
 num : ∀ k ∈ kvs.map (·.1), ∃ r : Nat, k = Sum.inl (r : Int) ∧ r < n.length
 val : ∀ (r : Nat) v, valV kvs (Sum.inl (r : Int)) = some v → ∃ b, v = vB b ∧ Way (lksE n ss) (fstN n) (nmA n r) b
 fst : valV kvs (Sum.inl ((0 : Nat) : Int)) = some (vB false)
theorem FxI.start {n : Net} {ss : List Str} (h0 : 0 < n.length) : FxI n ss (putK [] (Sum.inl 0) (.int 0)) := by
 have hv : ∀ r : Nat, valV (putK ([] : List (Key × V)) (Sum.inl 0) (.int 0)) (Sum.inl (r : Int)) = if r = 0 then some (.int 0) else none := fun r => by
  rw [valV_put]
  by_cases h : r = 0
  ·subst h
   rfl
  ·rw [if_neg h, if_neg (fun q => h (by have := Sum.inl.inj q; omega))]
   rfl
 refine ⟨by show ([Sum.inl 0] : List Key).Nodup; simp, fun k hk => ⟨0, by simpa [putK] using hk, h0⟩, fun r v h => ?_, (hv 0).trans (if_pos rfl)⟩
 rw [hv] at h
 by_cases c : r = 0
 ·rw [if_pos c] at h
  cases h
  subst c
  exact ⟨false, rfl, .here⟩
 ·rw [if_neg c] at h
  cases h
theorem FxI.len {n : Net} {ss : List Str} {kvs : List (Key × V)} (I : FxI n ss kvs) : kvs.length ≤ n.length := by
 have := nodup_le I.nod (b := (List.range n.length).map fun r => Sum.inl ((r : Nat) : Int)) fun k hk => by
  obtain ⟨r, e, h⟩ := I.num k hk
  exact List.mem_map.mpr ⟨r, List.mem_range.mpr h, e.symm⟩
 rw [List.length_map, List.length_map, List.length_range] at this
 exact this
theorem FxI.way {n : Net} {ss : List Str} {kvs : List (Key × V)} (I : FxI n ss kvs) {e : End} {z : Str} {b : Bool} (hz : tieAt n e = some z) (hb : valV kvs (Sum.inl (e.1 : Int)) = some (vB b)) : Way (lksE n ss) (fstN n) (nmA n (other n e).1) (b != decide (z ∈ ss)) := by
 obtain ⟨b', q, w⟩ := I.val e.1 _ hb
 have := vB_inj q
 subst this
 rcases (lksE_tells (n := n) (ss := ss)).to e z hz with t | t
 ·exact .there w t
 ·exact .back w t
theorem FxI.add {n : Net} (T : Twice n) {ss : List Str} {kvs : List (Key × V)} (I : FxI n ss kvs) {e : End} {z : Str} {b : Bool} (hz : tieAt n e = some z) (hb : valV kvs (Sum.inl (e.1 : Int)) = some (vB b)) (hn : valV kvs (Sum.inl ((other n e).1 : Int)) = none) :
  FxI n ss (putK kvs (Sum.inl ((other n e).1 : Int)) (vB (b != decide (z ∈ ss)))) ∧ (putK kvs (Sum.inl ((other n e).1 : Int)) (vB (b != decide (z ∈ ss)))).length = kvs.length + 1 := by
 have w := I.way hz hb
 have hlt := other_lt T hz
 have hnk := val_none hn
 refine ⟨⟨?_, fun k hk => ?_, fun r v hv => ?_, ?_⟩, ?_⟩
 ·rw [keysP, if_neg hnk]
  exact nd_snoc I.nod hnk
 ·rw [keysP, if_neg hnk] at hk
  rcases List.mem_append.mp hk with hk | hk
  ·exact I.num k hk
  ·exact ⟨_, List.mem_singleton.mp hk, hlt⟩
 ·rw [valV_put] at hv
  by_cases q : r = (other n e).1
  ·rw [if_pos (by rw [q])] at hv
   cases hv
   exact ⟨_, rfl, by rw [q]; exact w⟩
  ·rw [if_neg (inl_ne q)] at hv
   exact I.val r v hv
 ·have hv := I.fst
  rw [valV_put, if_neg (fun q => by rw [q, hn] at hv; cases hv)]
  exact hv
 ·have := congrArg List.length (keysP kvs (Sum.inl ((other n e).1 : Int)) (vB (b != decide (z ∈ ss))))
  rw [if_neg hnk, List.length_append, List.length_map, List.length_map] at this
  exact this
noncomputable def Shut (n : Net) (kvs : List (Key × V)) (z : Str) : Prop := ∀ e, tieAt n e = some z → valV kvs (Sum.inl (e.1 : Int)) ≠ none → valV kvs (Sum.inl ((other n e).1 : Int)) ≠ none
theorem FxI.all {n : Net} (T : Twice n) (hg : Hang n) (h0 : 0 < n.length) (hn : (n.map (·.1)).Nodup) {ss : List Str} {kvs : List (Key × V)} (I : FxI n ss kvs) (hs : ∀ z ∈ ties n, Shut n kvs z) : ∀ r, r < n.length → ∃ b, valV kvs (Sum.inl (r : Int)) = some (vB b) := fun r hr => by
 have one : ∀ i, valV kvs (Sum.inl ((i : Nat) : Int)) ≠ none → ∃ b, valV kvs (Sum.inl (i : Int)) = some (vB b) := fun i hi => by
  obtain ⟨v, hv⟩ := Option.ne_none_iff_exists'.mp hi
  obtain ⟨b, e, _⟩ := I.val i v hv
  exact ⟨b, by rw [hv, e]⟩
 refine one r ?_
 have := hg (fun x => ∃ i, i < n.length ∧ nmA n i = x ∧ valV kvs (Sum.inl ((i : Nat) : Int)) ≠ none) ⟨n[0], List.getElem_mem h0, 0, h0, nmA_eq h0, by rw [I.fst]; exact fun z => nomatch z⟩ (fun r hr s hs' t tr ts ⟨i, hi, e, hb⟩ => ?_) n[r] (List.getElem_mem hr)
 ·obtain ⟨i, hi, e, hb⟩ := this
  rw [← nmA_eq hr] at e
  rw [← nmA_inj hn hi hr e]
  exact hb
 ·obtain ⟨k, hk, rfl⟩ := List.mem_iff_getElem.mp hr
  obtain ⟨j, hj, rfl⟩ := List.mem_iff_getElem.mp hs'
  rw [← nmA_eq hk] at e
  have := nmA_inj hn hi hk e
  subst this
  obtain ⟨p, hp⟩ := List.getElem?_of_mem tr
  obtain ⟨q, hq⟩ := List.getElem?_of_mem ts
  have h1 : tieAt n (i, p) = some t := by show (row n i)[p]? = _; rw [row_eq hi]; exact hp
  have h2 : tieAt n (j, q) = some t := by show (row n j)[q]? = _; rw [row_eq hj]; exact hq
  refine ⟨j, hj, nmA_eq hj, ?_⟩
  rcases (tie_two T h1).mp h2 with e | e
  ·have : j = i := congrArg (·.1) e
   subst this
   exact hb
  ·have := hs t (tie_mem h1) (i, p) h1 hb
   rw [← e] at this
   exact this
theorem FxI.bad {n : Net} (T : Twice n) {ss : List Str} {kvs : List (Key × V)} (I : FxI n ss kvs) {e : End} {z : Str} {b c : Bool} (hz : tieAt n e = some z) (hb : valV kvs (Sum.inl (e.1 : Int)) = some (vB b)) (hc : valV kvs (Sum.inl ((other n e).1 : Int)) = some (vB c))
  (hne : (b != c) ≠ decide (z ∈ ss)) : ∀ sd, ¬ IsSide n ss sd := fun sd hs => by
 obtain ⟨c', q, w⟩ := I.val _ _ hc
 have := vB_inj q
 subst this
 have e1 := way_side T lksE_tells hs w
 have e2 := way_side T lksE_tells hs (I.way hz hb)
 rw [e1] at e2
 apply hne
 rw [e2]
 cases b <;> cases decide (z ∈ ss) <;> rfl
theorem FxI.whole {n : Net} (T : Twice n) (hn : (n.map (·.1)).Nodup) (h0 : 0 < n.length) {ss : List Str} {kvs : List (Key × V)} (I : FxI n ss kvs) (ha : ∀ r, r < n.length → ∃ b, valV kvs (Sum.inl (r : Int)) = some (vB b)) (hss : ∀ z ∈ ss, z ∈ ties n)
  (hok : ∀ z ∈ ties n, ∃ e b c, tieAt n e = some z ∧ valV kvs (Sum.inl (e.1 : Int)) = some (vB b) ∧ valV kvs (Sum.inl ((other n e).1 : Int)) = some (vB c) ∧ (b != c) = decide (z ∈ ss)) : ∃ sd, IsSide n ss sd := by
 obtain ⟨sd, h1, h2⟩ := srt_someY (((List.range n.length).filter fun (r : Nat) => decide (valV kvs (Sum.inl (r : Int)) = some (vB true))).map (nmA n))
 have mem : ∀ r, r < n.length → ∀ b, valV kvs (Sum.inl (r : Int)) = some (vB b) → decide (nmA n r ∈ sd) = b := fun r hr b hb => by
  have : nmA n r ∈ sd ↔ b = true := by
   rw [h2, List.mem_map]
   constructor
   ·rintro ⟨i, hi, e⟩
    rw [List.mem_filter, List.mem_range] at hi
    have := nmA_inj hn hi.1 hr e
    subst this
    have h3 := of_decide_eq_true hi.2
    rw [hb] at h3
    exact vB_inj (Option.some.inj h3)
   ·intro e
    subst e
    exact ⟨r, List.mem_filter.mpr ⟨List.mem_range.mpr hr, decide_eq_true hb⟩, rfl⟩
  by_cases q : b = true
  ·rw [q]; exact decide_eq_true (this.mpr q)
  ·rw [Bool.not_eq_true] at q
   rw [q]
   exact decide_eq_false fun k => by rw [this.mp k] at q; cases q
 refine ⟨sd, h1, fun x hx => ?_, fun hx => ?_, fun z => ?_⟩
 ·obtain ⟨i, hi, rfl⟩ := List.mem_map.mp ((h2 x).mp hx)
  exact at_name (List.mem_range.mp (List.mem_filter.mp hi).1)
 ·have := mem 0 h0 false I.fst
  exact absurd hx (of_decide_eq_false this)
 ·by_cases hz : z ∈ ties n
  ·obtain ⟨e, b, c, he, hb, hc, hbc⟩ := hok z hz
   rw [cut_iff T he, mem _ (row_lt he) b hb, mem _ (other_lt T he) c hc, hbc]
   exact ⟨fun h => decide_eq_true h, fun h => of_decide_eq_true h⟩
  ·exact ⟨fun h => absurd (hss z h) hz, fun h => absurd (cut_mem h) hz⟩
end Nt
namespace L2
open PySem PySem.Spec PyProof.Rows
theorem cells_app : ∀ (names : List (Str × NameKind)) (n : Nat) (acc : List (Str × Addr)), cellsFrom n names acc = cellsFrom n names [] ++ acc
 | [], _, _ => rfl
 | (y, k) :: r, n, acc => by
  unfold cellsFrom
  split
  ·rw [cells_app r (n + 1) ((y, n) :: acc), cells_app r (n + 1) [(y, n)], List.append_assoc]
   rfl
  ·exact cells_app r n acc
theorem mem_cells : ∀ (names : List (Str × NameKind)) (n : Nat) {x : Str} {c : Addr}, (x, c) ∈ cellsFrom n names [] → (x, NameKind.cell) ∈ names ∧ n ≤ c
 | [], _, _, _, h => by cases h
 | (y, k) :: r, n, x, c, h => by
  unfold cellsFrom at h
  split at h
  ·rename_i hk
   rw [cells_app, List.mem_append] at h
   rcases h with h | h
   ·obtain ⟨a, b⟩ := mem_cells r (n + 1) h
    exact ⟨List.mem_cons_of_mem _ a, by omega⟩
   ·cases List.mem_singleton.mp h
    have : k = .cell := by cases k <;> first | rfl | exact absurd hk (by decide)
    subst this
    exact ⟨List.mem_cons_self, Nat.le_refl _⟩
  ·obtain ⟨a, b⟩ := mem_cells r n h
   exact ⟨List.mem_cons_of_mem _ a, b⟩
theorem cells_split {names : List (Str × NameKind)} {n : Nat} {cl : List (Str × Addr)} {x : Str} {c : Addr} (h : (cellsFrom n names cl).lookup x = some c) : ((x, c) ∈ cellsFrom n names [] ∧ n ≤ c) ∨ cl.lookup x = some c := by
 rw [cells_app, List.lookup_append] at h
 cases e : (cellsFrom n names []).lookup x with
 | some d =>
  rw [e] at h
  cases h
  have hm := PySem.mem_of_lookup e
  exact .inl ⟨hm, (mem_cells _ _ hm).2⟩
 | none =>
  rw [e] at h
  exact .inr h
theorem cells_old {names : List (Str × NameKind)} {n : Nat} {cl : List (Str × Addr)} {x : Str} (h : (x, NameKind.cell) ∉ names) : (cellsFrom n names cl).lookup x = cl.lookup x := by
 rw [cells_app, List.lookup_append]
 cases e : (cellsFrom n names []).lookup x with
 | some d => exact absurd (mem_cells _ _ (PySem.mem_of_lookup e)).1 h
 | none => rfl
section
variable {M : Model} {A : Around} {E : Value → Shared → Prop} {s : Shared}
theorem newEnv_cells {scope : Scope} {globals : Addr} {closure : List (Str × Addr)} {qual : Str} {func : Option Addr} {code : Value} {outer : Env} {builtins : Addr} {Q : Env → Shared → Prop}
  (hQ : ∀ h', h'.Ns s.heap.objs.size (fun _ => none) → (∀ b o, s.heap.get? b = some o → h'.get? b = some o) → CellsOk h' (s.heap.objs.size + 1) (cellsFrom (s.heap.objs.size + 1) scope.names []) →
   Q (newEnv scope s.heap.objs.size globals (cellsFrom (s.heap.objs.size + 1) scope.names closure) qual func code (some outer) builtins) { s with heap := h' }) :
  wpAny M A (newFunctionEnv scope globals closure [] qual func code (some outer) builtins) Q E s := by
 simp only [newFunctionEnv, Option.isSome_some, if_true]
 refine wpAny_bind (wpAny_alloc ?_)
 refine wpAny_bind (wpAny_layCells _ (fun name kind cells => by cases hkc : kind == NameKind.cell <;> simp [hkc]) _ _ _ _ ?_)
 have ok := cellsFrom_ok scope.names (s.heap.push { cls := .type "dict", data := .dict #[] }) (s.heap.objs.size + 1) [] ⟨fun _ _ hm => (nomatch hm), List.Pairwise.nil⟩ (by rw [Heap.size_push]; exact Nat.le_refl _)
 rw [Heap.size_push] at ok
 rw [show ({ s with heap := s.heap.push { cls := .type "dict", data := .dict #[] } } : Shared).heap.objs.size = s.heap.objs.size + 1 from Heap.size_push ..]
 rw [List.forIn_nil]
 exact wpAny_bind (wpAny_pure (wpAny_pure (hQ _ ((Heap.Ns.new s.heap (.type "dict")).keeps (pushCells_keeps _ _)) (fun b o e => pushCells_keeps _ _ b o (Heap.get?_push_of_some _ e)) ok)))
end
noncomputable def cxCompC (X : Cx) (N' : List Str) (scope : Scope) (cl : List (Str × Addr)) (C : Addr) (s₀ : Shared) (H₀ : Hp) (ex : List Addr) : Cx :=
 { cxComp X N' scope cl C s₀ H₀ ex with fn := fun x => match scope.names.lookup x with | some .cell => true | _ => false }
noncomputable def compOkC (sc scope : Scope) (N N' : List Str) : Bool :=
 (match scope.kind with | .function => true | _ => false) &&
 scope.names.all (fun y => match y.2 with
  | .cell => (match scope.names.lookup y.1 with | some .cell => true | _ => false)
  | .local => (match scope.names.lookup y.1 with | some .local => true | _ => false)
  | .free => (match sc.names.lookup y.1 with | some .cell => true | some .free => true | _ => false) && (match scope.names.lookup y.1 with | some .free => true | _ => false)
  | _ => true) &&
 (List.range N'.length).all fun i => match N'[i]? with
  | none => true
  | some x => match scope.names.lookup x with
   | some .local => decide (N.length ≤ i)
   | some .cell => decide (N.length ≤ i)
   | some .free => decide (N[i]? = some x)
   | _ => true
structure CompOkC (sc scope : Scope) (N N' : List Str) : Prop where
 kind : scope.kind = .function
 cell : ∀ y ∈ scope.names, y.2 = .cell → scope.names.lookup y.1 = some .cell
 names : ∀ y ∈ scope.names, y.2 = .local → scope.names.lookup y.1 = some .local
 free : ∀ y ∈ scope.names, y.2 = .free → sc.names.lookup y.1 = some .cell ∨ sc.names.lookup y.1 = some .free
 freeL : ∀ y ∈ scope.names, y.2 = .free → scope.names.lookup y.1 = some .free
 own : ∀ (i : Nat) x, N'[i]? = some x → scope.names.lookup x = some .local → N.length ≤ i
 ownC : ∀ (i : Nat) x, N'[i]? = some x → scope.names.lookup x = some .cell → N.length ≤ i
 out : ∀ (i : Nat) x, N'[i]? = some x → scope.names.lookup x = some .free → N[i]? = some x
theorem CompOkC.of {sc scope : Scope} {N N' : List Str} (h : compOkC sc scope N N' = true) : CompOkC sc scope N N' := by
 unfold compOkC at h
 rw [Bool.and_eq_true, Bool.and_eq_true] at h
 obtain ⟨⟨h1, h2⟩, h3⟩ := h
 have h2' := List.all_eq_true.mp h2
 have h3' := List.all_eq_true.mp h3
 refine ⟨?_, fun y hy e => ?_, fun y hy e => ?_, fun y hy e => ?_, fun y hy e => ?_, fun i x hi e => ?_, fun i x hi e => ?_, fun i x hi e => ?_⟩
 ·revert h1; cases scope.kind <;> intro h1 <;> first | rfl | cases h1
 ·have q := h2' y hy
  rw [e] at q
  simp only at q
  split at q
  ·assumption
  ·cases q
 ·have q := h2' y hy
  rw [e] at q
  simp only at q
  split at q
  ·assumption
  ·cases q
 ·have q := h2' y hy
  rw [e] at q
  simp only at q
  rw [Bool.and_eq_true] at q
  have q := q.1
  split at q
  ·exact .inl (by assumption)
  ·exact .inr (by assumption)
  ·cases q
 ·have q := h2' y hy
  rw [e] at q
  simp only at q
  rw [Bool.and_eq_true] at q
  have q := q.2
  split at q
  ·assumption
  ·cases q
 ·have q := h3' i (List.mem_range.mpr (List.getElem?_eq_some_iff.mp hi).1)
  rw [hi] at q
  simp only [e] at q
  exact of_decide_eq_true q
 ·have q := h3' i (List.mem_range.mpr (List.getElem?_eq_some_iff.mp hi).1)
  rw [hi] at q
  simp only [e] at q
  exact of_decide_eq_true q
 ·have q := h3' i (List.mem_range.mpr (List.getElem?_eq_some_iff.mp hi).1)
  rw [hi] at q
  simp only [e] at q
  exact of_decide_eq_true q
section
variable {X : Cx} {pins : List (Addr × Obj)} {σ : St} {H : Hp} {s : Shared}
theorem inv_compC {N' : List Str} {scope : Scope} {n : Nat} {fp : List Addr} {h₁ : Heap} {t' : Nat} {m : Str → Option Value} (I : Inv X pins σ H s) (ck : CompOkC X.env.scope scope X.N N') (hl : N'.length = X.N.length + n)
  (hns : h₁.Ns s.heap.objs.size m) (old : ∀ b o, s.heap.get? b = some o → h₁.get? b = some o) (hcs : CellsOk h₁ (s.heap.objs.size + 1) (cellsFrom (s.heap.objs.size + 1) scope.names []))
  (hfp : ∀ b ∈ fp, FpOk X pins H b ∧ b < s.heap.objs.size) :
  Inv (cxCompC X N' scope (cellsFrom (s.heap.objs.size + 1) scope.names (closeL scope.names X.env.cells [])) s.heap.objs.size s H fp) [] (σ ++ List.replicate n none) H { s with heap := h₁, toks := t' } := by
 have sub : ∀ x c, (closeL scope.names X.env.cells []).lookup x = some c → X.env.cells.lookup x = some c := fun x c e => closeL_sub _ _ _ (fun _ _ z => by simp at z) x c (PySem.mem_of_lookup e)
 have both : ∀ x c, (cellsFrom (s.heap.objs.size + 1) scope.names (closeL scope.names X.env.cells [])).lookup x = some c → ((x, c) ∈ cellsFrom (s.heap.objs.size + 1) scope.names [] ∧ s.heap.objs.size + 1 ≤ c) ∨ X.env.cells.lookup x = some c := fun x c e => by
  rcases cells_split e with z | z
  ·exact .inl z
  ·exact .inr (sub x c z)
 have oldlt : ∀ x c, X.env.cells.lookup x = some c → c < s.heap.objs.size := fun x c e => by
  obtain ⟨v, o, ho, _⟩ := I.cell x c e
  exact Heap.lt_size ho
 have fre : H s.heap.objs.size = none := I.hok.fresh (Nat.le_refl _)
 have kindOf : ∀ {x : Str} {k' : NameKind}, (relabel scope X.env).names.lookup x = some k' → ∃ k, scope.names.lookup x = some k ∧ (k' = k ∨ (k = .free ∧ k' = .cell)) := fun z => lookup_relabel_vis z
 have frl : ∀ x, scope.names.lookup x = some .free → (cellsFrom (s.heap.objs.size + 1) scope.names (closeL scope.names X.env.cells [])).lookup x = (closeL scope.names X.env.cells []).lookup x := fun x e => cells_old fun hm => by
  have := ck.cell _ hm rfl
  rw [e] at this
  cases this
 have hasC : ∀ x, scope.names.lookup x = some .cell → ∃ c, (cellsFrom (s.heap.objs.size + 1) scope.names (closeL scope.names X.env.cells [])).lookup x = some c := fun x e => Option.isSome_iff_exists.mp (PySem.W.cellsFrom_some _ _ _ (.inl e))
 have ok' : (cxCompC X N' scope (cellsFrom (s.heap.objs.size + 1) scope.names (closeL scope.names X.env.cells [])) s.heap.objs.size s H fp).Ok := by
  refine ⟨I.ok.mod, ck.kind, I.ok.glob, I.ok.blt, Nat.le_refl _, fun x y c e1 e2 => ?_, fun x hx => ?_, fun x c hf e => ?_, I.ok.hd, I.ok.frames, .inl rfl, fun b hb => ⟨Nat.ne_of_lt (hfp b hb).2, fun x c e => ?_⟩,
   I.bs, Nat.le_trans I.ok.bsz I.sz, fun b o e hb => ?_, fun b hb hf => ?_, I.stack, I.stkFree⟩
  ·rcases both x c e1 with z1 | z1
   ·rcases both y c e2 with z2 | z2
    ·exact name_of_addr hcs.apart z1.1 z2.1
    ·exact absurd (oldlt y c z2) (Nat.not_lt.mpr (Nat.le_of_succ_le z1.2))
   ·rcases both y c e2 with z2 | z2
    ·exact absurd (oldlt x c z1) (Nat.not_lt.mpr (Nat.le_of_succ_le z2.2))
    ·exact I.ok.inj x y c z1 z2
  ·have hx' : (relabel scope X.env).names.lookup x = some .cell ∨ (relabel scope X.env).names.lookup x = some .free := hx
   have : ∃ k, scope.names.lookup x = some k ∧ (k = .free ∨ k = .cell) := by
    rcases hx' with z | z
    ·obtain ⟨k, e, r⟩ := kindOf z
     rcases r with r | ⟨r, _⟩
     ·exact ⟨k, e, .inr r.symm⟩
     ·exact ⟨k, e, .inl r⟩
    ·obtain ⟨k, e, r⟩ := kindOf z
     rcases r with r | ⟨r, _⟩
     ·exact ⟨k, e, .inl r.symm⟩
     ·exact ⟨k, e, .inl r⟩
   obtain ⟨k, e, rfl | rfl⟩ := this
   ·have hm := PySem.mem_of_lookup e
    obtain ⟨c, hc⟩ := I.ok.has x (ck.free _ hm rfl)
    obtain ⟨d, hd⟩ := lookup_of_mem_some (closeL_has scope.names X.env.cells [] x c hm hc)
    exact ⟨d, (frl x e).trans hd⟩
   ·exact hasC x e
  ·have hx : scope.names.lookup x = some .cell := by
    have hf' : (match scope.names.lookup x with | some .cell => true | _ => false) = true := hf
    split at hf'
    ·assumption
    ·cases hf'
   have e' : (cellsFrom (s.heap.objs.size + 1) scope.names (closeL scope.names X.env.cells [])).lookup x = some c := e
   have q1 := Option.isSome_iff_exists.mp (PySem.W.cellsFrom_some scope.names (s.heap.objs.size + 1) [] (.inl hx))
   obtain ⟨d, hd⟩ := q1
   rw [cells_app, List.lookup_append, hd] at e'
   have e2 : d = c := Option.some.inj e'
   have := (mem_cells _ _ (PySem.mem_of_lookup hd)).2
   rw [← e2]
   exact Nat.le_of_succ_le this
  ·have e' : (cellsFrom (s.heap.objs.size + 1) scope.names (closeL scope.names X.env.cells [])).lookup x = some c := e
   rcases both x c e' with z | z
   ·have h1 := (hfp b hb).2
    have h2 := z.2
    exact fun k => absurd h1 (Nat.not_lt.mpr (by rw [← k]; exact Nat.le_of_succ_le h2))
   ·exact (hfp b hb).1.2.2.2.2.1 x c z
  ·have := (hfp b hb).1.2.2.2.1
   rcases this with z | z
   ·exact I.ok.noex b o e z
   ·exact absurd (Nat.lt_of_lt_of_le (Heap.lt_size e) (Nat.le_trans I.ok.bsz z)) (Nat.lt_irrefl _)
  ·rcases List.mem_cons.mp (I.stkSub b hf) with z | z
   ·exact (hfp b hb).1.2.1 z
   ·exact (hfp b hb).1.2.2.1 z
 refine ⟨ok', rfl, I.bare, Un.kept old, ⟨m, hns, fun i x v e1 e2 e3 => ?_⟩, fun x c e => ?_, fre, fun x c e => ?_, fun p hp => absurd hp (by simp [cxCompC, cxComp]), I.hok.kept old, ?_⟩
 ·have hi : i < σ.length := by
   by_cases hi : i < σ.length
   ·exact hi
   ·rw [List.getElem?_append_right (by omega), List.getElem?_replicate] at e2
    split at e2 <;> cases e2
  rw [List.getElem?_append_left hi] at e2
  have e1' : N'[i]? = some x := e1
  have vis : ∃ k', (relabel scope X.env).names.lookup x = some k' ∧ (k' = .local ∨ k' = .cell ∨ k' = .free) := by
   rcases e3 with z | z | z
   ·exact ⟨_, z, .inl rfl⟩
   ·exact ⟨_, z, .inr (.inl rfl)⟩
   ·exact ⟨_, z, .inr (.inr rfl)⟩
  obtain ⟨k', ek', hk'⟩ := vis
  obtain ⟨k, ek, r⟩ := kindOf ek'
  have kf : k = .free := by
   rcases r with r | ⟨r, _⟩
   ·subst r
    rcases hk' with z | z | z
    ·subst z
     have := ck.own i x e1' ek
     rw [I.len] at hi
     omega
    ·subst z
     have := ck.ownC i x e1' ek
     rw [I.len] at hi
     omega
    ·exact z
   ·exact r
  subst kf
  have hm := PySem.mem_of_lookup ek
  have hxN := ck.out i x e1' ek
  obtain ⟨m0, hn0, hl0⟩ := I.loc
  have kx := ck.free _ hm rfl
  obtain ⟨u, ru, lk⟩ := hl0 i x v hxN e2 (by rcases kx with z | z; exact .inr (.inl z); exact .inr (.inr z))
  refine ⟨u, ru, .inr ⟨?_, ?_⟩⟩
  ·rcases r with r | ⟨_, r⟩
   ·subst r
    exact .inr ek'
   ·subst r
    exact .inl ek'
  ·rcases lk with ⟨k1, _⟩ | ⟨_, c, hc, hcell⟩
   ·have k1' : X.env.scope.names.lookup x = some .local := k1
    rcases kx with z | z
    ·rw [k1'] at z; cases z
    ·rw [k1'] at z; cases z
   ·have hin := closeL_has scope.names X.env.cells [] x c hm hc
    obtain ⟨d, hd⟩ := lookup_of_mem_some hin
    have : d = c := Option.some.inj ((sub x d hd).symm.trans hc)
    subst this
    obtain ⟨o, ho, hdat⟩ := hcell
    exact ⟨d, (frl x ek).trans hd, o, old _ _ ho, hdat⟩
 ·have e' : (cellsFrom (s.heap.objs.size + 1) scope.names (closeL scope.names X.env.cells [])).lookup x = some c := e
  rcases both x c e' with z | z
  ·exact ⟨none, (hcs.empty x c z.1).1⟩
  ·obtain ⟨v, o, ho, hdat⟩ := I.cell x c z
   exact ⟨v, o, old _ _ ho, hdat⟩
 ·have e' : (cellsFrom (s.heap.objs.size + 1) scope.names (closeL scope.names X.env.cells [])).lookup x = some c := e
  rcases both x c e' with z | z
  ·exact I.hok.fresh (Nat.le_of_succ_le z.2)
  ·exact I.freeC x c z
 ·rw [List.length_append, List.length_replicate, I.len]
  exact hl.symm
end
section
variable {X : Cx} {elt tg iter : Expr} {ifs : List Expr} {scope : Scope} {pos : Pos} {N' : List Str} {n : Nat} {wi : TI} {g : TG} {tc : TT} {te : TE}
theorem comp_coreC {pins : List (Addr × Obj)} {σ : St} {H2 : Hp} {s2 : Shared} {E : Value → Shared → Prop} {RR : Value → Addr → Result → Shared → Prop} {it : Addr} {fp : List Addr} {tn : Nat → Heap → Prop} {J : It} {Q : VK}
  (hc : X.calm = true) (ck : CompOkC X.env.scope scope X.N N') (hl : N'.length = X.N.length + n)
  (hg : ∀ cl C s₀ H₀ ex, PG (cxCompC X N' scope cl C s₀ H₀ ex) tg g) (hif : ∀ cl C s₀ H₀ ex, PIf (cxCompC X N' scope cl C s₀ H₀ ex) ifs tc) (he : ∀ cl C s₀ H₀ ex, PE (cxCompC X N' scope cl C s₀ H₀ ex) elt te)
  (I2 : Inv X pins σ H2 s2) (T : Turn X.prog X.w X.K tg J fp it tn) (st2 : tn 0 s2.heap) (f2 : ∀ b ∈ fp, FpOk X pins H2 b)
  (q : ∀ D, H2 D = none → ∃ W : Nat → Nat → St → Hp → Prop, (∃ m, W 0 m (σ ++ List.replicate n none) (upd H2 D (.lst []))) ∧ ∀ i m σ' H', W i m σ' H' →
   (J.stop i H' ∧ Q (.ref D) H') ∨ (J.go i H' ∧ ∃ N : St → Hp → Prop, (∀ σ' H', N σ' H' → ∃ m', m' < m ∧ W (i + 1) m' σ' H') ∧ ∀ x H2, J.yld i H' x H2 → g x σ' H2 fun σ2 H3 => tc σ2 H3 fun b H4 =>
    if b = true then te σ2 H4 fun v H5 => ∃ ys, H5 D = some (.lst ys) ∧ ys.length < sizeLine ∧ N σ2 (upd H5 D (.lst (ys ++ [v]))) else N σ2 H4))
  (hRR : ∀ D C H' s' m, Inv X pins σ H' s' → s'.heap.Ns C m → H' C = none → C ≠ X.env.locals → X.s₀.heap.objs.size ≤ C → (∀ x c, X.env.cells.lookup x = some c → c ≠ C) → (∀ p ∈ X.pn ++ pins, p.1 ≠ C) → Q (.ref D) H' → RR (.ref D) C (.ok .next) s') :
  wpAny (model X.prog X.w) X.A (newList []) (fun acc s₃ => wpAny (model X.prog X.w) X.A (newFunctionEnv scope X.env.globals (closeL scope.names X.env.cells []) [] X.env.qual none .none (some X.env)) (fun cenv s₄ =>
   codeAny (model X.prog X.w) X.A (.compStart (.ListComp elt [⟨tg, iter, ifs, 0⟩] scope pos) 0 (.ref it) acc { cenv with scope := relabel scope X.env }) (RR acc cenv.locals) s₄) E s₃) E s2 := by
 refine wpAny_newObj_type (newEnv_cells (fun h₁ hns₁ old₁ hcs₁ => ?_)) (by show (0 : Nat) ≤ sizeLine; exact Nat.zero_le _)
 have hD : H2 s2.heap.objs.size = none := I2.hok.fresh (Nat.le_refl _)
 obtain ⟨W, ⟨m0, w0⟩, turn⟩ := q s2.heap.objs.size hD
 have fl : ∀ b ∈ fp, b < s2.heap.objs.size := fun b hb => by
  obtain ⟨o, e, _⟩ := T.obj 0 _ st2 b hb
  exact Heap.lt_size e
 have I3 : Inv X pins σ (upd H2 s2.heap.objs.size (.lst [])) { s2 with heap := s2.heap.push { cls := .type "list", dict := none, data := .seq ([] : List Value).toArray } } :=
  I2.laid (t' := s2.toks) (fun b o e => Heap.get?_push_of_some _ e) (Nat.le_refl _) (show ObjOk X.prog X.w _ _ _ (.lst []) from ⟨Nat.zero_le _, [], 0, .nil, Heap.get?_push_size _ rfl⟩)
 generalize hs3 : ({ s2 with heap := s2.heap.push { cls := .type "list", dict := none, data := .seq ([] : List Value).toArray } } : Shared) = s3 at I3 hns₁ old₁ hcs₁ ⊢
 have hz3 : s3.heap.objs.size = s2.heap.objs.size + 1 := by rw [← hs3]; exact Heap.size_push ..
 have old2 : ∀ b o, s2.heap.get? b = some o → s3.heap.get? b = some o := fun b o e => by rw [← hs3]; exact Heap.get?_push_of_some _ e
 have old : ∀ b o, s3.heap.get? b = some o → h₁.get? b = some o := old₁
 have f3 : ∀ b ∈ fp, FpOk X pins (upd H2 s2.heap.objs.size (.lst [])) b ∧ b < s3.heap.objs.size := fun b hb => by
  refine ⟨⟨?_, (f2 b hb).2⟩, by rw [hz3]; exact Nat.lt_succ_of_lt (fl b hb)⟩
  rw [upd_ne (Nat.ne_of_lt (fl b hb))]
  exact (f2 b hb).1
 have I4 := fun (t' : Nat) => inv_compC (N' := N') (scope := scope) (n := n) (fp := fp) (h₁ := h₁) (t' := t') I3 ck hl hns₁ old hcs₁ f3
 generalize hX : cxCompC X N' scope (cellsFrom (s3.heap.objs.size + 1) scope.names (closeL scope.names X.env.cells [])) s3.heap.objs.size s3 (upd H2 s2.heap.objs.size (.lst [])) fp = X' at I4
 have eP : X'.prog = X.prog := by rw [← hX]; rfl
 have ew : X'.w = X.w := by rw [← hX]; rfl
 have eK : X'.K = X.K := by rw [← hX]; rfl
 have eA : X'.A = X.A := by rw [← hX]; rfl
 have eE : X'.env = compEnvC scope (cellsFrom (s3.heap.objs.size + 1) scope.names (closeL scope.names X.env.cells [])) s3.heap.objs.size X.env := by rw [← hX]; rfl
 have ec : X'.calm = true := by rw [← hX]; exact hc
 have ex' : X'.xe = fun _ _ => False := by rw [← hX]; rfl
 have hg' : PG X' tg g := by rw [← hX]; exact hg _ _ _ _ _
 have hif' : PIf X' ifs tc := by rw [← hX]; exact hif _ _ _ _ _
 have he' : PE X' elt te := by rw [← hX]; exact he _ _ _ _ _
 have stat : ∀ {H' : Hp}, (∀ b ∈ fp, H' b = none) → ∀ b ∈ fp, FpOk X' [] H' b := fun hn b hb => by
  refine ⟨hn b hb, ?_, ?_, ?_, ?_, ?_⟩
  ·rw [eE]; exact Nat.ne_of_lt (f3 b hb).2
  ·rw [← hX]
   intro hf
   rcases List.mem_cons.mp (I3.stkSub b hf) with z | z
   ·exact (f3 b hb).1.2.1 z
   ·exact (f3 b hb).1.2.2.1 z
  ·rw [← hX]; exact .inl hb
  ·rw [eE]
   intro x c e
   rcases cells_split e with z | z
   ·exact fun k => absurd (f3 b hb).2 (Nat.not_lt.mpr (by rw [← k]; exact Nat.le_of_succ_le z.2))
   ·exact (f3 b hb).1.2.2.2.2.1 x c (closeL_sub _ _ _ (fun _ _ z => by simp at z) x c (PySem.mem_of_lookup z))
  ·rw [← hX]; intro p hp; exact absurd hp (by simp [cxCompC, cxComp])
 have fin : ∀ {σ' : St} {H' : Hp} {s' : Shared}, Inv X' [] σ' H' s' → Q (.ref s2.heap.objs.size) H' → RR (.ref s2.heap.objs.size) s3.heap.objs.size (.ok .next) s' := fun {σ' H' s'} I' q' => by
  obtain ⟨m', hn', _⟩ := id I'.loc
  rw [eE] at hn'
  have hos : s'.os = s3.os := by have := I'.os; rw [← hX] at this; exact this
  have hun : Un (frs X.stack) fp (upd H2 s2.heap.objs.size (.lst [])) H' s3.heap s'.heap := by have := I'.base; rw [← hX] at this; exact this
  have hok : HOk X.prog X.w H' s'.heap := by have := I'.hok; rw [eP, ew] at this; exact this
  have IX : Inv X pins σ H' s' := I3.call' (ch := fp) hos hun hok I'.bare fun b hb => ⟨(f3 b hb).1.2.2.2.1, (f3 b hb).1.2.1, (f3 b hb).1.2.2.2.2.1, (f3 b hb).1.2.2.2.2.2⟩
  have hfr := I'.free
  rw [eE] at hfr
  refine hRR _ _ H' s' m' IX hn' hfr (Nat.ne_of_gt I3.lt) I3.sz (fun x c e z => ?_) (fun p hp z => ?_) q'
  ·obtain ⟨v, o, ho, _⟩ := I3.cell x c e
   exact absurd (Heap.lt_size ho) (by rw [z]; exact Nat.lt_irrefl _)
  ·exact absurd (Heap.lt_size (I3.pin p hp).1) (by rw [z]; exact Nat.lt_irrefl _)
 have loop : ∀ t', codeAny (model X.prog X.w) X.A (.compLoop (.ListComp elt [⟨tg, iter, ifs, 0⟩] scope pos) 0 (.ref it) (.ref s2.heap.objs.size) (compEnvC scope (cellsFrom (s3.heap.objs.size + 1) scope.names (closeL scope.names X.env.cells [])) s3.heap.objs.size X.env)) (RR (.ref s2.heap.objs.size) s3.heap.objs.size) { s3 with heap := h₁, toks := t' } := fun t' => by
  refine codeAny_compLoop_gen (fun k s' => ∃ i σ' H', Inv X' [] σ' H' s' ∧ tn i s'.heap ∧ (∀ b ∈ fp, H' b = none) ∧ W i k σ' H') ?_ m0
   ⟨0, _, _, I4 t', T.keep 0 _ _ st2 fun b _ o e => old b o (old2 b o e), fun b hb => (f3 b hb).1.1, w0⟩
  rintro k s4 ⟨i, σ4, H4, J4, st4, fr4, w4⟩
  rw [← eP, ← ew, ← eA, ← eE]
  rcases turn i k σ4 H4 w4 with ⟨stop, qn⟩ | ⟨go, N, hN, step⟩
  ·have d1 := T.done X' eP ew eK ec i [] s4 σ4 H4 (fun _ _ => False) J4 (stat fr4) st4 stop
   rw [← eP, ← ew] at d1
   refine thnF d1 fun r s5 ⟨hr, I5⟩ => ?_
   subst hr
   exact fin I5 qn
  ·have d1 := T.item X' eP ew eK ec i [] s4 σ4 H4 (fun _ _ => False) J4 (stat fr4) st4 go
   rw [← eP, ← ew] at d1
   refine thnF d1 fun r s5 ⟨u, hr, h5⟩ => ?_
   subst hr
   refine thnF h5 fun _ s6 ⟨x, H6, I6, r6, y6, st6, fr6⟩ => ?_
   have I6' := I6.pinned (stat fr6) (T.obj _ _ st6)
   have again : ∀ {σ7 : St} {H7 : Hp} {s7 : Shared}, Inv X' ([] ++ pinsAt fp s6.heap) σ7 H7 s7 → N σ7 H7 → ∃ m, m < k ∧ ∃ i σ' H', Inv X' [] σ' H' s7 ∧ tn i s7.heap ∧ (∀ b ∈ fp, H' b = none) ∧ W i m σ' H' := fun {σ7 H7 s7} I7 n7 => by
    obtain ⟨m', hm, w7⟩ := hN σ7 H7 n7
    refine ⟨m', hm, i + 1, σ7, H7, I7.unpinned, T.keep _ _ _ st6 fun b hb o e => (I7.pin (b, o) (List.mem_append_right _ (List.mem_append_right _ (mem_pinsAt hb e)))).1, fun b hb => ?_, w7⟩
    obtain ⟨o, e, d⟩ := T.obj _ _ st6 b hb
    exact (I7.pin (b, o) (List.mem_append_right _ (List.mem_append_right _ (mem_pinsAt hb e)))).2.1
   have a1 := hg' _ s6 σ4 H6 x u _ I6' r6 (step x H6 y6)
   rw [ex'] at a1
   refine thnF a1 fun _ s7 ⟨σ7, H7, I7, q7⟩ => ?_
   have a2 := hif' _ s7 σ7 H7 _ I7 q7
   rw [ex'] at a2
   refine thnF a2 fun ok s8 ⟨H8, I8, q8⟩ => ?_
   cases ok with
   | false =>
    rw [if_neg Bool.false_ne_true] at q8 ⊢
    exact again I8 q8
   | true =>
    rw [if_pos rfl] at q8 ⊢
    have a3 := he' _ s8 σ7 H8 _ I8 q8
    rw [ex'] at a3
    refine thnF a3 fun v s9 ⟨vv, H9, I9, r9, ys, hy, hz, q9⟩ => ?_
    have a4 := mt_append (X := X') _ s9 σ7 H9 (.ref s2.heap.objs.size) [vv] (.ref s2.heap.objs.size) [v] (fun _ H' => N σ7 H') I9 rfl (.cons r9 .nil) ⟨_, ys, vv, rfl, rfl, hy, hz, q9⟩
    rw [ex'] at a4
    exact thnF a4 fun _ s10 ⟨_, H10, I10, _, q10⟩ => again I10 q10
 refine codeAny_compStart_list (loop _) (T.self _ 0 _ _ _ ?_ (loop _))
 exact T.keep 0 _ _ st2 fun b _ o e => old b o (old2 b o e)
theorem pe_compC (sc : Scope) (N N' : List Str) (n : Nat) (hi : PI X tg iter wi)
  (hg : ∀ cl C s₀ H₀ ex, PG (cxCompC X N' scope cl C s₀ H₀ ex) tg g) (hif : ∀ cl C s₀ H₀ ex, PIf (cxCompC X N' scope cl C s₀ H₀ ex) ifs tc) (he : ∀ cl C s₀ H₀ ex, PE (cxCompC X N' scope cl C s₀ H₀ ex) elt te)
  (hc : X.calm = true := by rfl) (hsc : X.env.scope = sc := by rfl) (hN : X.N = N := by rfl) (hk : compOkC sc scope N N' = true := by decide +kernel) (hl : N'.length = N.length + n := by rfl)
  (hs : ∀ x, foldedSetIterable iter X.env x = pure x := by intro _; rfl) : PE X (.ListComp elt [⟨tg, iter, ifs, 0⟩] scope pos) (tComp n wi g tc te) := by
 intro pins s σ H Q I h
 subst hsc hN
 have ck := CompOkC.of hk
 rw [eval_ListComp]
 refine wpAny_comprehension_free (use := none) rfl hs (closure_eq fun x hx hf => I.ok.has x.1 (ck.free x hx hf)) ck.kind ck.names (thn (hi pins s σ H _ I h) fun v s1 h1 => thn h1 fun itv s2 h2 => ?_)
 obtain ⟨it, fp, tn, J, H2, e, I2, T, st2, f2, q⟩ := h2
 subst e
 refine comp_coreC (RR := fun acc C => compPost (model X.prog X.w) X.A X.xe none (EP X pins σ Q) acc C) hc ck hl hg hif he I2 T st2 f2 q ?_
 intro D C H' s' m IX hn hC c1 c2 c3 c4 qq
 exact ⟨m, hn, fun h' hs' => ⟨.ref D, H', IX.turned (t' := s'.toks) (fun b o hb e => hs'.extBut b o hb e) hC (Ne.symm (Ne.symm c1)) (.inr c2) c3 c4, rfl, qq⟩⟩
end
noncomputable def CEvC (X : Cx) (N' : List Str) (scope : Scope) (e : Expr) (σ : St) (H : Hp) (Q : VK) : Prop := ∀ cl C s₀ H₀ ex, Ev (cxCompC X N' scope cl C s₀ H₀ ex) e σ H Q
noncomputable def CEgC (X : Cx) (N' : List Str) (scope : Scope) (e : Expr) (v : V) (σ : St) (H : Hp) (Q : St → Hp → Prop) : Prop := ∀ cl C s₀ H₀ ex, Eg (cxCompC X N' scope cl C s₀ H₀ ex) e v σ H Q
noncomputable def CEiC (X : Cx) (N' : List Str) (scope : Scope) (ifs : List Expr) (σ : St) (H : Hp) (Q : Bool → Hp → Prop) : Prop := ∀ cl C s₀ H₀ ex, Ei (cxCompC X N' scope cl C s₀ H₀ ex) ifs σ H Q
noncomputable def CompLC (X : Cx) (N' : List Str) (scope : Scope) (tg : Expr) (ifs : List Expr) (elt : Expr) (J : It) (D : Addr) (after : Hp → Prop) (σ : St) (H : Hp) : Prop :=
 ∃ W : Nat → Nat → St → Hp → Prop, (∃ m, W 0 m σ H) ∧ ∀ i m σ' H', W i m σ' H' →
  (J.stop i H' ∧ after H') ∨ (J.go i H' ∧ ∃ N : St → Hp → Prop, (∀ σ' H', N σ' H' → ∃ m', m' < m ∧ W (i + 1) m' σ' H') ∧ ∀ x H2, J.yld i H' x H2 → CEgC X N' scope tg x σ' H2 fun σ2 H3 => CEiC X N' scope ifs σ2 H3 fun b H4 =>
   if b = true then CEvC X N' scope elt σ2 H4 fun v H5 => ∃ ys, H5 D = some (.lst ys) ∧ ys.length < sizeLine ∧ N σ2 (upd H5 D (.lst (ys ++ [v]))) else N σ2 H4)
section
variable {X : Cx} {elt tg iter c : Expr} {ifs : List Expr} {scope : Scope} {pos p : Pos} {wi : TI} {σ : St} {H : Hp} {Q : VK} {T : Bool → Hp → Prop} {rest : List Stmt} {D : Ends}
theorem ev_compC (sc : Scope) (N N' : List Str) (n : Nat) (hi : PI X tg iter wi)
  (h : wi σ H fun J H1 => ∀ D, H1 D = none → CompLC X N' scope tg ifs elt J D (fun H' => Q (.ref D) H') (σ ++ List.replicate n none) (upd H1 D (.lst [])))
  (hc : X.calm = true := by rfl) (hsc : X.env.scope = sc := by rfl) (hN : X.N = N := by rfl) (hk : compOkC sc scope N N' = true := by decide +kernel) (hl : N'.length = N.length + n := by rfl)
  (hs : ∀ x, foldedSetIterable iter X.env x = pure x := by intro _; rfl) : Ev X (.ListComp elt [⟨tg, iter, ifs, 0⟩] scope pos) σ H Q :=
 ev_of (pe_compC (g := fun v σ H Q => CEgC X N' scope tg v σ H Q) (tc := fun σ H Q => CEiC X N' scope ifs σ H Q) (te := fun σ H Q => CEvC X N' scope elt σ H Q) sc N N' n hi
  (fun cl C s₀ H₀ ex pins s σ H v u Q I r h => (h cl C s₀ H₀ ex).run pins s u I r) (fun cl C s₀ H₀ ex pins s σ H Q I h => (h cl C s₀ H₀ ex).run pins s I) (fun cl C s₀ H₀ ex pins s σ H Q I h => (h cl C s₀ H₀ ex).run pins s I) hc hsc hN hk hl hs) h
end
section
variable {X : Cx} {elt tg : Expr} {ifs : List Expr} {scope : Scope} {σ : St} {H : Hp} {N' : List Str} {A a d : Addr} {xs : List V} {kvs : List (Key × V)} {after : Hp → Prop}
theorem comp_listPC (Pv : Nat → St → Hp → Prop) (h0 : Pv 0 σ H) (hl : ∀ i σ' H', i ≤ xs.length → Pv i σ' H' → SqL X.K H' a xs)
  (hs : ∀ i x σ' H', xs[i]? = some x → Pv i σ' H' → CEgC X N' scope tg x σ' H' fun σ2 H3 => CEiC X N' scope ifs σ2 H3 fun b H4 =>
   if b = true then CEvC X N' scope elt σ2 H4 fun v H5 => ∃ ys, H5 A = some (.lst ys) ∧ ys.length < sizeLine ∧ Pv (i + 1) σ2 (upd H5 A (.lst (ys ++ [v]))) else Pv (i + 1) σ2 H4)
  (hd : ∀ σ' H', Pv xs.length σ' H' → after H') : CompLC X N' scope tg ifs elt (Itl X.K a) A after σ H := by
 refine ⟨fun i m σ' H' => m = xs.length - i ∧ i ≤ xs.length ∧ Pv i σ' H', ⟨_, rfl, Nat.zero_le _, h0⟩, ?_⟩
 rintro i m σ' H' ⟨rfl, hi, p⟩
 have q := hl i σ' H' hi p
 by_cases hlt : i < xs.length
 ·refine .inr ⟨⟨xs, xs[i], q, by simp [hlt]⟩, Pv (i + 1), fun σ' H' p' => ⟨xs.length - (i + 1), by omega, rfl, hlt, p'⟩, fun x H2 y => ?_⟩
  obtain ⟨e, y⟩ := y
  subst e
  exact hs i x σ' _ (y xs q) p
 ·have e : i = xs.length := by omega
  subst e
  exact .inl ⟨⟨xs, q, Nat.le_refl _⟩, hd σ' H' p⟩
end
end L2
namespace L2
open PySem PySem.Spec PyProof.Rows
section
variable {X : Cx} {σ : St} {H : Hp} {D : Ends} {body rest : List Stmt} {a b : Expr}
theorem run_par (i j : Nat) {x y : Str} {px py pt pos : Pos} {kt k2 : Nat} {pt2 : Pos} (hN : X.N.Nodup) (hij : i ≠ j) (h : Ea X [a, b] σ H fun vs H1 => ∃ v w, vs = [v, w] ∧ Run X rest D ((σ.set i (some v)).set j (some w)) H1)
  (hi : X.N[i]? = some x := by rfl) (hj : X.N[j]? = some y := by rfl) (hx : X.env.scope.names.lookup x = some .local := by rfl) (hy : X.env.scope.names.lookup y = some .local := by rfl) (hc : X.calm = true := by rfl)
  (hw : swappedStores [.Tuple [.Name x px, .Name y py] kt pt] (.Tuple [a, b] k2 pt2) X.env = pure (some [x, y]) := by rfl)
  (hs : swapsWithSole [.Tuple [.Name x px, .Name y py] kt pt] (.Tuple [a, b] k2 pt2) pos.line X.env = pure false := by rfl) :
  Run X (.Assign [.Tuple [.Name x px, .Name y py] kt pt] (.Tuple [a, b] k2 pt2) pos :: rest) D σ H :=
 run_cons (ps_par hc hN hi hj hij hx hy pa_ea hw hs) h
theorem run_frz {d : Addr} {kvs : List (Key × V)} {l : List Stmt} (hd : H d = some (.dK kvs)) (h : ∀ o, Run X l D σ (upd H d (.frz o (.dK kvs)))) : Run X l D σ H := by
 refine ⟨fun pins s I => ?_⟩
 obtain ⟨o, ho, I'⟩ := inv_freeze I hd
 exact (h o).run pins s I'
end
end L2
namespace M2
open PySem L2 Nt Sort2
open PyProof.Rows (sortedS)
structure SeatsF (H : Hp) (d : Addr) (o : Obj) (n : Net) (ks : List Str) : Prop where
 dict : ∃ kvs, H d = some (.frz o (.dK kvs)) ∧ kvs.map (·.1) = ks.map Sum.inr ∧ ∀ z ∈ ties n, ∃ a ts, valV kvs (Sum.inr z) = some (.ref a) ∧ H a = some (.lst (ts.map V.ref)) ∧ Pd H ts (pos n z)
 nodup : ks.Nodup
 mem : ∀ z, z ∈ ks ↔ z ∈ ties n
theorem SeatsF.same {H H' : Hp} {d : Addr} {o : Obj} {n : Net} {ks : List Str} (S : SeatsF H d o n ks) (s : Same H H') : SeatsF H' d o n ks := by
 obtain ⟨kvs, h1, h2, h3⟩ := S.dict
 refine ⟨⟨kvs, s _ _ h1, h2, fun z hz => ?_⟩, S.nodup, S.mem⟩
 obtain ⟨a, ts, q1, q2, q3⟩ := h3 z hz
 exact ⟨a, ts, q1, s _ _ q2, q3.keep fun t e h => s _ _ h⟩
theorem pos_tie {n : Net} (T : Twice n) {z : Str} (h : z ∈ ties n) : ∃ x, tieAt n x = some z ∧ tieAt n (other n x) = some z ∧ pos n z = [x, other n x] := by
 rw [ties_pos] at h
 obtain ⟨e, he⟩ := List.exists_mem_of_ne_nil _ h
 obtain ⟨a, b, hp, hab, _⟩ := pos_two T (mem_pos.mp he)
 have ha : tieAt n a = some z := mem_pos.mp (by rw [hp]; exact List.mem_cons_self ..)
 have hb : tieAt n b = some z := mem_pos.mp (by rw [hp]; simp)
 have e : b = other n a := by
  rcases (tie_two T ha).mp hb with q | q
  ·exact absurd q.symm hab
  ·exact q
 subst e
 exact ⟨a, ha, hb, hp⟩
noncomputable def spLSide : Sp := fun vs H Q _ => ∃ (R d p : Addr) (as : List (Addr × Addr)) (n : Net) (ss ks : List Str) (ob : Obj), vs = [.ref R, .ref d, .ref p] ∧ RowsAt H R as n ∧ SeatsF H d ob n ks ∧ Twice n ∧ Hang n ∧ (n.map (·.1)).Nodup ∧ 0 < n.length ∧ n.length ≤ 60 ∧ H p = some (Ls ss) ∧ (∀ z ∈ ss, z ∈ ties n) ∧
 (∀ (L : Addr) (H' : Hp), Same H H' → (∃ sd, IsSide n ss sd) → Q (.ref L) H') ∧ (∀ H', Same H H' → (∀ sd, ¬ IsSide n ss sd) → Q .non H')
section
variable {P : Program} {w : World} {K : PySem.W.Frag} {mg : Str → Option Value} {base : Heap}
noncomputable abbrev NLs : List Str := ["_law_rows", "_law_seats_here", "_law_some", "_law_side_here", "_law_more", "_law_tie", "_law_one", "_law_other_here"]
noncomputable abbrev NLs' : List Str := ["_law_rows", "_law_seats_here", "_law_some", "_law_side_here", "_law_more", "_law_tie", "_law_one", "_law_other_here", "_law_r"]
theorem scLs : FnScope NLs ["_law_rows", "_law_seats_here", "_law_some"] (defScope s_l_side) := ⟨rfl, rfl, rfl, by decide +kernel, rfl, by decide +kernel, by decide +kernel⟩
theorem nd_ls : NLs'.Nodup := by decide +kernel
theorem key_at {kvS : List (Key × V)} {ks : List Str} (ek : kvS.map (·.1) = ks.map Sum.inr) {i : Nat} {pr : Key × V} (h : kvS[i]? = some pr) : ∃ z, ks[i]? = some z ∧ pr.1 = Sum.inr z := by
 have e2 : (kvS.map (·.1))[i]? = some pr.1 := by rw [List.getElem?_map, h]; rfl
 rw [ek, List.getElem?_map, Option.map_eq_some_iff] at e2
 obtain ⟨z, hz, e⟩ := e2
 exact ⟨z, hz, e.symm⟩
theorem mod_two (b c : Bool) : ((if b then (1 : Int) else 0) + (if c then 1 else 0)) % 2 = if (b != c) then 1 else 0 := by cases b <;> cases c <;> decide
theorem ok_lside {f : Addr} {fd : FuncData} (F : Fun K "_law_side" "_law_side" s_l_side f fd) (T : Txt mg) : FnOk P w K mg base CX0 1 f fd ["_law_rows", "_law_seats_here", "_law_some"] spLSide := by
 refine F.gb scLs (fun vs H Q E h => ?_) (fun b0 H vs Q E hr h => ?_)
 ·obtain ⟨R, d, p, as, n, ss, ks, ob, rfl, _⟩ := h
  rfl
 obtain ⟨R, d, p, as, n, ss, ks, ob, rfl, hR, hS, hT, hHg, hnn, h0, hn, hp, hss, q1, q2⟩ := h
 have nd := scLs.nd
 have hu1 := hr.u1
 have hal := hR.len
 obtain ⟨kvS, ed, ek, ev⟩ := hS.dict
 have seat : ∀ {H' : Hp} {z : Str}, Same H H' → z ∈ ties n → ∃ x a tx ty, tieAt n x = some z ∧ tieAt n (other n x) = some z ∧ DGet H' d (.str z) (some (.ref a)) ∧ H' a = some (.lst [.ref tx, .ref ty]) ∧ H' tx = some (Tp x) ∧ H' ty = some (Tp (other n x)) := fun {H' z} sm hz => by
  obtain ⟨x, hx1, hx2, hp⟩ := pos_tie hT hz
  obtain ⟨a, ts, v1, v2, v3⟩ := ev z hz
  rw [hp] at v3
  cases v3 with
  | cons x1 v3 =>
  cases v3 with
  | cons y1 v3 =>
  cases v3
  rename_i tx ty
  exact ⟨x, a, tx, ty, hx1, hx2, by rw [← v1]; exact .inl ⟨kvS, Sum.inr z, .inr ⟨ob, sm _ _ ed⟩, rfl, rfl⟩, sm _ _ v2, sm _ _ x1, sm _ _ y1⟩
 show Run _ _ _ [some (.ref R), some (.ref d), some (.ref p), none, none, none, none, none] H
 refine run_set 3 nd (ev_dict1 hu1 fun d2 hd2 => ev_int (ev_int ⟨_, DPut.k (k := Sum.inl 0) upd_same (small' (Nat.zero_le _)), ?_⟩))
 rw [upd_upd]
 refine run_set 4 nd (ev_bl ?_)
 have s0 : Same H (upd H d2 (.dK (putK [] (Sum.inl 0) (.int 0)))) := same_new hd2 _
 have e0 : (upd H d2 (.dK (putK [] (Sum.inl 0) (.int 0)))) d2 = some (.dK (putK [] (Sum.inl 0) (.int 0))) := upd_same
 show Run _ _ _ [some (.ref R), some (.ref d), some (.ref p), some (.ref d2), some (.bl true), none, none, none] (upd H d2 (.dK (putK [] (Sum.inl 0) (.int 0))))
 generalize upd H d2 (.dK (putK [] (Sum.inl 0) (.int 0))) = H0 at s0 e0
 refine run_while (fun m σ H' => ∃ (kvs : List (Key × V)) (mo : Bool) (u5 u6 u7 : Option V), Same H H' ∧ H' d2 = some (.dK kvs) ∧ FxI n ss kvs ∧ (mo = false → ∀ z ∈ ties n, Shut n kvs z) ∧ m = 2 * (n.length - kvs.length) + (if mo then 1 else 0) ∧
   σ = [some (.ref R), some (.ref d), some (.ref p), some (.ref d2), some (.bl mo), u5, u6, u7]) (m0 := 2 * (n.length - 1) + 1)
  ⟨_, true, _, _, _, s0, e0, FxI.start h0, fun z => (nomatch z), rfl, rfl⟩ ?_
 rintro m σ H2 ⟨kvs, mo, u5, u6, u7, s2, e2, I, sh, em, rfl⟩
 refine et_val (ev_v 4 ⟨mo, rfl, ?_⟩)
 cases mo with
 | true =>
  rw [if_pos rfl]
  refine run_set 4 nd (ev_bl ?_)
  show Run _ _ _ [some (.ref R), some (.ref d), some (.ref p), some (.ref d2), some (.bl false), u5, u6, u7] H2
  have hml : kvs.length ≤ n.length := I.len
  refine run_for (pi_dictF pe_ev) (ev_v 1 ⟨d, ob, kvS, rfl, s2 _ _ ed, loop_dict (fun i σ H' => ∃ (kv2 : List (Key × V)) (mo : Bool) (u5 u6 u7 : Option V), Same H H' ∧ H' d2 = some (.dK kv2) ∧ FxI n ss kv2 ∧ kvs.length ≤ kv2.length ∧ (mo = true → kvs.length < kv2.length) ∧ (mo = false → kv2 = kvs ∧ ∀ j, j < i → ∀ z, ks[j]? = some z → Shut n kvs z) ∧
    σ = [some (.ref R), some (.ref d), some (.ref p), some (.ref d2), some (.bl mo), u5, u6, u7]) ⟨kvs, false, _, _, _, s2, e2, I, Nat.le_refl _, fun z => (nomatch z), fun _ => ⟨rfl, fun j hj => absurd hj (Nat.not_lt_zero _)⟩, rfl⟩ ?_ ?_ ?_⟩)
  ·rintro i σ H' _ ⟨kv2, mo, v5, v6, v7, s3, _⟩
   exact s3 _ _ ed
  ·rintro i pr σ H3 hpr ⟨kv2, mo, v5, v6, v7, s3, e3, I3, hl, hm1, hm0, rfl⟩
   obtain ⟨z, hz, epr⟩ := key_at ek hpr
   rw [epr]
   have hzt : z ∈ ties n := (hS.mem z).mp (List.mem_of_getElem? hz)
   obtain ⟨x, a, tx, ty, hx1, hx2, dg, ea, etx, ety⟩ := seat s3 hzt
   refine eg_name 5 nd ?_
   refine run_set 6 nd (ev_ix ix_tup (ev_ix ix_list (ev_dget hu1 (ev_v 1 (ev_v 5 ⟨d, .ref a, rfl, dg, ev_int ⟨a, _, _, .ref tx, rfl, rfl, SqL.of ea, rfl, ev_int ⟨tx, _, _, .int (x.1 : Int), rfl, rfl, SqT.of etx, rfl, ?_⟩⟩⟩)))))
   refine run_set 7 nd (ev_ix ix_tup (ev_ix ix_list (ev_dget hu1 (ev_v 1 (ev_v 5 ⟨d, .ref a, rfl, dg, ev_int ⟨a, _, _, .ref ty, rfl, rfl, SqL.of ea, rfl, ev_int ⟨ty, _, _, .int ((other n x).1 : Int), rfl, rfl, SqT.of ety, rfl, ?_⟩⟩⟩)))))
   show Run _ _ _ [some (.ref R), some (.ref d), some (.ref p), some (.ref d2), some (.bl mo), some (.str z), some (.int (x.1 : Int)), some (.int ((other n x).1 : Int))] H3
   refine run_ifM (valV kv2 (Sum.inl (x.1 : Int)) = none ∧ valV kv2 (Sum.inl ((other n x).1 : Int)) ≠ none) (valV kv2 (Sum.inl (x.1 : Int)) = none → valV kv2 (Sum.inl ((other n x).1 : Int)) = none)
    (fun σ' H' => H' = H3 ∧ ∃ e, tieAt n e = some z ∧ tieAt n (other n e) = some z ∧ other n (other n e) = e ∧ (valV kv2 (Sum.inl (e.1 : Int)) = none → valV kv2 (Sum.inl ((other n e).1 : Int)) = none) ∧ σ' = [some (.ref R), some (.ref d), some (.ref p), some (.ref d2), some (.bl mo), some (.str z), some (.int (e.1 : Int)), some (.int ((other n e).1 : Int))]) (fun T' qq => ?_) (fun c => ?_) (fun c => run_nil ⟨rfl, x, hx1, hx2, (other_spec hT hx1).2.1, c, rfl⟩) ?_
   ·refine et_bool (ew_and (et_dnotin hu1 (ev_v 6 (ev_v 3 ⟨d2, _, rfl, DGet.k (k := Sum.inl (x.1 : Int)) e3, ?_⟩))))
    cases hg : valV kv2 (Sum.inl (x.1 : Int)) with
    | none =>
     refine iteT ?_
     refine ew_and1 (et_din hu1 (ev_v 7 (ev_v 3 ⟨d2, _, rfl, DGet.k (k := Sum.inl ((other n x).1 : Int)) e3, ?_⟩)))
     cases hg2 : valV kv2 (Sum.inl ((other n x).1 : Int)) with
     | none => exact qq false (fun z => nomatch z) fun _ _ => hg2
     | some v => exact qq true (fun _ => ⟨hg, by rw [hg2]; exact fun z => nomatch z⟩) fun z => nomatch z
    | some v =>
     refine iteF ?_
     exact qq false (fun z => nomatch z) fun _ k => by rw [hg] at k; cases k
   ·refine run_par 6 7 nd (by decide) (ea_cons (ev_v 7 (ea_cons (ev_v 6 (ea_nil ⟨_, _, rfl, ?_⟩)))))
    have oo := (other_spec hT hx1).2.1
    exact run_nil ⟨rfl, other n x, hx2, by rw [oo]; exact hx1, by rw [oo], fun k => absurd k c.2, by rw [oo]; rfl⟩
   rintro σ' H' ⟨rfl, e, he1, he2, oo, hne, rfl⟩
   refine run_ifJ (valV kv2 (Sum.inl (e.1 : Int)) ≠ none ∧ valV kv2 (Sum.inl ((other n e).1 : Int)) = none) (¬ (valV kv2 (Sum.inl (e.1 : Int)) ≠ none ∧ valV kv2 (Sum.inl ((other n e).1 : Int)) = none)) (fun T' qq => ?_) (fun c => ?_) (fun c => ?_)
   ·refine et_bool (ew_and (et_din hu1 (ev_v 6 (ev_v 3 ⟨d2, _, rfl, DGet.k (k := Sum.inl (e.1 : Int)) e3, ?_⟩))))
    cases hg : valV kv2 (Sum.inl (e.1 : Int)) with
    | some v =>
     refine iteT ?_
     refine ew_and1 (et_dnotin hu1 (ev_v 7 (ev_v 3 ⟨d2, _, rfl, DGet.k (k := Sum.inl ((other n e).1 : Int)) e3, ?_⟩)))
     cases hg2 : valV kv2 (Sum.inl ((other n e).1 : Int)) with
     | none => exact qq true (fun _ => ⟨by rw [hg]; exact fun z => (nomatch z), hg2⟩) fun z => nomatch z
     | some v => exact qq false (fun z => nomatch z) fun _ k => by rw [hg2] at k; cases k.2
    | none =>
     refine iteF ?_
     exact qq false (fun z => nomatch z) fun _ k => k.1 hg
   ·obtain ⟨c1, c2⟩ := c
    obtain ⟨v, hv⟩ := Option.ne_none_iff_exists'.mp c1
    obtain ⟨b, rfl, wy⟩ := I3.val e.1 v hv
    obtain ⟨I4, hl4⟩ := I3.add hT he1 hv c2
    have lk := I3.len
    refine run_dput hu1 (ev_op op_mod (ev_op op_add (ev_dget hu1 (ev_v 3 (ev_v 6 ⟨d2, vB b, rfl, by rw [← hv]; exact DGet.k (k := Sum.inl (e.1 : Int)) e3, ?_⟩)))))
    refine ev_typ call_intB T.tint PyProof.Rows.boot_int (ea_cons (ev_cmp op_in_seq (ev_v 5 (ev_v 2 ⟨p, _, rfl, .inl (SqL.of (s3 _ _ hp)), rfl, flat_strs _, ?_⟩))))
    refine ea_nil ⟨_, rfl, _, _, rfl, rfl, ev_int ⟨_, _, rfl, rfl, (by show (0 : Int) < 2; decide), ?_⟩⟩
    rw [inV_strs, contains_dec]
    have e9 : vB (b != decide (z ∈ ss)) = .int (((if b then (1 : Int) else 0) + (if decide (z ∈ ss) then 1 else 0)) % 2) := congrArg V.int (mod_two b (decide (z ∈ ss))).symm
    rw [e9] at I4 hl4
    refine ev_v 3 (ev_v 7 ⟨d2, _, rfl, DPut.k (k := Sum.inl ((other n e).1 : Int)) e3 (small' (by omega)), ?_⟩)
    refine run_set 4 nd (ev_bl ?_)
    refine run_nil (run_nil ⟨_, true, _, _, _, same_mut s3 hd2, upd_same, I4, Nat.le_trans (Nat.le_succ_of_le hl) (Nat.le_of_eq hl4.symm), fun _ => Nat.lt_of_lt_of_le (Nat.lt_succ_of_le hl) (Nat.le_of_eq hl4.symm), fun z => (nomatch z), rfl⟩)
   ·refine run_nil (run_nil ⟨kv2, mo, _, _, _, s3, e3, I3, hl, hm1, fun q => ?_, rfl⟩)
    obtain ⟨r1, r2⟩ := hm0 q
    refine ⟨r1, fun j hj y hy => ?_⟩
    by_cases k : j < i
    ·exact r2 j k y hy
    ·have : j = i := by omega
     subst this
     rw [hz] at hy
     cases hy
     subst r1
     intro x' hx' hx2'
     rcases (tie_two hT he1).mp hx' with q' | q'
     ·subst q'
      intro k'
      exact c ⟨hx2', k'⟩
     ·subst q'
      rw [oo]
      intro k'
      exact hx2' (hne k')
  ·rintro σ H3 ⟨kv2, mo, v5, v6, v7, s3, e3, I3, hl, hm1, hm0, rfl⟩
   have hl3 := I3.len
   refine run_nil ⟨_, ?_, kv2, mo, v5, v6, v7, s3, e3, I3, fun q => ?_, rfl, rfl⟩
   ·cases mo with
    | true =>
     have := hm1 rfl
     simp only [if_true] at em ⊢
     omega
    | false =>
     simp only [if_true, Bool.false_eq_true, if_false] at em ⊢
     omega
   ·obtain ⟨r1, r2⟩ := hm0 q
    subst r1
    intro z hz
    obtain ⟨j, hj⟩ := List.getElem?_of_mem ((hS.mem z).mpr hz)
    have lk : kvS.length = ks.length := by have := congrArg List.length ek; rw [List.length_map, List.length_map] at this; exact this
    exact r2 j (by rw [lk]; exact (List.getElem?_eq_some_iff.mp hj).1) z hj
 | false =>
  rw [if_neg (by decide)]
  have all := I.all hT hHg h0 hnn (sh rfl)
  refine run_for (pi_dictF pe_ev) (ev_v 1 ⟨d, ob, kvS, rfl, s2 _ _ ed, loop_dict (fun i σ H' => ∃ (u5 u6 u7 : Option V), H' = H2 ∧ (∀ j, j < i → ∀ z, ks[j]? = some z → ∃ e b c, tieAt n e = some z ∧ valV kvs (Sum.inl (e.1 : Int)) = some (vB b) ∧ valV kvs (Sum.inl ((other n e).1 : Int)) = some (vB c) ∧ (b != c) = decide (z ∈ ss)) ∧
    σ = [some (.ref R), some (.ref d), some (.ref p), some (.ref d2), some (.bl false), u5, u6, u7]) ⟨_, _, _, rfl, fun j hj => absurd hj (Nat.not_lt_zero _), rfl⟩ ?_ ?_ ?_⟩)
  ·rintro i σ H' _ ⟨v5, v6, v7, rfl, _⟩
   exact s2 _ _ ed
  ·rintro i pr σ H3 hpr ⟨v5, v6, v7, rfl, hj, rfl⟩
   obtain ⟨z, hz, epr⟩ := key_at ek hpr
   rw [epr]
   have hzt : z ∈ ties n := (hS.mem z).mp (List.mem_of_getElem? hz)
   obtain ⟨x, a, tx, ty, hx1, hx2, dg, ea, etx, ety⟩ := seat s2 hzt
   obtain ⟨b, hb⟩ := all x.1 (row_lt hx1)
   obtain ⟨c, hc⟩ := all (other n x).1 (row_lt hx2)
   refine eg_name 5 nd ?_
   refine run_set 6 nd (ev_dget hu1 (ev_v 3 (ev_ix ix_tup (ev_ix ix_list (ev_dget hu1 (ev_v 1 (ev_v 5 ⟨d, .ref a, rfl, dg, ev_int ⟨a, _, _, .ref tx, rfl, rfl, SqL.of ea, rfl, ev_int ⟨tx, _, _, .int (x.1 : Int), rfl, rfl, SqT.of etx, rfl, d2, vB b, rfl, by rw [← hb]; exact DGet.k (k := Sum.inl (x.1 : Int)) e2, ?_⟩⟩⟩)))))))
   refine run_set 7 nd (ev_dget hu1 (ev_v 3 (ev_ix ix_tup (ev_ix ix_list (ev_dget hu1 (ev_v 1 (ev_v 5 ⟨d, .ref a, rfl, dg, ev_int ⟨a, _, _, .ref ty, rfl, rfl, SqL.of ea, rfl, ev_int ⟨ty, _, _, .int ((other n x).1 : Int), rfl, rfl, SqT.of ety, rfl, d2, vB c, rfl, by rw [← hc]; exact DGet.k (k := Sum.inl ((other n x).1 : Int)) e2, ?_⟩⟩⟩)))))))
   show Run _ _ _ [some (.ref R), some (.ref d), some (.ref p), some (.ref d2), some (.bl false), some (.str z), some (vB b), some (vB c)] H3
   refine run_ifJ ((b != c) ≠ decide (z ∈ ss)) ((b != c) = decide (z ∈ ss)) (fun T' qq => ?_) (fun k => ?_) (fun k => ?_)
   ·refine et_cmp op_ne (ev_cmp op_ne (ev_v 6 (ev_v 7 ⟨rfl, ?_⟩)))
    refine ev_cmp op_in_seq (ev_v 5 (ev_v 2 ⟨p, _, rfl, .inl (SqL.of (s2 _ _ hp)), rfl, flat_strs _, rfl, _, rfl, ?_⟩))
    rw [inV_strs, contains_dec]
    have e9 : (!decide (V.bl (!decide (vB b = vB c)) = V.bl (decide (z ∈ ss)))) = ((b != c) != decide (z ∈ ss)) := by
     rw [dec_bl]
     cases b <;> cases c <;> rfl
    show T' (!decide (V.bl (!decide (vB b = vB c)) = V.bl (decide (z ∈ ss)))) H3
    rw [e9]
    exact qq _ (fun k => bne_iff_ne.mp k) fun k => by generalize (b != c) = u at k ⊢; cases u <;> cases hd : decide (z ∈ ss) <;> rw [hd] at k <;> first | rfl | cases k
   ·refine run_ret (ev_non ?_)
    exact q2 _ s2 (I.bad hT hx1 hb hc k)
   ·refine run_nil (run_nil ⟨_, _, _, rfl, fun j hj' y hy => ?_, rfl⟩)
    by_cases kk : j < i
    ·exact hj j kk y hy
    ·have : j = i := by omega
     subst this
     rw [hz] at hy
     cases hy
     exact ⟨x, b, c, hx1, hb, hc, k⟩
  ·rintro σ H3 ⟨v5, v6, v7, rfl, hj, rfl⟩
   have whole : ∃ sd, IsSide n ss sd := I.whole hT hnn h0 all hss fun z hz => by
    obtain ⟨j, hj'⟩ := List.getElem?_of_mem ((hS.mem z).mpr hz)
    have lk : kvS.length = ks.length := by have := congrArg List.length ek; rw [List.length_map, List.length_map] at this; exact this
    exact hj j (by rw [lk]; exact (List.getElem?_eq_some_iff.mp hj').1) z hj'
   have hRn := (hR.same s2).len
   refine run_ret (ev_comp (defScope s_l_side) NLs NLs' 1 (pi_range1 rfl T.range pa_ea) (ea_cons (ev_blt call_len_seq T.len boot_len (ea_cons (ev_v 0 (ea_nil ⟨R, _, rfl, .inl (SqL.of (hR.same s2).lst), ea_nil ⟨_, rfl, ?_, ?_, fun D hD => ?_⟩⟩))))))
   ·rw [List.length_map]
    omega
   ·rw [List.length_map]
    omega
   rw [List.length_map, Int.toNat_natCast, hal]
   refine comp_rangeP (fun i σ' H' => (∃ v, σ' = [some (.ref R), some (.ref d), some (.ref p), some (.ref d2), some (.bl false), v5, v6, v7] ++ [v]) ∧ Same H H' ∧ H' d2 = some (.dK kvs) ∧ ∃ ys, H' D = some (.lst ys) ∧ ys.length ≤ i) ⟨⟨_, rfl⟩, s2.trans (same_new hD _), by rw [upd_ne (ne_of_none e2 hD)]; exact e2, [], upd_same, Nat.le_refl _⟩ ?_ ?_
   ·rintro i σ' H' hi ⟨⟨v, rfl⟩, s4, e4, ys, eD, hys⟩
    rw [Int.zero_add]
    obtain ⟨b, hb⟩ := all i hi
    intro cl C s₀ H₀ ex
    refine eg_name 8 nd_ls ?_
    intro cl C s₀ H₀ ex
    refine ei_one (et_cmp op_eq (ev_dget hu1 (ev_v 3 (ev_v 8 ⟨d2, vB b, rfl, by rw [← hb]; exact DGet.k (k := Sum.inl (i : Int)) e4, ev_int ⟨rfl, _, rfl, ?_⟩⟩))))
    have nD : d2 ≠ D := ne_of e4 eD fun z => nomatch z
    refine ite2 (fun c => ?_) (fun c => ⟨⟨_, rfl⟩, s4, e4, ys, eD, by omega⟩)
    intro cl C s₀ H₀ ex
    refine ev_v 8 ⟨ys, eD, small' (by omega), ⟨_, rfl⟩, same_mut s4 (s2.free hD), by rw [upd_ne nD]; exact e4, _, upd_same, by rw [List.length_append]; show ys.length + 1 ≤ i + 1; omega⟩
   ·rintro σ' H' ⟨_, s4, _⟩
    exact q1 D H' s4 whole
end
end M2
namespace M2
open PySem L2 Nt Sort2
open PyProof.Rows (sortedS)
noncomputable def spLCore : Sp := fun vs H Q _ => ∃ (R W : Addr) (as : List (Addr × Addr)) (n : Net) (ts : List Addr) (es : List Nt.End), vs = [.ref R, .ref W] ∧ RowsAt H R as n ∧ (n.map (·.1)).Nodup ∧ n.length ≤ 1000 ∧ H W = some (.lst (ts.map V.ref)) ∧ AtE n H ts es ∧ (∀ e ∈ es, e ∈ ends n) ∧ es.length ≤ 1000 ∧ (∀ l : List Str, l.Nodup → (∀ z ∈ l, z ∈ es.map (tnm n)) → l.length < 64) ∧
 ∀ (l : Addr) (ss : List Str) (H' : Hp), Same H H' → H l = none → H' l = some (Ls ss) → Srt ss → (∀ z, z ∈ ss ↔ (es.map (tnm n)).count z = 1) → Q (.ref l) H'
section
variable {P : Program} {w : World} {K : PySem.W.Frag} {mg : Str → Option Value} {base : Heap}
noncomputable abbrev NCo : List Str := ["_law_rows", "_law_walker", "_law_ties"]
noncomputable abbrev NCo1 : List Str := ["_law_rows", "_law_walker", "_law_ties", "_law_end"]
noncomputable abbrev NCo2 : List Str := ["_law_rows", "_law_walker", "_law_ties", "_law_end", "_law_row"]
noncomputable abbrev NCoT : List Str := ["_law_rows", "_law_walker", "_law_ties", "_law_tie"]
theorem scCo : FnScope NCo ["_law_rows", "_law_walker"] (defScope s_l_core) := ⟨rfl, rfl, rfl, by decide +kernel, rfl, by decide +kernel, by decide +kernel⟩
theorem nd_co1 : NCo1.Nodup := by decide +kernel
theorem nd_co2 : NCo2.Nodup := by decide +kernel
theorem nd_coT : NCoT.Nodup := by decide +kernel
noncomputable def scCoO : Scope := match defBody s_l_core with
 | .Assign _ (.ListComp _ _ sc _) _ :: _ => sc
 | _ => defScope s_l_core
noncomputable def scCoI : Scope := relabel scCoO (PyProof.Rows.envOfC "_law_core" (defScope s_l_core) 0 0 .none)
theorem ones_nodup (L : List Str) : (L.filter fun z => decide (L.count z = 1)).Nodup := by
 rw [List.nodup_iff_count]
 intro z
 by_cases h : L.count z = 1
 ·rw [List.count_filter (by simpa using h)]
  omega
 ·rw [List.count_eq_zero_of_not_mem]
  ·omega
  ·intro hm
   exact h (of_decide_eq_true (List.mem_filter.mp hm).2)
theorem ones_mem (L : List Str) (z : Str) : z ∈ (L.filter fun z => decide (L.count z = 1)) ↔ L.count z = 1 := by
 rw [List.mem_filter, decide_eq_true_iff]
 exact ⟨fun h => h.2, fun h => ⟨List.count_pos_iff.mp (by omega), h⟩⟩
theorem ok_lcore {f : Addr} {fd : FuncData} (F : Fun K "_law_core" "_law_core" s_l_core f fd) (T : Txt mg) : FnOk P w K mg base CX0 1 f fd ["_law_rows", "_law_walker"] spLCore := by
 refine F.gb scCo (fun vs H Q E h => ?_) (fun b0 H vs Q E hr h => ?_)
 ·obtain ⟨R, W, as, n, ts, es, rfl, _⟩ := h
  rfl
 obtain ⟨R, W, as, n, ts, es, rfl, hR, hN, hn, hW, hE, hes, hle, hdup, q⟩ := h
 have nd := scCo.nd
 have hal := hR.len
 have hl := hE.1
 show Run _ _ _ [some (.ref R), some (.ref W), none] H
 refine run_set 2 nd (ev_compC (defScope s_l_core) NCo NCo1 1 (pi_list pe_ev) (ev_v 1 ⟨W, rfl, ⟨_, SqL.of hW⟩, fun D hD => ?_⟩))
 refine comp_listPC (xs := ts.map V.ref) (fun i σ' H' => (∃ v, σ' = [some (.ref R), some (.ref W), none] ++ [v]) ∧ Same H H' ∧ H' D = some (Ls ((es.take i).map (tnm n)))) ⟨⟨none, rfl⟩, same_new hD _, upd_same⟩ ?_ ?_ ?_
 ·rintro i σ' H' _ ⟨_, sm, _⟩
  exact SqL.of (sm _ _ hW)
 ·rintro i x σ' H' hx ⟨⟨v, rfl⟩, sm, eD⟩
  rw [List.getElem?_map, Option.map_eq_some_iff] at hx
  obtain ⟨t, ht, rfl⟩ := hx
  have hi : i < es.length := by have := (List.getElem?_eq_some_iff.mp ht).1; omega
  have he : es[i]? = some es[i] := List.getElem?_eq_getElem hi
  have et1 : es.take (i + 1) = es.take i ++ [es[i]] := by rw [List.take_add_one, he]; rfl
  generalize hee : es[i] = e at he et1
  have hte := hE.2 i t e ht he
  have hen := hes e (List.mem_of_getElem? he)
  obtain ⟨z, hz⟩ := mem_ends.mp hen
  have htz : tnm n e = z := tnm_eq hz
  intro cl C s₀ H₀ ex
  refine eg_name 3 nd_co1 ?_
  intro cl C s₀ H₀ ex
  refine ei_nil ?_
  rw [if_pos rfl]
  intro cl C s₀ H₀ ex
  refine ev_ix ix_list (ev_comp scCoI NCo1 NCo2 1 (pi_list pe_ev) (ev_v 0 ⟨R, rfl, ⟨_, SqL.of (sm _ _ hR.lst)⟩, fun D2 hD2 => ?_⟩))
  have nDD : D ≠ D2 := ne_of_none eD hD2
  refine comp_listP (xs := as.map fun a => V.ref a.1) (fun j σ' H2 => (∃ v, σ' = [some (.ref R), some (.ref W), none, some (.ref t)] ++ [v]) ∧ Same H' H2 ∧ H2 D2 = some (Ls (if e.1 < j then [z] else []))) ⟨⟨none, rfl⟩, same_new hD2 _, upd_same⟩ ?_ ?_ ?_
  ·rintro j σ' H2 _ ⟨_, sm2, _⟩
   exact SqL.of (sm2 _ _ (sm _ _ hR.lst))
  ·rintro j x σ' H2 hx ⟨⟨v, rfl⟩, sm2, eD2⟩
   have hj : j < n.length := by
    have := (List.getElem?_eq_some_iff.mp hx).1
    rw [List.length_map] at this
    omega
   obtain ⟨b, eb, eat, et, el, er⟩ := (hR.same (sm.trans sm2)).at hj
   rw [List.getElem?_map, eb] at hx
   cases hx
   have hte2 := (sm.trans sm2) _ _ hte
   intro cl C s₀ H₀ ex
   refine eg_name 4 nd_co2 ?_
   intro cl C s₀ H₀ ex
   refine ei_one (et_cmp op_eq (ev_ix ix_tup (ev_v 4 (ev_int ⟨b.1, _, _, .str n[j].1, rfl, rfl, SqT.of et, rfl, ev_ix ix_tup (ev_v 3 (ev_int ⟨t, _, _, .str (nameAt n e.1), rfl, rfl, SqT.of hte2, rfl, rfl, _, rfl, ?_⟩))⟩))))
   have hel := row_lt hz
   have ek : decide (V.str n[j].1 = V.str (nameAt n e.1)) = decide (e.1 = j) := by
    refine decide_eq_decide.mpr ⟨fun k => ?_, fun k => ?_⟩
    ·have k := V.str.inj k
     exact (nmA_inj hN hj hel (by rw [nmA_eq hj]; exact k)).symm
    ·rw [← nameAt_eq hj, k]
   show if decide (V.str n[j].1 = V.str (nameAt n e.1)) = true then _ else _
   rw [ek]
   refine ite2 (fun c => ?_) (fun c => ?_)
   ·have c := of_decide_eq_true c
    subst c
    intro cl C s₀ H₀ ex
    have hat : (row n e.1)[e.2]? = some z := hz
    refine ev_ix ix_list (ev_ix ix_tup (ev_v 4 (ev_int ⟨b.1, _, _, .ref b.2, rfl, rfl, SqT.of et, rfl, ev_ix ix_tup (ev_v 3 (ev_int ⟨t, _, _, .int (e.2 : Int), rfl, rfl, SqT.of hte2, rfl, b.2, _, _, .str z, rfl, rfl, SqL.of el, at_strs hat, _, eD2, ?_, ⟨_, rfl⟩, same_mut sm2 hD2, ?_⟩))⟩)))
    ·rw [if_neg (Nat.lt_irrefl _)]
     exact small' (by decide)
    ·rw [upd_same, if_neg (Nat.lt_irrefl _), if_pos (Nat.lt_succ_self _)]
     rfl
   ·have c := of_decide_eq_false (Bool.eq_false_iff.mpr c)
    refine ⟨⟨_, rfl⟩, sm2, ?_⟩
    rw [eD2]
    by_cases k : e.1 < j
    ·rw [if_pos k, if_pos (by omega)]
    ·rw [if_neg k, if_neg (by omega)]
  ·rintro σ' H2 ⟨_, sm2, eD2⟩
   rw [List.length_map, hal, if_pos (row_lt hz)] at eD2
   refine ev_int ⟨D2, _, _, .str z, rfl, rfl, SqL.of eD2, rfl, _, sm2 _ _ eD, ?_, ⟨_, rfl⟩, same_mut (sm.trans sm2) hD, ?_⟩
   ·rw [List.length_map, List.length_map, List.length_take]
    exact small' (by omega)
   ·rw [upd_same, et1, List.map_append]
    show some (HO.lst (((es.take i).map (tnm n)).map V.str ++ [V.str z])) = some (HO.lst (((es.take i).map (tnm n) ++ [tnm n e]).map V.str))
    rw [List.map_append]
    show some (HO.lst (((es.take i).map (tnm n)).map V.str ++ [V.str z])) = some (HO.lst (((es.take i).map (tnm n)).map V.str ++ [V.str (tnm n e)]))
    rw [htz]
 rintro σ' H' ⟨_, sm, eD⟩
 have elen : es.take (ts.map V.ref).length = es := List.take_of_length_le (by rw [List.length_map]; omega)
 rw [elen] at eD
 show Run _ _ _ [some (.ref R), some (.ref W), some (.ref D)] H'
 generalize hLL : es.map (tnm n) = L at eD hdup q
 have hLl : L.length ≤ 1000 := by rw [← hLL, List.length_map]; exact hle
 refine run_ret (ev_blt call_sorted_strs T.sorted PyProof.Rows.boot_sorted (ea_cons (ev_comp (defScope s_l_core) NCo NCoT 1 (pi_list pe_ev) (ev_v 2 ⟨D, rfl, ⟨_, SqL.of eD⟩, fun D3 hD3 => ?_⟩))))
 have n3 : D ≠ D3 := ne_of_none eD hD3
 refine comp_filt (fun z => decide (L.count z = 1)) (small' (by omega)) eD hD3 (fun cl C s0 H0 ex v v0 H' R' h => eg_name 3 nd_coT h) (fun cl C s0 H0 ex z zs T' h => ei_one (et_cmp op_eq (ev_m1 PySem.F.plainAttrs_list PySem.F.slot_list_count PySem.F.type_list_count mt_count (ev_v 2 (v := .ref D) ⟨Or.inl ⟨rfl, _, SqL.of (by rw [upd_ne n3]; exact eD)⟩, ev_v 3 ⟨D, L, z, rfl, rfl, SqL.of (by rw [upd_ne n3]; exact eD), ev_int ⟨rfl, _, rfl, ?_⟩⟩⟩)))) (fun cl C s0 H0 ex z H' R' h => ev_v 3 h) ?_
 ·have ek : decide (V.int (L.count z : Int) = V.int 1) = decide (L.count z = 1) := decide_eq_decide.mpr ⟨fun k => by have := V.int.inj k; omega, fun k => by rw [k]; rfl⟩
  show T' (decide (V.int (L.count z : Int) = V.int 1)) _
  rw [ek]
  exact h
 refine ea_nil ⟨D3, _, rfl, SqL.of upd_same, hdup _ (ones_nodup L) (fun z hz => (List.mem_filter.mp hz).1), fun l ss hl2 hpm hso => ?_⟩
 have s3 := sm.trans (same_new hD3 (Ls (L.filter fun z => decide (L.count z = 1))))
 exact q l ss _ (s3.trans (same_new hl2 _)) (s3.free hl2) upd_same (srt_of hso (hpm.nodup_iff.mpr (ones_nodup L))) fun z => by rw [hpm.mem_iff]; exact ones_mem L z
end
end M2
namespace M2
open PySem L2 Nt Sort2
open PyProof.Rows (sortedS)
noncomputable def spCore : Sp := fun vs H Q _ => ∃ (R W : Addr) (as : List (Addr × Addr)) (n : Net) (ts : List Addr) (es : List Nt.End), vs = [.ref R, .ref W] ∧ RowsAt H R as n ∧ (n.map (·.1)).Nodup ∧ n.length ≤ 1000 ∧ (ties n).length ≤ 1000 ∧ H W = some (.lst (ts.map V.ref)) ∧ AtE n H ts es ∧ (∀ e ∈ es, e ∈ ends n) ∧ es.length ≤ 1000 ∧ (∀ l : List Str, l.Nodup → (∀ z ∈ l, z ∈ es.map (tnm n)) → l.length < 64) ∧
 ∀ (l : Addr) (ss : List Str) (H' : Hp), Same H H' → H l = none → H' l = some (Ls ss) → Srt ss → (∀ z, z ∈ ss ↔ (es.map (tnm n)).count z = 1) → Q (.ref l) H'
section
variable {P : Program} {w : World} {K : PySem.W.Frag} {mg : Str → Option Value} {base : Heap}
noncomputable abbrev NCp : List Str := ["rows", "walker", "names", "gone"]
noncomputable abbrev NCp1 : List Str := ["rows", "walker", "names", "gone", "end"]
noncomputable abbrev NCpT : List Str := ["rows", "walker", "names", "gone", "tie"]
theorem scCp : FnScope NCp ["rows", "walker"] (defScope s_core_of) := ⟨rfl, rfl, rfl, by decide +kernel, rfl, by decide +kernel, by decide +kernel⟩
theorem nd_cp1 : NCp1.Nodup := by decide +kernel
theorem nd_cpT : NCpT.Nodup := by decide +kernel
theorem ok_core {f : Addr} {fd : FuncData} (F : Fun K "core_of" "core_of" s_core_of f fd) (T : Txt mg)
  (GT : Has P w K mg base 2 "ties_by_end" ["rows"] spBE) : FnOk P w K mg base CX0 3 f fd ["rows", "walker"] spCore := by
 refine F.gb scCp (fun vs H Q E h => ?_) (fun b0 H vs Q E hr h => ?_)
 ·obtain ⟨R, W, as, n, ts, es, rfl, _⟩ := h
  rfl
 obtain ⟨R, W, as, n, ts, es, rfl, hR, hN, hn, hti, hW, hE, hes, hle, hdup, q⟩ := h
 have nd := scCp.nd
 have hu1 := hr.u1
 have hl := hE.1
 show Run _ _ _ [some (.ref R), some (.ref W), none, none] H
 refine run_set 2 nd (ev_has GT hr (ea_cons (ev_v 0 (ea_nil ⟨R, as, n, rfl, hR, hN, hn, hti, fun d kvs H1 s1 nd1 ed hval => ?_⟩))))
 show Run _ _ _ [some (.ref R), some (.ref W), some (.ref d), none] H1
 have hW1 := s1 _ _ hW
 have hE1 := hE.same s1
 refine run_set 3 nd (ev_comp (defScope s_core_of) NCp NCp1 1 (pi_list pe_ev) (ev_v 1 ⟨W, rfl, ⟨_, SqL.of hW1⟩, fun D hD => ?_⟩))
 refine comp_listP (xs := ts.map V.ref) (fun i σ' H' => (∃ v, σ' = [some (.ref R), some (.ref W), some (.ref d), none] ++ [v]) ∧ Same H1 H' ∧ H' D = some (Ls ((es.take i).map (tnm n)))) ⟨⟨none, rfl⟩, same_new hD _, upd_same⟩ ?_ ?_ ?_
 ·rintro i σ' H' _ ⟨_, sm, _⟩
  exact SqL.of (sm _ _ hW1)
 ·rintro i x σ' H' hx ⟨⟨v, rfl⟩, sm, eD⟩
  rw [List.getElem?_map, Option.map_eq_some_iff] at hx
  obtain ⟨t, ht, rfl⟩ := hx
  have hi : i < es.length := by have := (List.getElem?_eq_some_iff.mp ht).1; omega
  have he : es[i]? = some es[i] := List.getElem?_eq_getElem hi
  have et1 : es.take (i + 1) = es.take i ++ [es[i]] := by rw [List.take_add_one, he]; rfl
  generalize hee : es[i] = e at he et1
  have hte := sm _ _ (hE1.2 i t e ht he)
  have hen := hes e (List.mem_of_getElem? he)
  obtain ⟨z, hz⟩ := mem_ends.mp hen
  have htz : tnm n e = z := tnm_eq hz
  intro cl C s₀ H₀ ex
  refine eg_name 4 nd_cp1 ?_
  intro cl C s₀ H₀ ex
  refine ei_nil ?_
  rw [if_pos rfl]
  intro cl C s₀ H₀ ex
  refine ev_dget hu1 (ev_v 2 (ev_v 4 ⟨d, .str z, rfl, (by rw [← hval e z hz]; exact DGet.t (k := key n e) (sm _ _ ed) hte), _, eD, ?_, ⟨_, rfl⟩, same_mut sm hD, ?_⟩))
  ·rw [List.length_map, List.length_map, List.length_take]
   exact small' (by omega)
  ·rw [upd_same, et1, List.map_append]
   show some (HO.lst (((es.take i).map (tnm n)).map V.str ++ [V.str z])) = some (HO.lst (((es.take i).map (tnm n) ++ [tnm n e]).map V.str))
   rw [List.map_append]
   show some (HO.lst (((es.take i).map (tnm n)).map V.str ++ [V.str z])) = some (HO.lst (((es.take i).map (tnm n)).map V.str ++ [V.str (tnm n e)]))
   rw [htz]
 rintro σ' H' ⟨_, sm, eD⟩
 have elen : es.take (ts.map V.ref).length = es := List.take_of_length_le (by rw [List.length_map]; omega)
 rw [elen] at eD
 show Run _ _ _ [some (.ref R), some (.ref W), some (.ref d), some (.ref D)] H'
 generalize hLL : es.map (tnm n) = L at eD hdup q
 have hLl : L.length ≤ 1000 := by rw [← hLL, List.length_map]; exact hle
 refine run_ret (ev_blt call_sorted_strs T.sorted PyProof.Rows.boot_sorted (ea_cons (ev_comp (defScope s_core_of) NCp NCpT 1 (pi_list pe_ev) (ev_v 3 ⟨D, rfl, ⟨_, SqL.of eD⟩, fun D3 hD3 => ?_⟩))))
 have n3 : D ≠ D3 := ne_of_none eD hD3
 refine comp_filt (fun z => decide (L.count z = 1)) (small' (by omega)) eD hD3 (fun cl C s0 H0 ex v v0 H' R' h => eg_name 4 nd_cpT h) (fun cl C s0 H0 ex z zs T' h => ei_one (et_cmp op_eq (ev_m1 PySem.F.plainAttrs_list PySem.F.slot_list_count PySem.F.type_list_count mt_count (ev_v 3 (v := .ref D) ⟨Or.inl ⟨rfl, _, SqL.of (by rw [upd_ne n3]; exact eD)⟩, ev_v 4 ⟨D, L, z, rfl, rfl, SqL.of (by rw [upd_ne n3]; exact eD), ev_int ⟨rfl, _, rfl, ?_⟩⟩⟩)))) (fun cl C s0 H0 ex z H' R' h => ev_v 4 h) ?_
 ·have ek : decide (V.int (L.count z : Int) = V.int 1) = decide (L.count z = 1) := decide_eq_decide.mpr ⟨fun k => by have := V.int.inj k; omega, fun k => by rw [k]; rfl⟩
  show T' (decide (V.int (L.count z : Int) = V.int 1)) _
  rw [ek]
  exact h
 refine ea_nil ⟨D3, _, rfl, SqL.of upd_same, hdup _ (ones_nodup L) (fun z hz => (List.mem_filter.mp hz).1), fun l ss hl2 hpm hso => ?_⟩
 have s3 := s1.trans (sm.trans (same_new hD3 (Ls (L.filter fun z => decide (L.count z = 1)))))
 exact q l ss _ (s3.trans (same_new hl2 _)) (s3.free hl2) upd_same (srt_of hso (hpm.nodup_iff.mpr (ones_nodup L))) fun z => by rw [hpm.mem_iff]; exact ones_mem L z
end
end M2
namespace Nt
open PySem L2
theorem parL_count (z : Str) : ∀ L : List Str, decide (L.count z % 2 = 1) = parL (L.map fun y => decide (z = y))
 | [] => rfl
 | y :: L => by
  show _ = (decide (z = y) ^^ parL (L.map fun y => decide (z = y)))
  rw [← parL_count z L, List.count_cons]
  by_cases h : z = y
  ·subst h
   rw [decide_eq_true rfl, beq_self_eq_true, if_pos rfl, Bool.true_xor, ← decide_not]
   exact decide_eq_decide.mpr (by omega)
  ·rw [decide_eq_false h, if_neg (fun q => h (eq_of_beq q).symm), Bool.false_xor]
   rfl
theorem parL_swap {α β : Type} (f : α → β → Bool) (M : List β) : ∀ L : List α, parL (L.map fun a => parL (M.map fun b => f a b)) = parL (M.map fun b => parL (L.map fun a => f a b))
 | [] => (parL_none M).symm
 | a :: L => by
  show (parL (M.map fun b => f a b) ^^ parL (L.map fun a => parL (M.map fun b => f a b))) = parL (M.map fun b => f a b ^^ parL (L.map fun a => f a b))
  rw [parL_swap f M L, parL_xor (fun b => f a b) (fun b => parL (L.map fun a => f a b))]
theorem map_range {α β : Type} (l : List α) (f : α → β) (g : Nat → β) (h : ∀ k x, l[k]? = some x → g k = f x) : l.map f = (List.range l.length).map g := by
 apply List.ext_getElem?
 intro k
 rw [List.getElem?_map, List.getElem?_map]
 by_cases hk : k < l.length
 ·rw [List.getElem?_eq_getElem hk, List.getElem?_range hk]
  exact congrArg some (h k _ (List.getElem?_eq_getElem hk)).symm
 ·rw [List.getElem?_eq_none (by omega), List.getElem?_eq_none (by simp; omega)]
  rfl
theorem parL_next {α : Type} (l : List α) (f g : α → Bool) (h : ∀ k, k < l.length → ∃ x y, l[k]? = some x ∧ l[(k + 1) % l.length]? = some y ∧ g x = f y) : parL (l.map g) = parL (l.map f) := by
 let F : Nat → Bool := fun k => match l[k]? with | some x => f x | none => false
 have hf : l.map f = (List.range l.length).map F := map_range l f F fun k x hk => by show (match l[k]? with | some x => f x | none => false) = _; rw [hk]
 have hg : l.map g = (List.range l.length).map fun k => F ((k + 1) % l.length) := map_range l g _ fun k x hk => by
  obtain ⟨x', y, h1, h2, h3⟩ := h k (List.getElem?_eq_some_iff.mp hk).1
  rw [hk] at h1
  cases h1
  show (match l[(k + 1) % l.length]? with | some x => f x | none => false) = _
  rw [h2]
  exact h3.symm
 rw [hf, hg, parL_turn]
theorem parL_pairs (F : Nat → Bool) : ∀ m, (∀ i, i < m → F (2 * i + 1) = F (2 * i)) → parL ((List.range (2 * m)).map F) = false
 | 0, _ => rfl
 | m + 1, h => by
  rw [show 2 * (m + 1) = 2 * m + 1 + 1 by omega, List.range_succ, List.range_succ, List.map_append, List.map_append, parL_app, parL_app, parL_pairs F m fun i hi => h i (by omega)]
  show ((false ^^ (F (2 * m) ^^ false)) ^^ (F (2 * m + 1) ^^ false)) = false
  rw [h m (by omega)]
  cases F (2 * m) <;> rfl
theorem other_go {n : Net} (T : Twice n) {e : End} (h : e ∈ ends n) : step n (other n (go (-1) n e)) = other n e := by
 have h1 := go_end (c := -1) T h
 obtain ⟨z, hz⟩ := mem_ends.mp h1
 show left n (other n (other n (go (-1) n e))) = _
 rw [(other_spec T hz).2.1, left_rnd h1]
 show rnd 1 n (rnd (-1) n (other n e)) = _
 have := rnd_back (c := -1) (other_end T h)
 rw [Int.neg_neg] at this
 exact this
noncomputable def oddW (n : Net) (w : List End) (z : Str) : Bool := decide ((w.map (tnm n)).count z % 2 = 1)
theorem oddW_even {n : Net} (T : Twice n) {w : List End} (W : IsWk n w) : EvN n (oddW n w) := fun r => by
 have e1 : (row n r).map (oddW n w) = (row n r).map fun z => parL (w.map fun e => decide (z = tnm n e)) := List.map_congr_left fun z _ => by
  unfold oddW
  rw [parL_count, List.map_map]
  rfl
 rw [e1, parL_swap (fun z e => decide (z = tnm n e))]
 have e2 : (w.map fun e => parL ((row n r).map fun z => decide (z = tnm n e))) = w.map fun e => (decide (r = e.1) ^^ decide (r = (other n e).1)) := List.map_congr_left fun e he => by
  obtain ⟨z, hz⟩ := mem_ends.mp (W.ends e he)
  rw [tnm_eq hz]
  exact par_tie T hz r
 rw [e2, parL_xor (fun e => decide (r = e.1)) (fun e => decide (r = (other n e).1))]
 rw [parL_next w (fun e => decide (r = e.1)) (fun e => decide (r = (other n e).1)) fun k hk => by
  obtain ⟨c, h1, h2⟩ := W.at' k hk
  exact ⟨c, _, h1, h2, rfl⟩]
 cases parL (w.map fun e => decide (r = e.1)) <;> rfl
theorem oddW_face {n : Net} (T : Twice n) {w : List End} (W : IsWk n w) {t : Str → Bool} {χ : End → Bool} (h : FaceSum n t χ) : parL (w.map fun e => t (tnm n e)) = false := by
 have e1 : (w.map fun e => t (tnm n e)) = w.map fun e => (χ e ^^ χ (other n e)) := List.map_congr_left fun e he => by
  obtain ⟨z, hz⟩ := mem_ends.mp (W.ends e he)
  rw [tnm_eq hz]
  exact h.tie e z hz
 rw [e1, parL_xor χ (fun e => χ (other n e))]
 obtain ⟨m, hm⟩ : ∃ m, w.length = 2 * m := ⟨w.length / 2, by have := W.even; omega⟩
 have a1 : parL (w.map χ) = false := by
  let F : Nat → Bool := fun k => match w[k]? with | some x => χ x | none => false
  rw [map_range w χ F fun k x hk => by show (match w[k]? with | some x => χ x | none => false) = _; rw [hk], hm]
  refine parL_pairs F m fun i hi => ?_
  obtain ⟨c, h1, h2⟩ := W.at' (2 * i) (by omega)
  rw [Nat.mod_eq_of_lt (by omega), show (1 : Int) - 2 * (((2 * i : Nat) : Int) % 2) = 1 by omega] at h2
  show (match w[2 * i + 1]? with | some x => χ x | none => false) = (match w[2 * i]? with | some x => χ x | none => false)
  rw [h1, h2]
  have hc := W.ends c (List.mem_of_getElem? h1)
  show χ (go 1 n c) = χ c
  rw [← step_go T hc]
  exact h.go c hc
 have a2 : parL (w.map fun e => χ (other n e)) = false := by
  let F : Nat → Bool := fun k => match w[k]? with | some x => χ (other n x) | none => false
  rw [map_range w (fun e => χ (other n e)) F fun k x hk => by show (match w[k]? with | some x => χ (other n x) | none => false) = _; rw [hk], ← parL_turn F, hm]
  refine parL_pairs (fun p => F ((p + 1) % (2 * m))) m fun i hi => ?_
  obtain ⟨c, h1, h2⟩ := W.at' (2 * i + 1) (by omega)
  rw [hm, show (1 : Int) - 2 * (((2 * i + 1 : Nat) : Int) % 2) = -1 by omega] at h2
  show (match w[(2 * i + 1 + 1) % (2 * m)]? with | some x => χ (other n x) | none => false) = (match w[(2 * i + 1) % (2 * m)]? with | some x => χ (other n x) | none => false)
  rw [h2, Nat.mod_eq_of_lt (show 2 * i + 1 < 2 * m by omega), h1]
  have hc := W.ends c (List.mem_of_getElem? h1)
  show χ (other n (go (-1) n c)) = χ (other n c)
  rw [← other_go T hc]
  exact (h.go _ (other_end T (go_end T hc))).symm
 rw [a1, a2]
 rfl
noncomputable def dotT (zs : List Str) (t s : Str → Bool) : Bool := parL (zs.map fun z => t z && s z)
theorem dotT_xor (zs : List Str) (t u s : Str → Bool) : dotT zs (fun z => t z ^^ u z) s = (dotT zs t s ^^ dotT zs u s) := by
 unfold dotT
 rw [← parL_xor (fun z => t z && s z) (fun z => u z && s z)]
 congr 1
 refine List.map_congr_left fun z _ => ?_
 show ((t z ^^ u z) && s z) = _
 cases t z <;> cases u z <;> cases s z <;> rfl
theorem dotT_one {s : Str → Bool} {y : Str} : ∀ {zs : List Str}, zs.Nodup → y ∈ zs → dotT zs (fun z => decide (z = y)) s = s y
 | z :: zs, hn, hy => by
  have hn := List.nodup_cons.mp hn
  show ((decide (z = y) && s z) ^^ dotT zs (fun z => decide (z = y)) s) = s y
  by_cases h : z = y
  ·subst h
   have : dotT zs (fun x => decide (x = z)) s = false := by
    unfold dotT
    have e : (zs.map fun x => decide (x = z) && s x) = zs.map fun _ => false := List.map_congr_left fun x hx => by
     have ne : ¬ x = z := fun q => hn.1 (q ▸ hx)
     rw [decide_eq_false ne]
     rfl
    rw [e, parL_none]
   rw [this, decide_eq_true rfl]
   cases s z <;> rfl
  ·rw [decide_eq_false h, dotT_one hn.2 ((List.mem_cons.mp hy).resolve_left (Ne.symm h))]
   cases s y <;> rfl
theorem dotT_walk {n : Net} {zs : List Str} (hz : zs.Nodup) {t : Str → Bool} : ∀ {L : List Str}, (∀ y ∈ L, y ∈ zs) → dotT zs t (fun z => decide (L.count z % 2 = 1)) = parL (L.map t)
 | L, hL => by
  unfold dotT
  have e : (zs.map fun z => t z && decide (L.count z % 2 = 1)) = zs.map fun z => parL (L.map fun y => t z && decide (z = y)) := List.map_congr_left fun z _ => by
   rw [parL_count]
   cases t z
   ·show false = parL (L.map fun _ => false)
    rw [parL_none]
   ·rfl
  rw [e, parL_swap (fun z y => t z && decide (z = y))]
  congr 1
  refine List.map_congr_left fun y hy => ?_
  have := dotT_one (s := t) hz (hL y hy)
  rw [← this]
  unfold dotT
  congr 1
  refine List.map_congr_left fun z _ => ?_
  rw [Bool.and_comm]
theorem way_set {n : Net} (T : Twice n) (hN : (n.map (·.1)).Nodup) {ss zs : List Str} (hz : zs.Nodup) (hm : ∀ z, z ∈ zs ↔ z ∈ ties n) {x : Str} {b : Bool} (h : Way (lksE n ss) (fstN n) x b) :
  ∃ t : Str → Bool, (∀ r, r < n.length → parL ((row n r).map t) = (decide (nmA n r = fstN n) ^^ decide (nmA n r = x))) ∧ dotT zs t (fun z => decide (z ∈ ss)) = b := by
 have add : ∀ {x y : Str} {o b : Bool}, (∃ e z, tieAt n e = some z ∧ ((x = nmA n e.1 ∧ y = nmA n (other n e).1) ∨ (y = nmA n e.1 ∧ x = nmA n (other n e).1)) ∧ o = decide (z ∈ ss)) → (∃ t : Str → Bool, (∀ r, r < n.length → parL ((row n r).map t) = (decide (nmA n r = fstN n) ^^ decide (nmA n r = x))) ∧ dotT zs t (fun z => decide (z ∈ ss)) = b) →
   ∃ t : Str → Bool, (∀ r, r < n.length → parL ((row n r).map t) = (decide (nmA n r = fstN n) ^^ decide (nmA n r = y))) ∧ dotT zs t (fun z => decide (z ∈ ss)) = (b != o) := by
  rintro x y o b ⟨e, z, hzt, hxy, rfl⟩ ⟨t, h1, h2⟩
  refine ⟨fun u => t u ^^ decide (u = z), fun r hr => ?_, ?_⟩
  ·rw [parL_xor t (fun u => decide (u = z)), h1 r hr, par_tie T hzt r]
   have e1 : ∀ i, i < n.length → decide (r = i) = decide (nmA n r = nmA n i) := fun i hi => decide_eq_decide.mpr ⟨fun q => by rw [q], fun q => nmA_inj hN hr hi q⟩
   rw [e1 _ (row_lt hzt), e1 _ (other_lt T hzt)]
   rcases hxy with ⟨a1, a2⟩ | ⟨a1, a2⟩
   ·rw [← a1, ← a2]
    cases decide (nmA n r = fstN n) <;> cases decide (nmA n r = x) <;> cases decide (nmA n r = y) <;> rfl
   ·rw [← a1, ← a2]
    cases decide (nmA n r = fstN n) <;> cases decide (nmA n r = x) <;> cases decide (nmA n r = y) <;> rfl
  ·rw [dotT_xor, h2, dotT_one hz ((hm z).mpr (tie_mem hzt))]
 have lk : ∀ {x y : Str} {o : Bool}, (x, y, o) ∈ lksE n ss → ∃ e z, tieAt n e = some z ∧ ((x = nmA n e.1 ∧ y = nmA n (other n e).1)) ∧ o = decide (z ∈ ss) := fun {x y o} hm => by
  obtain ⟨e, z, h1, h2⟩ := (lksE_tells (n := n) (ss := ss)).fro _ hm
  exact ⟨e, z, h1, ⟨congrArg (·.1) h2, congrArg (·.2.1) h2⟩, congrArg (·.2.2) h2⟩
 induction h with
 | here => exact ⟨fun _ => false, fun r _ => by rw [parL_none]; cases decide (nmA n r = fstN n) <;> rfl, by unfold dotT; exact parL_none zs⟩
 | there _ ht ih =>
  obtain ⟨e, z, h1, h2, h3⟩ := lk ht
  exact add ⟨e, z, h1, .inl h2, h3⟩ ih
 | back _ ht ih =>
  obtain ⟨e, z, h1, h2, h3⟩ := lk ht
  exact add ⟨e, z, h1, .inr ⟨h2.1, h2.2⟩, h3⟩ ih
end Nt
namespace Nt
open PySem L2
theorem side_exists {n : Net} (T : Twice n) (hg : Hang n) (hN : (n.map (·.1)).Nodup) (h0 : 0 < n.length) {ss zs : List Str} (hz : zs.Nodup) (hm : ∀ z, z ∈ zs ↔ z ∈ ties n) (hs : ∀ z ∈ ss, z ∈ ties n) (orth : ∀ t, EvN n t → dotT zs t (fun z => decide (z ∈ ss)) = false) : ∃ sd, IsSide n ss sd := by
 classical
 have uniq : ∀ {x b c}, Way (lksE n ss) (fstN n) x b → Way (lksE n ss) (fstN n) x c → b = c := fun {x b c} h1 h2 => by
  obtain ⟨t, t1, t2⟩ := way_set T hN hz hm h1
  obtain ⟨u, u1, u2⟩ := way_set T hN hz hm h2
  have := orth (fun z => t z ^^ u z) fun r => by
   by_cases hr : r < n.length
   ·rw [parL_xor t u, t1 r hr, u1 r hr]
    cases decide (nmA n r = fstN n) <;> cases decide (nmA n r = x) <;> rfl
   ·have : row n r = [] := by
     unfold row
     rw [List.getElem?_eq_none (by omega)]
     rfl
    rw [this]
    rfl
  rw [dotT_xor, t2, u2] at this
  cases b <;> cases c <;> first | rfl | cases this
 have next : ∀ {e : End} {z : Str} {b : Bool}, tieAt n e = some z → Way (lksE n ss) (fstN n) (nmA n e.1) b → Way (lksE n ss) (fstN n) (nmA n (other n e).1) (b != decide (z ∈ ss)) := fun {e z b} he h => by
  rcases (lksE_tells (n := n) (ss := ss)).to e z he with t | t
  ·exact .there h t
  ·exact .back h t
 have all : ∀ r, r < n.length → ∃ b, Way (lksE n ss) (fstN n) (nmA n r) b := fun r hr => by
  have := hg (fun x => ∃ b, Way (lksE n ss) (fstN n) x b) ⟨n[0], List.getElem_mem h0, false, by rw [← nmA_eq h0]; exact .here⟩ (fun r hr s hs' t tr ts ⟨b, hb⟩ => ?_) n[r] (List.getElem_mem hr)
  ·rw [← nmA_eq hr] at this
   exact this
  ·obtain ⟨i, hi, rfl⟩ := List.mem_iff_getElem.mp hr
   obtain ⟨j, hj, rfl⟩ := List.mem_iff_getElem.mp hs'
   obtain ⟨p, hp⟩ := List.getElem?_of_mem tr
   obtain ⟨q, hq⟩ := List.getElem?_of_mem ts
   have h1 : tieAt n (i, p) = some t := by show (row n i)[p]? = _; rw [row_eq hi]; exact hp
   have h2 : tieAt n (j, q) = some t := by show (row n j)[q]? = _; rw [row_eq hj]; exact hq
   rcases (tie_two T h1).mp h2 with e | e
   ·have : j = i := congrArg (·.1) e
    subst this
    exact ⟨b, hb⟩
   ·rw [← nmA_eq hi] at hb
    have := next h1 hb
    rw [← e] at this
    exact ⟨_, by rw [← nmA_eq hj]; exact this⟩
 obtain ⟨sd, h1, h2⟩ := srt_someY (((List.range n.length).filter fun (r : Nat) => decide (Way (lksE n ss) (fstN n) (nmA n r) true)).map (nmA n))
 have mem : ∀ r, r < n.length → ∀ b, Way (lksE n ss) (fstN n) (nmA n r) b → decide (nmA n r ∈ sd) = b := fun r hr b hb => by
  have : nmA n r ∈ sd ↔ b = true := by
   rw [h2, List.mem_map]
   constructor
   ·rintro ⟨i, hi, e⟩
    rw [List.mem_filter, List.mem_range] at hi
    have := nmA_inj hN hi.1 hr e
    subst this
    exact uniq hb (of_decide_eq_true hi.2)
   ·intro e
    subst e
    exact ⟨r, List.mem_filter.mpr ⟨List.mem_range.mpr hr, decide_eq_true hb⟩, rfl⟩
  by_cases q : b = true
  ·rw [q]; exact decide_eq_true (this.mpr q)
  ·rw [Bool.not_eq_true] at q
   rw [q]
   exact decide_eq_false fun k => by rw [this.mp k] at q; cases q
 refine ⟨sd, h1, fun x hx => ?_, fun hx => ?_, fun z => ?_⟩
 ·obtain ⟨i, hi, rfl⟩ := List.mem_map.mp ((h2 x).mp hx)
  exact at_name (List.mem_range.mp (List.mem_filter.mp hi).1)
 ·have := mem 0 h0 false .here
  exact absurd hx (of_decide_eq_false this)
 ·by_cases hzt : z ∈ ties n
  ·obtain ⟨p, hp⟩ : ∃ p, p ∈ pos n z := by
    have : pos n z ≠ [] := fun q => by have := pos_len n z; rw [q, T z hzt] at this; cases this
    exact List.exists_mem_of_ne_nil _ this
   have he := mem_pos.mp hp
   obtain ⟨b, hb⟩ := all p.1 (row_lt he)
   have hc := next he hb
   rw [cut_iff T he, mem _ (row_lt he) b hb, mem _ (other_lt T he) _ hc]
   constructor
   ·intro h
    rw [decide_eq_true h]
    cases b <;> rfl
   ·intro h
    refine Classical.byContradiction fun k => ?_
    rw [decide_eq_false k] at h
    cases b <;> cases h
  ·exact ⟨fun h => absurd (hs z h) hzt, fun h => absurd (cut_mem h) hzt⟩
theorem two_oth {n : Net} (T : Twice n) {e : End} (h : e ∈ ends n) : two n (other n (two n e)) = other n e := by
 have g1 := go_end (c := 1) T h
 have h2 := two_end T h
 obtain ⟨z, hz⟩ := mem_ends.mp h2
 obtain ⟨y, hy⟩ := mem_ends.mp g1
 have e1 : go 1 n (other n (two n e)) = other n (go 1 n e) := by
  show rnd 1 n (other n (other n (two n e))) = _
  rw [(other_spec T hz).2.1]
  show rnd 1 n (rnd (-1) n (other n (go 1 n e))) = _
  have := rnd_back (c := -1) (other_end T g1)
  rw [Int.neg_neg] at this
  exact this
 show go (-1) n (go 1 n (other n (two n e))) = _
 rw [e1]
 show rnd (-1) n (other n (other n (go 1 n e))) = _
 rw [(other_spec T hy).2.1]
 exact rnd_back (other_end T h)
theorem it_end {n : Net} (T : Twice n) {e : End} (h : e ∈ ends n) (k : Nat) : it (two n) k e ∈ ends n := it_mem (fun a ha => two_end T ha) h k
theorem it_first {α : Type} (f : α → α) (a : α) : ∀ k, it f k (f a) = it f (k + 1) a
 | 0 => rfl
 | k + 1 => by show f (it f k (f a)) = f (it f (k + 1) a); rw [it_first f a k]
theorem it_add {α : Type} (f : α → α) (a : α) (i : Nat) : ∀ j, it f (i + j) a = it f j (it f i a)
 | 0 => rfl
 | j + 1 => by show f (it f (i + j) a) = f (it f j (it f i a)); rw [it_add f a i j]
theorem two_ne {n : Net} (T : Twice n) {e : End} (h : e ∈ ends n) : two n e ≠ other n e := fun q => by
 have g1 := go_end (c := 1) T h
 obtain ⟨y, hy⟩ := mem_ends.mp g1
 have h1 : rnd (-1) n (go 1 n e) = other n e := rnd_back (other_end T h)
 have h2 : rnd (-1) n (other n (go 1 n e)) = other n e := q
 exact (other_spec T hy).2.2 (rnd_inj (c := -1) (other_end T g1) g1 (h2.trans h1.symm))
theorem ob_ne {n : Net} (T : Twice n) : ∀ (k : Nat) {e : End}, e ∈ ends n → it (two n) k e ≠ other n e
 | 0, e, h => fun q => by
  obtain ⟨z, hz⟩ := mem_ends.mp h
  exact (other_spec T hz).2.2 q.symm
 | 1, e, h => two_ne T h
 | k + 2, e, h => fun q => by
  have e1 : two n (it (two n) (k + 1) e) = two n (other n (two n e)) := by rw [two_oth T h]; exact q
  have e2 := two_inj T (it_end T h (k + 1)) (other_end T (two_end T h)) e1
  rw [← it_first] at e2
  exact ob_ne T k (two_end T h) e2
theorem tnm_two {n : Net} (T : Twice n) {a b : End} (ha : a ∈ ends n) (hb : b ∈ ends n) (h : tnm n a = tnm n b) : b = a ∨ b = other n a := by
 obtain ⟨z, hz⟩ := mem_ends.mp ha
 obtain ⟨y, hy⟩ := mem_ends.mp hb
 rw [tnm_eq hz, tnm_eq hy] at h
 subst h
 exact (tie_two T hz).mp hy
theorem it_ne {n : Net} (T : Twice n) {e : End} (h : e ∈ ends n) {k : Nat} (p : Per n e k) {i j : Nat} (hij : i < j) (hj : j < k) : it (two n) i e ≠ it (two n) j e := fun q => by
 have inj : ∀ (m : Nat) {a b : End}, a ∈ ends n → b ∈ ends n → it (two n) m a = it (two n) m b → a = b := fun m => by
  induction m with
  | zero => intro a b _ _ q; exact q
  | succ m ih => intro a b ha hb q; exact ih ha hb (two_inj T (it_end T ha m) (it_end T hb m) q)
 have e1 : it (two n) j e = it (two n) i (it (two n) (j - i) e) := by rw [← it_add, show j - i + i = j by omega]
 rw [e1] at q
 have := inj i h (it_end T h _) q
 exact p.first (j - i) (by omega) (by omega) this.symm
theorem evens_tie {n : Net} (T : Twice n) {e : End} (h : e ∈ ends n) {k : Nat} (p : Per n e k) {i j : Nat} (hij : i < j) (hj : j < k) : tnm n (it (two n) i e) ≠ tnm n (it (two n) j e) := fun q => by
 rcases tnm_two T (it_end T h i) (it_end T h j) q with c | c
 ·exact it_ne T h p hij hj c.symm
 ·rw [show j = i + (j - i) by omega, it_add] at c
  exact ob_ne T (j - i) (it_end T h i) c
theorem odd_tie {n : Net} (T : Twice n) {x y : End} (hx : x ∈ ends n) (hy : y ∈ ends n) (q : tnm n (go 1 n x) = tnm n (go 1 n y)) : x = y ∨ two n y = other n x := by
 have g1 := go_end (c := 1) T hx
 rcases tnm_two T g1 (go_end (c := 1) T hy) q with c | c
 ·exact .inl (go_inj T hy hx c).symm
 ·refine .inr ?_
  obtain ⟨z, hz⟩ := mem_ends.mp g1
  show go (-1) n (go 1 n y) = _
  rw [c]
  show rnd (-1) n (other n (other n (go 1 n x))) = _
  rw [(other_spec T hz).2.1]
  exact rnd_back (other_end T hx)
theorem wk_perm (n : Net) (e : End) : ∀ k, ((wk n e k).map (tnm n)).Perm (((List.range k).map fun i => tnm n (it (two n) i e)) ++ (List.range k).map fun i => tnm n (go 1 n (it (two n) i e)))
 | 0 => List.Perm.refl _
 | k + 1 => by
  rw [List.range_succ, List.map_append, List.map_append]
  show ((wk n e k ++ [it (two n) k e, go 1 n (it (two n) k e)]).map (tnm n)).Perm _
  rw [List.map_append]
  refine ((wk_perm n e k).append_right _).trans ?_
  generalize ((List.range k).map fun i => tnm n (it (two n) i e)) = A
  generalize ((List.range k).map fun i => tnm n (go 1 n (it (two n) i e))) = B
  show (A ++ B ++ [tnm n (it (two n) k e), tnm n (go 1 n (it (two n) k e))]).Perm ((A ++ [tnm n (it (two n) k e)]) ++ (B ++ [tnm n (go 1 n (it (two n) k e))]))
  rw [List.append_assoc, List.append_assoc]
  refine List.Perm.append_left A ?_
  show (B ++ ([tnm n (it (two n) k e)] ++ [tnm n (go 1 n (it (two n) k e))])).Perm ([tnm n (it (two n) k e)] ++ (B ++ [tnm n (go 1 n (it (two n) k e))]))
  rw [← List.append_assoc, ← List.append_assoc]
  exact List.Perm.append_right _ List.perm_append_comm
end Nt
namespace Nt
open PySem L2
noncomputable def obE (n : Net) (e : End) : List End := evens (walker n e)
theorem obE_eq {n : Net} {e : End} {k : Nat} (p : Per n e k) : obE n e = (List.range k).map fun i => it (two n) i e := by
 unfold obE walker
 rw [per_eq p, wk_evens]
theorem it_mul {n : Net} {e : End} {k : Nat} (h : it (two n) k e = e) : ∀ m, it (two n) (k * m) e = e
 | 0 => rfl
 | m + 1 => by rw [Nat.mul_succ, Nat.add_comm, it_add, h, it_mul h m]
theorem obE_mem {n : Net} (T : Twice n) {e : End} (h : e ∈ ends n) {x : End} : x ∈ obE n e ↔ ∃ i, it (two n) i e = x := by
 obtain ⟨k, p, _⟩ := per_some T h
 rw [obE_eq p, List.mem_map]
 constructor
 ·rintro ⟨i, _, q⟩; exact ⟨i, q⟩
 ·rintro ⟨i, q⟩
  have p0 := p.pos
  refine ⟨i % k, List.mem_range.mpr (Nat.mod_lt _ p0), ?_⟩
  rw [← q]
  have := Nat.div_add_mod i k
  conv => rhs; rw [← this]
  rw [it_add, it_mul p.back]
theorem obE_end {n : Net} (T : Twice n) {e : End} (h : e ∈ ends n) : ∀ x ∈ obE n e, x ∈ ends n := fun x hx => by
 obtain ⟨i, q⟩ := (obE_mem T h).mp hx
 rw [← q]
 exact it_end T h i
theorem obE_pred {n : Net} (T : Twice n) {e : End} (h : e ∈ ends n) {x : End} (hx : x ∈ obE n e) : ∃ y ∈ obE n e, two n y = x := by
 obtain ⟨i, q⟩ := (obE_mem T h).mp hx
 obtain ⟨k, p, _⟩ := per_some T h
 have p0 := p.pos
 refine ⟨it (two n) (i + k - 1) e, (obE_mem T h).mpr ⟨_, rfl⟩, ?_⟩
 show it (two n) (i + k - 1 + 1) e = x
 rw [show i + k - 1 + 1 = k + i by omega, it_add, p.back, q]
theorem obE_two {n : Net} (T : Twice n) {e : End} (h : e ∈ ends n) {x : End} (hx : x ∈ obE n e) : two n x ∈ obE n e := by
 obtain ⟨i, q⟩ := (obE_mem T h).mp hx
 exact (obE_mem T h).mpr ⟨i + 1, by rw [← q]; rfl⟩
theorem obE_tie {n : Net} (T : Twice n) {e : End} (h : e ∈ ends n) {x : End} (hx : x ∈ ends n) : tnm n x ∈ (obE n e).map (tnm n) ↔ x ∈ obE n e ∨ other n x ∈ obE n e := by
 rw [List.mem_map]
 constructor
 ·rintro ⟨y, hy, q⟩
  rcases tnm_two T hx (obE_end T h y hy) q.symm with c | c
  ·exact .inl (c ▸ hy)
  ·exact .inr (c ▸ hy)
 ·rintro (c | c)
  ·exact ⟨x, c, rfl⟩
  ·refine ⟨_, c, ?_⟩
   obtain ⟨z, hz⟩ := mem_ends.mp hx
   rw [tnm_eq hz, tnm_eq (other_spec T hz).1]
theorem other_other {n : Net} (T : Twice n) {e : End} (h : e ∈ ends n) : other n (other n e) = e := by
 obtain ⟨z, hz⟩ := mem_ends.mp h
 exact (other_spec T hz).2.1
noncomputable def Clo (n : Net) (told : List Str) : Prop := ∀ x ∈ ends n, (tnm n (two n x) ∈ told ↔ tnm n x ∈ told)
theorem clo_it {n : Net} (T : Twice n) {told : List Str} (C : Clo n told) {e : End} (h : e ∈ ends n) : ∀ i, tnm n (it (two n) i e) ∈ told ↔ tnm n e ∈ told
 | 0 => Iff.rfl
 | i + 1 => (C _ (it_end T h i)).trans (clo_it T C h i)
theorem clo_ob {n : Net} (T : Twice n) {e : End} (h : e ∈ ends n) : Clo n ((obE n e).map (tnm n)) := fun x hx => by
 rw [obE_tie T h (two_end T hx), obE_tie T h hx]
 constructor
 ·rintro (c | c)
  ·obtain ⟨y, hy, q⟩ := obE_pred T h c
   exact .inl (two_inj T (obE_end T h y hy) hx q ▸ hy)
  ·have := obE_two T h c
   rw [two_oth T hx] at this
   exact .inr this
 ·rintro (c | c)
  ·exact .inl (obE_two T h c)
  ·obtain ⟨y, hy, q⟩ := obE_pred T h c
   have hye := obE_end T h y hy
   have e1 : two n x = other n y := by
    rw [← other_other T hx, ← q, two_oth T hye]
   exact .inr (by rw [e1, other_other T hye]; exact hy)
structure WkAll (n : Net) (es : List End) (told : List Str) (ws : List (List End)) : Prop where
 nd : ((ws.flatMap evens).map (tnm n)).Nodup
 new : ∀ x ∈ ws.flatMap evens, x ∈ ends n ∧ tnm n x ∉ told
 cov : ∀ e ∈ es, tnm n e ∈ told ∨ tnm n e ∈ (ws.flatMap evens).map (tnm n)
 wk : ∀ w ∈ ws, ∃ e, e ∈ ends n ∧ w = walker n e
theorem wks_all {n : Net} (T : Twice n) : ∀ (es : List End) (told : List Str), (∀ e ∈ es, e ∈ ends n) → Clo n told → WkAll n es told (wks n es told)
 | [], told, _, _ => by
  unfold wks
  exact ⟨List.nodup_nil, fun x hx => (nomatch hx), fun e he => (nomatch he), fun w hw => (nomatch hw)⟩
 | e :: r, told, he, C => by
  have h := he e (List.mem_cons_self ..)
  unfold wks
  by_cases q : tnm n e ∈ told
  ·rw [if_pos q]
   have I := wks_all T r told (fun a ha => he a (List.mem_cons_of_mem _ ha)) C
   refine ⟨I.nd, I.new, fun a ha => ?_, I.wk⟩
   rcases List.mem_cons.mp ha with rfl | ha
   ·exact .inl q
   ·exact I.cov a ha
  ·rw [if_neg q]
   have C' : Clo n (told ++ (evens (walker n e)).map (tnm n)) := fun x hx => by
    rw [List.mem_append, List.mem_append]
    exact or_congr (C x hx) (clo_ob T h x hx)
   have I := wks_all T r _ (fun a ha => he a (List.mem_cons_of_mem _ ha)) C'
   have fresh : ∀ x ∈ obE n e, x ∈ ends n ∧ tnm n x ∉ told := fun x hx => by
    obtain ⟨i, k⟩ := (obE_mem T h).mp hx
    refine ⟨obE_end T h x hx, fun z => q ?_⟩
    rw [← k] at z
    exact (clo_it T C h i).mp z
   refine ⟨?_, fun x hx => ?_, fun a ha => ?_, fun w hw => ?_⟩
   ·rw [List.flatMap_cons, List.map_append, List.nodup_append]
    refine ⟨?_, I.nd, fun a ha b hb k => ?_⟩
    ·obtain ⟨k, p, _⟩ := per_some T h
     show ((obE n e).map (tnm n)).Nodup
     rw [obE_eq p, List.map_map, List.nodup_iff_pairwise_ne, List.pairwise_map, List.pairwise_iff_getElem]
     intro i j hi hj hij
     rw [List.getElem_range, List.getElem_range]
     rw [List.length_range] at hj
     exact evens_tie T h p hij hj
    ·subst k
     obtain ⟨x, hx, rfl⟩ := List.mem_map.mp hb
     exact (I.new x hx).2 (List.mem_append_right _ ha)
   ·rw [List.flatMap_cons] at hx
    rcases List.mem_append.mp hx with k | k
    ·exact fresh x k
    ·exact ⟨(I.new x k).1, fun z => (I.new x k).2 (List.mem_append_left _ z)⟩
   ·rw [List.flatMap_cons, List.map_append]
    rcases List.mem_cons.mp ha with rfl | ha
    ·exact .inr (List.mem_append_left _ (List.mem_map.mpr ⟨a, (obE_mem T h).mpr ⟨0, rfl⟩, rfl⟩))
    ·rcases I.cov a ha with k | k
     ·rcases List.mem_append.mp k with k | k
      ·exact .inl k
      ·exact .inr (List.mem_append_left _ k)
     ·exact .inr (List.mem_append_right _ k)
   ·rcases List.mem_cons.mp hw with rfl | hw
    ·exact ⟨e, h, rfl⟩
    ·exact I.wk w hw
theorem wk_split {n : Net} (T : Twice n) {e : End} (h : e ∈ ends n) : ((walker n e).map (tnm n)).Perm ((obE n e).map (tnm n) ++ (obE n e).map fun x => tnm n (go 1 n x)) := by
 obtain ⟨k, p, _⟩ := per_some T h
 rw [obE_eq p, List.map_map, List.map_map]
 unfold walker
 rw [per_eq p]
 exact wk_perm n e k
theorem flat_split {n : Net} (T : Twice n) : ∀ {ws : List (List End)}, (∀ w ∈ ws, ∃ e, e ∈ ends n ∧ w = walker n e) → (ws.flatMap fun w => w.map (tnm n)).Perm ((ws.flatMap evens).map (tnm n) ++ (ws.flatMap evens).map fun x => tnm n (go 1 n x))
 | [], _ => List.Perm.refl _
 | w :: ws, h => by
  obtain ⟨e, he, rfl⟩ := h w (List.mem_cons_self ..)
  have I := flat_split T (ws := ws) fun w hw => h w (List.mem_cons_of_mem _ hw)
  rw [List.flatMap_cons, List.flatMap_cons, List.map_append, List.map_append]
  refine ((wk_split T he).append I).trans ?_
  show (((obE n e).map (tnm n) ++ (obE n e).map fun x => tnm n (go 1 n x)) ++ _).Perm (((obE n e).map (tnm n) ++ _) ++ ((obE n e).map (fun x => tnm n (go 1 n x)) ++ _))
  generalize (obE n e).map (tnm n) = A
  generalize ((obE n e).map fun x => tnm n (go 1 n x)) = B
  generalize (ws.flatMap evens).map (tnm n) = D
  generalize ((ws.flatMap evens).map fun x => tnm n (go 1 n x)) = F
  rw [List.append_assoc, List.append_assoc]
  refine List.Perm.append_left A ?_
  rw [← List.append_assoc, ← List.append_assoc]
  exact List.Perm.append_right _ List.perm_append_comm
noncomputable abbrev wsA (n : Net) : List (List End) := wks n (ends n) []
theorem clo_nil (n : Net) : Clo n [] := fun x _ => by simp
theorem wsA_all {n : Net} (T : Twice n) : WkAll n (ends n) [] (wsA n) := wks_all T (ends n) [] (fun _ h => h) (clo_nil n)
theorem left_once {n : Net} (T : Twice n) {z : Str} (hz : z ∈ ties n) : (((wsA n).flatMap evens).map (tnm n)).count z = 1 := by
 have I := wsA_all T
 rw [List.Nodup.count I.nd, if_pos]
 have : pos n z ≠ [] := fun q => by have := pos_len n z; rw [q, T z hz] at this; cases this
 obtain ⟨p, hp⟩ := List.exists_mem_of_ne_nil _ this
 have hp := mem_pos.mp hp
 have := I.cov p (mem_ends.mpr ⟨z, hp⟩)
 rw [tnm_eq hp] at this
 rcases this with k | k
 ·cases k
 ·exact k
theorem all_two {n : Net} (T : Twice n) {x : End} (hx : x ∈ (wsA n).flatMap evens) : two n x ∈ (wsA n).flatMap evens := by
 obtain ⟨w, hw, hx⟩ := List.mem_flatMap.mp hx
 obtain ⟨e, he, rfl⟩ := (wsA_all T).wk w hw
 exact List.mem_flatMap.mpr ⟨_, hw, obE_two T he hx⟩
theorem map_nd {α β : Type} {f : α → β} : ∀ {l : List α}, l.Nodup → (∀ a ∈ l, ∀ b ∈ l, f a = f b → a = b) → (l.map f).Nodup
 | [], _, _ => List.nodup_nil
 | a :: l, h, inj => by
  have h := List.nodup_cons.mp h
  refine List.nodup_cons.mpr ⟨fun hm => ?_, map_nd h.2 fun x hx y hy => inj x (List.mem_cons_of_mem _ hx) y (List.mem_cons_of_mem _ hy)⟩
  obtain ⟨b, hb, q⟩ := List.mem_map.mp hm
  have := inj a (List.mem_cons_self ..) b (List.mem_cons_of_mem _ hb) q.symm
  exact h.1 (this ▸ hb)
theorem map_inj {α β : Type} {f : α → β} : ∀ {l : List α}, (l.map f).Nodup → ∀ a ∈ l, ∀ b ∈ l, f a = f b → a = b
 | c :: l, h, a, ha, b, hb, q => by
  rw [List.map_cons, List.nodup_cons] at h
  rcases List.mem_cons.mp ha with ea | ha'
  ·rcases List.mem_cons.mp hb with eb | hb'
   ·rw [ea, eb]
   ·exact absurd (List.mem_map.mpr ⟨b, hb', by rw [← q, ea]⟩) h.1
  ·rcases List.mem_cons.mp hb with eb | hb'
   ·exact absurd (List.mem_map.mpr ⟨a, ha', by rw [q, eb]⟩) h.1
   ·exact map_inj h.2 a ha' b hb' q
theorem nd_of_map {α β : Type} {f : α → β} : ∀ {l : List α}, (l.map f).Nodup → l.Nodup
 | [], _ => List.nodup_nil
 | a :: l, h => by
  rw [List.map_cons, List.nodup_cons] at h
  exact List.nodup_cons.mpr ⟨fun k => h.1 (List.mem_map.mpr ⟨a, k, rfl⟩), nd_of_map h.2⟩
theorem right_perm {n : Net} (T : Twice n) : (((wsA n).flatMap evens).map fun x => tnm n (go 1 n x)).Perm (((wsA n).flatMap evens).map (tnm n)) := by
 have I := wsA_all T
 refine perm_of (map_nd (nd_of_map I.nd) fun x hx y hy q => ?_) (fun z hz => ?_) (by rw [List.length_map, List.length_map]; exact Nat.le_refl _)
 ·have hxe := (I.new x hx).1
  have hye := (I.new y hy).1
  rcases odd_tie T hxe hye q with c | c
  ·exact c
  ·exfalso
   have t : tnm n (two n y) = tnm n x := by
    obtain ⟨z, hz⟩ := mem_ends.mp hxe
    rw [c, tnm_eq hz, tnm_eq (other_spec T hz).1]
   have := map_inj I.nd _ (all_two T hy) x hx t
   obtain ⟨z, hz⟩ := mem_ends.mp hxe
   exact (other_spec T hz).2.2 (c.symm.trans this)
 ·obtain ⟨x, hx, rfl⟩ := List.mem_map.mp hz
  obtain ⟨y, hy⟩ := mem_ends.mp (go_end (c := 1) T (I.new x hx).1)
  rw [tnm_eq hy]
  refine List.count_pos_iff.mp ?_
  rw [left_once T (tie_mem hy)]
  exact Nat.one_pos
theorem all_twice {n : Net} (T : Twice n) {z : Str} (hz : z ∈ ties n) : ((wsA n).flatMap fun w => w.map (tnm n)).count z = 2 := by
 rw [(flat_split T (wsA_all T).wk).count_eq, List.count_append, (right_perm T).count_eq, left_once T hz]
theorem count_flat (n : Net) (z : Str) : ∀ ws : List (List End), (ws.flatMap fun w => w.map (tnm n)).count z = (ws.map fun w => (w.map (tnm n)).count z).sum
 | [] => rfl
 | w :: ws => by rw [List.flatMap_cons, List.count_append, count_flat n z ws]; rfl
theorem sum_le : ∀ (l : List Nat) (x : Nat), x ∈ l → x ≤ l.sum
 | y :: l, x, h => by
  rw [List.sum_cons]
  rcases List.mem_cons.mp h with rfl | h
  ·omega
  ·have := sum_le l x h
   omega
theorem core_two {n : Net} (T : Twice n) {z : Str} (hz : z ∈ ties n) {w : List End} (hw : w ∈ wsA n) : (w.map (tnm n)).count z ≤ 2 := by
 have h := all_twice T hz
 rw [count_flat] at h
 have := sum_le ((wsA n).map fun w => (w.map (tnm n)).count z) _ (List.mem_map.mpr ⟨w, hw, rfl⟩)
 omega
theorem par_total (n : Net) (z : Str) : ∀ ws : List (List End), parL (ws.map fun w => oddW n w z) = decide ((ws.map fun w => (w.map (tnm n)).count z).sum % 2 = 1)
 | [] => rfl
 | w :: ws => by
  show (oddW n w z ^^ parL (ws.map fun w => oddW n w z)) = _
  rw [par_total n z ws, List.map_cons, List.sum_cons]
  unfold oddW
  generalize (w.map (tnm n)).count z = a
  generalize (ws.map fun w => (w.map (tnm n)).count z).sum = b
  by_cases h : a % 2 = 1
  ·rw [decide_eq_true h, Bool.true_xor, ← decide_not]
   exact decide_eq_decide.mpr (by omega)
  ·rw [decide_eq_false h, Bool.false_xor]
   exact decide_eq_decide.mpr (by omega)
theorem cores_sum {n : Net} (T : Twice n) {z : Str} (hz : z ∈ ties n) : parL ((wsA n).map fun w => oddW n w z) = false := by
 rw [par_total, ← count_flat, all_twice T hz]
 rfl
theorem core_in {n : Net} {w : List End} {ss : List Str} (hw : ∀ c ∈ w, c ∈ ends n) (h : ∀ z, z ∈ ss ↔ (w.map (tnm n)).count z = 1) : ∀ z ∈ ss, z ∈ ties n := fun z hz => by
 have := List.count_pos_iff.mp (by rw [(h z).mp hz]; exact Nat.one_pos)
 obtain ⟨e, he, rfl⟩ := List.mem_map.mp this
 obtain ⟨y, hy⟩ := mem_ends.mp (hw e he)
 rw [tnm_eq hy]
 exact tie_mem hy
theorem core_odd {n : Net} (T : Twice n) {w : List End} (hw : w ∈ wsA n) {ss : List Str} (h : ∀ z, z ∈ ss ↔ (w.map (tnm n)).count z = 1) {z : Str} (hz : z ∈ ties n) : decide (z ∈ ss) = oddW n w z := by
 have := core_two T hz hw
 unfold oddW
 refine decide_eq_decide.mpr ((h z).trans ?_)
 omega
theorem core_even {n : Net} (T : Twice n) {w : List End} (hw : w ∈ wsA n) {ss : List Str} (h : ∀ z, z ∈ ss ↔ (w.map (tnm n)).count z = 1) : evenAt n ss = true := by
 refine ev_of_evN (oddW_even T (wks_ok T (ends n) [] (fun _ h => h) w hw)) fun z hz => ?_
 rw [← core_odd T hw h hz]
 by_cases k : z ∈ ss
 ·rw [decide_eq_true k]; exact List.contains_iff_mem.mpr k
 ·rw [decide_eq_false k]; exact Bool.eq_false_iff.mpr fun q => k (List.contains_iff_mem.mp q)
theorem core_side {n : Net} (T : Twice n) (hf : HF n) (hN : (n.map (·.1)).Nodup) (h0 : 0 < n.length) {w : List End} (hw : w ∈ wsA n) {ss : List Str} (h : ∀ z, z ∈ ss ↔ (w.map (tnm n)).count z = 1) : ∃ sd, IsSide n ss sd := by
 have W := wks_ok T (ends n) [] (fun _ h => h) w hw
 have inT := core_in W.ends h
 obtain ⟨zs, sz, mz⟩ := srt_exists (ties n)
 refine side_exists T hf.1 hN h0 (srt_nodup sz) mz inT fun t ht => ?_
 obtain ⟨χ, hχ⟩ := hf.2.2 t ht
 have := oddW_face T W hχ
 have e : dotT zs t (fun z => decide (z ∈ ss)) = dotT zs t (fun z => decide ((w.map (tnm n)).count z % 2 = 1)) := by
  unfold dotT
  congr 1
  refine List.map_congr_left fun z hz => ?_
  show (t z && decide (z ∈ ss)) = (t z && decide ((w.map (tnm n)).count z % 2 = 1))
  rw [core_odd T hw h ((mz z).mp hz)]
  rfl
 rw [e, dotT_walk (n := n) (srt_nodup sz) fun y hy => ?_]
 ·rw [List.map_map]; exact this
 ·obtain ⟨x, hx, rfl⟩ := List.mem_map.mp hy
  obtain ⟨y, hy⟩ := mem_ends.mp (W.ends x hx)
  rw [tnm_eq hy]
  exact (mz y).mpr (tie_mem hy)
end Nt
namespace M2
open PySem L2 Nt Sort2
noncomputable def spIsSet : Sp := fun vs H Q _ => ∃ (a b : Addr) (ss : List Str), vs = [.ref a, .ref b] ∧ H a = some (Ls ss) ∧ H b = some (Ls ss) ∧ ss.length ≤ 1000 ∧ ∀ H', Same H H' → Q (.bl true) H'
section
variable {P : Program} {w : World} {K : PySem.W.Frag} {mg : Str → Option Value} {base : Heap}
noncomputable abbrev NIs : List Str := ["_law_found", "_law_due"]
noncomputable abbrev NIs' : List Str := ["_law_found", "_law_due", "_law_one"]
theorem scIs : FnScope NIs ["_law_found", "_law_due"] (defScope s_l_is_set) := ⟨rfl, rfl, rfl, by decide +kernel, rfl, by decide +kernel, by decide +kernel⟩
theorem nd_is : NIs'.Nodup := by decide +kernel
theorem ok_isSet {f : Addr} {fd : FuncData} (F : Fun K "_law_is_set" "_law_is_set" s_l_is_set f fd) (T : Txt mg) : FnOk P w K mg base CX0 1 f fd ["_law_found", "_law_due"] spIsSet := by
 refine F.gb scIs (fun vs H Q E h => ?_) (fun b0 H vs Q E hr h => ?_)
 ·obtain ⟨a, b, ss, rfl, _⟩ := h
  rfl
 obtain ⟨a, b, ss, rfl, ha, hb, hl, q⟩ := h
 have nd := scIs.nd
 have un := hr.u100
 show Run _ _ _ [some (.ref a), some (.ref b)] H
 refine run_if (et_bool (ew_or (et_not (et_val (ev_blt call_isi T.isi PyProof.Rows.boot_isinstance (ea_cons (ev_v 0 (ea_cons (ev_bltn (.ty "list") T.tlist PyProof.Rows.boot_list rfl (ea_nil ⟨_, _, _, true, rfl, .lst ha, k_ll K, true, rfl, iteF ?_⟩))))))))))
 refine ew_or1 (et_cmp (op_neD un) (ev_v 0 (ev_v 1 ⟨1, true, by decide, rnD_strs ha hb, _, rfl, iteF (run_nil ?_)⟩)))
 refine run_ret (ev_cmp (op_eqD un) (ev_comp (defScope s_l_is_set) NIs NIs' 1 (pi_list pe_ev) (ev_v 0 ⟨a, rfl, ⟨_, SqL.of ha⟩, fun D hD => ?_⟩)))
 refine comp_filt (fun _ => false) (small' (by omega)) ha hD (fun cl C s0 H0 ex v v0 H' R' h => eg_name 2 nd_is h) (fun cl C s0 H0 ex z zs T' h => ei_one (et_not (et_val (ev_blt call_isi T.isi PyProof.Rows.boot_isinstance (ea_cons (ev_v 2 (ea_cons (ev_bltn (.ty "str") T.tstr PyProof.Rows.boot_str rfl (ea_nil ⟨_, _, _, true, rfl, .str _, k_ss K, true, rfl, h⟩))))))))) (fun cl C s0 H0 ex z H' R' h => ev_v 2 h) ?_
 have e : (ss.filter fun _ => false) = [] := by simp
 rw [e]
 refine ev_lst (ea_nil ⟨(by show 0 ≤ sizeLine; decide), fun p hp => ?_⟩)
 have s1 := same_new hD (.lst (([] : List Str).map V.str))
 have s2 := same_new hp (.lst [])
 exact ⟨1, true, by decide, rcD_strs (zs := []) (s2 _ _ upd_same) upd_same, q _ (s1.trans s2)⟩
noncomputable def spLaw (K : PySem.W.Frag) : Sp := fun vs H Q _ => ∃ (a : Addr) (ns : List Int), vs = [.ref a] ∧ SqL K H a (ns.map V.int) ∧ ns.length ≤ 63 ∧ ∀ H', Q (.bl true) H'
noncomputable abbrev NW : List Str := ["_law_script", "_law_big_here", "_law_rows", "_law_handed", "_law_seats_here", "_law_total", "_law_walker", "_law_given", "_law_core_here"]
theorem scLaw : FnScope NW ["_law_script"] (defScope sLaw) := ⟨rfl, rfl, rfl, by decide +kernel, rfl, by decide +kernel, by decide +kernel⟩
theorem rnD_refs {X : Cx} {H : Hp} {a b : Addr} {ts : List Addr} (ha : H a = some (.lst (ts.map V.ref))) (hb : H b = some (.lst (ts.map V.ref))) : RnD X H 1 (.ref a) (.ref b) true := by
 have q := rnD_list (X := X) (k := 0) (fun _ => true) (SqL.of (K := X.K) ha) (SqL.of (K := X.K) hb) rfl fun j x y hx hy => by
  rw [hx] at hy
  cases hy
  rw [List.getElem?_map, Option.map_eq_some_iff] at hx
  obtain ⟨z, _, rfl⟩ := hx
  exact eqD_same
 rw [all_true] at q
 exact q
theorem ok_law {f : Addr} {fd : FuncData} (F : Fun K "law" "law" sLaw f fd) (T : Txt mg)
  (GC : Has P w K mg base 5 "_law_cell_at" ["_law_script", "_law_k"] (spCell K))
  (GB : Has P w K mg base 5 "_law_big" ["_law_script", "_law_at"] (spBig K))
  (GN : Has P w K mg base 5 "_law_net_by" ["_law_big_here", "_law_most", "_law_stem"] spNet)
  (GY : Has P w K mg base 5 "_law_copy" ["_law_rows"] spCopy)
  (GS : Has P w K mg base 5 "_law_seats" ["_law_rows"] spSeats)
  (GI : Has P w K mg base 5 "_law_side" ["_law_rows", "_law_seats_here", "_law_some"] spLSide)
  (GE : Has P w K mg base 5 "_law_even" ["_law_rows", "_law_some"] spIsR)
  (GM : Has P w K mg base 5 "_law_sum" ["_law_one", "_law_other_here"] spLSum)
  (GT : Has P w K mg base 5 "_law_is_set" ["_law_found", "_law_due"] spIsSet)
  (GO : Has P w K mg base 5 "_law_core" ["_law_rows", "_law_walker"] spLCore)
  (GW : Has P w K mg base 5 "walkers_of" ["rows"] spWks)
  (GP : Has P w K mg base 5 "core_of" ["rows", "walker"] spCore) :
  FnOk P w K mg base CX0 6 f fd ["_law_script"] (spLaw K) := by
 refine F.gb scLaw (fun vs H Q E h => ?_) (fun b0 H vs Q E hr h => ?_)
 ·obtain ⟨a, ns, rfl, _⟩ := h
  rfl
 obtain ⟨a, ns, rfl, hS, h63, q⟩ := h
 have nd := scLaw.nd
 have un := hr.u100
 have hu1 := hr.u1
 show Run _ _ _ [some (.ref a), none, none, none, none, none, none, none, none] H
 refine run_set 1 nd (ev_has GB hr (ea_cons (ev_v 0 (ea_cons (ev_int (ea_nil ⟨a, ns, 0, rfl, hS, by decide, fun b H1 s1 => ?_⟩))))))
 refine run_set 2 nd (ev_has GN hr (ea_cons (ev_op op_fdiv (ev_v 1 (ev_int ⟨_, _, rfl, rfl, ⟨by decide, by decide⟩, ?_⟩)))))
 refine ea_cons (ev_int (ea_cons (ev_op op_add (ev_op op_mod (ev_v 1 (ev_int ⟨_, _, rfl, rfl, (by show (0 : Int) < 97; decide), ev_has GC hr (ea_cons (ev_v 0 (ea_cons (ev_int (ea_nil ⟨a, ns, 9, rfl, s1.seq hS, by decide, fun c9 => ⟨_, _, rfl, rfl, ?_⟩⟩)))))⟩))))))
 refine ea_nil ⟨_, 16, _, rfl, by decide, by decide, fun R as n H2 s2 n2 hR hT hN hF hHF hti hnl has => ?_⟩
 have e16 : ((16 : Int)).toNat = 16 := rfl
 rw [e16] at hti hnl
 have hel := ends_len n
 have h0n : 0 < n.length := List.length_pos_iff.mpr (Full.some hF)
 refine run_set 3 nd (ev_has GY hr (ea_cons (ev_v 2 (ea_nil ⟨R, as, n, rfl, hR, by omega, fun M bs H3 s3 n3 f3 hM => ?_⟩))))
 refine run_set 4 nd (ev_has GS hr (ea_cons (ev_v 2 (ea_nil ⟨R, as, n, rfl, hR.same s3, by omega, by omega, fun ds ks H4 s4 n4 hSe => ?_⟩))))
 obtain ⟨kvS, ed, ek, ev⟩ := hSe.dict
 refine run_frz ed fun ob => ?_
 have sF : Same H3 (upd H4 ds (.frz ob (.dK kvS))) := same_mut s4 n4
 have kF : ∀ b o, b ≠ ds → H4 b = some o → (upd H4 ds (.frz ob (.dK kvS))) b = some o := fun b o hb h => by rw [upd_ne hb]; exact h
 have hSF : SeatsF (upd H4 ds (.frz ob (.dK kvS))) ds ob n ks := by
  refine ⟨⟨kvS, upd_same, ek, fun z hz => ?_⟩, hSe.nodup, hSe.mem⟩
  obtain ⟨a, ts, q1, q2, q3⟩ := ev z hz
  exact ⟨a, ts, q1, kF _ _ (ne_of q2 ed fun z => nomatch z) q2, q3.keep fun t e h => kF _ _ (ne_of h ed fun z => nomatch z) h⟩
 have hR5 := (hR.same s3).same sF
 have hM5 := hM.same sF
 show Run _ _ _ [some (.ref a), some (.int b), some (.ref R), some (.ref M), some (.ref ds), none, none, none, none] (upd H4 ds (.frz ob (.dK kvS)))
 generalize upd H4 ds (.frz ob (.dK kvS)) = H5 at hSF hR5 hM5
 refine run_set 5 nd (ev_lst (ea_nil ⟨(by show 0 ≤ sizeLine; decide), fun p0 hp0 => ?_⟩))
 have s6 := same_new hp0 (.lst [])
 have ep0 : (upd H5 p0 (.lst [])) p0 = some (Ls []) := upd_same
 show Run _ _ _ [some (.ref a), some (.int b), some (.ref R), some (.ref M), some (.ref ds), some (.ref p0), none, none, none] (upd H5 p0 (.lst []))
 have hM6 := hM5.same s6
 have hR6 := hR5.same s6
 have hS6 := hSF.same s6
 generalize upd H5 p0 (.lst []) = H6 at s6 ep0 hM6 hR6 hS6
 have wl := wks_len n (ends n) []
 have allW := wks_ok hT (ends n) [] fun e he => he
 refine run_forL (ev_has GW hr (ea_cons (ev_v 3 (ea_nil ⟨M, bs, n, rfl, hM6, hN, hT, by omega, by omega, fun L ls HB sB nB hL fL => ⟨L, rfl, ⟨_, SqL.of hL.lst⟩, ?_⟩⟩))))
 have lL := hL.len
 have hRB := hR6.same sB
 have hMB := hM6.same sB
 have hSB := hS6.same sB
 refine loop_list (xs := ls.map V.ref) (fun i σ H' => ∃ (tot : Addr) (tts : List Str) (u6 u7 u8 : Option V), Same HB H' ∧ H' tot = some (Ls tts) ∧ Srt tts ∧ (∀ z ∈ tts, z ∈ ties n) ∧ (∀ z ∈ ties n, decide (z ∈ tts) = parL (((wsA n).take i).map fun w => oddW n w z)) ∧
   σ = [some (.ref a), some (.int b), some (.ref R), some (.ref M), some (.ref ds), some (.ref tot), u6, u7, u8]) ⟨p0, [], _, _, _, fun _ _ h => h, sB _ _ ep0, List.Pairwise.nil, fun z hz => (nomatch hz), fun z _ => rfl, rfl⟩ ?_ ?_ ?_
 ·rintro i σ H' _ ⟨_, _, _, _, _, sm, _⟩
  exact SqL.of (sm _ _ hL.lst)
 ·rintro i x σ H' hx ⟨tot, tts, u6, u7, u8, sm, ett, sot, inT, par, rfl⟩
  rw [List.getElem?_map, Option.map_eq_some_iff] at hx
  obtain ⟨l, hl, rfl⟩ := hx
  have hil : i < ls.length := (List.getElem?_eq_some_iff.mp hl).1
  have hiw : i < (wsA n).length := by rw [← lL]; exact hil
  have hw : (wsA n)[i]? = some (wsA n)[i] := List.getElem?_eq_getElem hiw
  have etk : (wsA n).take (i + 1) = (wsA n).take i ++ [(wsA n)[i]] := by rw [List.take_add_one, hw]; rfl
  obtain ⟨ts, el, hE⟩ := hL.at' i l _ hl hw
  have hwm := List.mem_of_getElem? hw
  have wk := allW _ hwm
  generalize (wsA n)[i] = es at hw hE wk etk hwm
  have few := wk.few
  have inW : ∀ z ∈ es.map (tnm n), z ∈ ties n := fun z hz => by
   obtain ⟨e, he, rfl⟩ := List.mem_map.mp hz
   obtain ⟨y, hy⟩ := mem_ends.mp (wk.ends e he)
   rw [tnm_eq hy]
   exact tie_mem hy
  have short : ∀ l : List Str, l.Nodup → (∀ z ∈ l, z ∈ es.map (tnm n)) → l.length < 64 := fun l hn hm => by
   have := nodup_le hn fun z hz => inW z (hm z hz)
   omega
  refine eg_name 6 nd ?_
  refine run_set 7 nd (ev_typ call_list_of T.tlist PyProof.Rows.boot_list (ea_cons (ev_v 6 (ea_nil ⟨l, _, rfl, .inl (SqL.of (sm _ _ el)), fun g hg => ?_⟩))))
  have s7 := same_new hg (.lst (ts.map V.ref))
  have eg7 : (upd H' g (.lst (ts.map V.ref))) g = some (.lst (ts.map V.ref)) := upd_same
  show Run _ _ _ [some (.ref a), some (.int b), some (.ref R), some (.ref M), some (.ref ds), some (.ref tot), some (.ref l), some (.ref g), u8] (upd H' g (.lst (ts.map V.ref)))
  generalize upd H' g (.lst (ts.map V.ref)) = H7 at s7 eg7
  have sB7 := sm.trans s7
  refine run_set 8 nd (ev_has GP hr (ea_cons (ev_v 3 (ea_cons (ev_v 7 (ea_nil ⟨M, g, bs, n, ts, es, rfl, hMB.same sB7, hN, by omega, by omega, eg7, hE.same sB7, wk.ends, by omega, short, fun c cs H8 s8 n8 ec soc mc => ?_⟩))))))
  have sB8 := sB7.trans s8
  have evc : evenAt n cs = true := core_even hT hwm mc
  have sidec := core_side hT hHF hN h0n hwm mc
  have inC := core_in wk.ends mc
  have lc := half_len hT (srt_nodup soc) inC
  have lt := half_len hT (srt_nodup sot) inT
  show Run _ _ _ [some (.ref a), some (.int b), some (.ref R), some (.ref M), some (.ref ds), some (.ref tot), some (.ref l), some (.ref g), some (.ref c)] H8
  refine run_if (et_bool (ew_or (et_not (et_val (ev_has GT hr (ea_cons (ev_v 8 (ea_cons (ev_has GO hr (ea_cons (ev_v 2 (ea_cons (ev_v 6 (ea_nil ⟨R, l, as, n, ts, es, rfl, hRB.same sB8, hN, by omega, sB8 _ _ el, hE.same sB8, wk.ends, by omega, short, fun c2 cs2 H9 s9 n9 ec2 soc2 mc2 => ?_⟩))))))))))))))
  have ecs : cs2 = cs := srt_unique soc2 soc fun z => (mc2 z).trans (mc z).symm
  subst ecs
  refine ea_nil ⟨c, c2, cs2, rfl, s9 _ _ ec, ec2, by omega, fun H10 s10 => ⟨true, rfl, iteF ?_⟩⟩
  have s810 := s9.trans s10
  have sB10 := sB8.trans s810
  refine ew_or1 (et_cmp (op_neD un) (ev_v 7 (ev_v 6 ⟨1, true, by decide, rnD_refs ((s8.trans s810) _ _ eg7) (sB10 _ _ el), _, rfl, iteF (run_nil ?_)⟩)))
  refine run_if (et_bool (ew_or (et_not (et_val (ev_has GE hr (ea_cons (ev_v 2 (ea_cons (ev_v 8 (ea_nil ⟨R, c, as, n, cs2, rfl, hRB.same sB10, by omega, by omega, s810 _ _ ec, fun H11 s11 => ⟨_, rfl, ?_⟩⟩))))))))))
  rw [evc]
  refine iteF ?_
  have sB11 := sB10.trans s11
  have ec11 := s11 _ _ (s810 _ _ ec)
  refine ew_or1 (et_cmp op_isN (ev_has GI hr (ea_cons (ev_v 2 (ea_cons (ev_v 4 (ea_cons (ev_v 8 (ea_nil ⟨R, ds, c, as, n, cs2, ks, ob, rfl, hRB.same sB11, hSB.same sB11, hT, hHF.1, hN, h0n, by omega, ec11, inC, fun L2 H12 s12 _ => ev_non ⟨rfl, _, rfl, ?_⟩, fun H12 s12 hno => absurd sidec (fun ⟨sd, h⟩ => hno sd h)⟩)))))))))
  rw [decide_eq_false (fun k => by cases k)]
  refine iteF (run_nil ?_)
  have sB12 := sB11.trans s12
  have ett12 := s12 _ _ (s11 _ _ (s10 _ _ (s9 _ _ (s8 _ _ (s7 _ _ ett)))))
  refine run_set 5 nd (ev_has GM hr (ea_cons (ev_v 5 (ea_cons (ev_v 8 (ea_nil ⟨tot, c, tts, cs2, rfl, ett12, s12 _ _ ec11, by omega, srt_nodup sot, srt_nodup soc, fun t3 tts3 H13 s13 n13 et3 so3 m3 => ?_⟩))))))
  have sB13 := sB12.trans s13
  have ec13 := s13 _ _ (s12 _ _ ec11)
  show Run _ _ _ [some (.ref a), some (.int b), some (.ref R), some (.ref M), some (.ref ds), some (.ref t3), some (.ref l), some (.ref g), some (.ref c)] H13
  have ecl : (cs2.map V.str).length = cs2.length := List.length_map ..
  refine run_expr (ev_append (ev_v 8 ⟨c, rfl, ⟨_, ec13⟩, ev_str ⟨_, ec13, small' (by omega), ?_⟩⟩))
  have nBc : HB c = none := sB7.free n8
  have sB14 : Same HB (upd H13 c (.lst (cs2.map V.str ++ [.str "zz"]))) := same_mut sB13 nBc
  have et14 : (upd H13 c (.lst (cs2.map V.str ++ [.str "zz"]))) t3 = some (Ls tts3) := by
   have ne : t3 ≠ c := fun k => by rw [k, s12 _ _ ec11] at n13; cases n13
   rw [upd_ne ne]; exact et3
  have eg14 : (upd H13 c (.lst (cs2.map V.str ++ [.str "zz"]))) g = some (.lst (ts.map V.ref)) := by
   have ne : g ≠ c := fun k => by rw [← k, eg7] at n8; cases n8
   rw [upd_ne ne]
   exact s13 _ _ (s12 _ _ (s11 _ _ ((s8.trans s810) _ _ eg7)))
  generalize upd H13 c (.lst (cs2.map V.str ++ [.str "zz"])) = H14 at sB14 et14 eg14
  refine run_if (et_cmp (op_neD un) (ev_has GP hr (ea_cons (ev_v 3 (ea_cons (ev_v 7 (ea_nil ⟨M, g, bs, n, ts, es, rfl, hMB.same sB14, hN, by omega, by omega, eg14, hE.same sB14, wk.ends, by omega, short, fun c4 cs4 H15 s15 n15 ec4 so4 mc4 => ?_⟩)))))))
  have sB15 := sB14.trans s15
  refine ev_has GO hr (ea_cons (ev_v 2 (ea_cons (ev_v 6 (ea_nil ⟨R, l, as, n, ts, es, rfl, hRB.same sB15, hN, by omega, sB15 _ _ el, hE.same sB15, wk.ends, by omega, short, fun c5 cs5 H16 s16 n16 ec5 so5 mc5 => ⟨1, true, by decide, ?_, _, rfl, iteF (run_nil (run_nil ⟨t3, tts3, _, _, _, sB15.trans s16, s16 _ _ (s15 _ _ et14), so3, fun z hz => ?_, fun z hz => ?_, rfl⟩))⟩⟩)))))
  ·have e45 : cs5 = cs4 := srt_unique so5 so4 fun z => (mc5 z).trans (mc4 z).symm
   subst e45
   exact rnD_strs (s16 _ _ ec4) ec5
  ·have := (m3 z).mp hz
   by_cases k : z ∈ tts
   ·exact inT z k
   ·rw [if_neg k] at this
    exact inC z this
  ·rw [etk, List.map_append, parL_app, ← par z hz]
   show _ = (decide (z ∈ tts) ^^ (oddW n es z ^^ false))
   rw [Bool.xor_false, ← core_odd hT hwm mc2 hz]
   have := m3 z
   by_cases k1 : z ∈ tts
   ·rw [if_pos k1] at this
    rw [decide_eq_true k1]
    by_cases k2 : z ∈ cs2
    ·rw [decide_eq_true k2, decide_eq_false (fun k => this.mp k k2)]
     rfl
    ·rw [decide_eq_false k2, decide_eq_true (this.mpr k2)]
     rfl
   ·rw [if_neg k1] at this
    rw [decide_eq_false k1, Bool.false_xor]
    exact decide_eq_decide.mpr this
 ·rintro σ H' ⟨tot, tts, u6, u7, u8, sm, ett, sot, inT, par, rfl⟩
  have emp : tts = [] := by
   cases ht : tts with
   | nil => rfl
   | cons z r =>
    have hz : z ∈ tts := by rw [ht]; exact List.mem_cons_self ..
    have := par z (inT z hz)
    rw [decide_eq_true hz, List.length_map, lL, List.take_length, cores_sum hT (inT z hz)] at this
    cases this
  subst emp
  refine run_ret (ev_and (ev_cmp (op_eqD un) (ev_v 5 (ev_lst (ea_nil ⟨(by show 0 ≤ sizeLine; decide), fun p hp => ?_⟩)))))
  have s1 := same_new hp (.lst [])
  refine ⟨1, true, by decide, rcD_strs (zs := []) (s1 _ _ ett) upd_same, _, rfl, ?_⟩
  rw [if_pos rfl]
  exact ev_last (ev_cmp (op_eqD un) (ev_v 3 (ev_v 2 ⟨3, true, by decide, rcD_rows ((hMB.same sm).same s1) ((hRB.same sm).same s1), q _⟩)))
end
end M2
namespace M2
open PySem L2
theorem all_mk {l : PySem.W.OpenLaw} {w : World} {K : PySem.W.Frag} {h : Heap} {mg : Str → Option Value} {fa : Addr} (X : K.In h) (G : h.Ns mainGlobals mg) (hfa : mg "law" = some (.ref fa))
  (h1 : Df K "ends_round" sEnds) (h2 : Df K "ends_in_order" sOrder) (h3 : Df K "turned_left" sLeft) (h4 : Df K "turned_right" sRightT) (h5 : Df K "other_ends" sOthers) (h6 : Df K "ties_by_end" sByEnd) (h7 : Df K "left_steps" sLS) (h8 : Df K "right_steps" sRS) (h9 : Df K "walkers_of" sWks) (h10 : Df K "walker_from" sWkF) (h11 : Df K "core_of" s_core_of) (h12 : Df K "_law_cell_at" sCell) (h13 : Df K "_law_big" sBig) (h14 : Df K "_law_names" sNames) (h15 : Df K "_law_seats" sSeats) (h16 : Df K "_law_other" sOther) (h17 : Df K "_law_step" sStep) (h18 : Df K "_law_face" sFace) (h19 : Df K "_law_put" sPut) (h20 : Df K "_law_net_by" sNet) (h21 : Df K "_law_copy" sCopy) (h22 : Df K "_law_side" s_l_side) (h23 : Df K "_law_even" s_l_even) (h24 : Df K "_law_sum" s_l_sum) (h25 : Df K "_law_is_set" s_l_is_set) (h26 : Df K "_law_core" s_l_core) (hl : Df K "law" sLaw)
  (z : ∀ x ∈ (["isinstance", "tuple", "str", "int", "bool", "list", "dict", "set", "enumerate", "zip", "len", "range", "sorted", "max", "all"] : List Str), PySem.W.nsIn K mainGlobals x = some none) :
  ∃ fd : FuncData, (∀ (s : Shared) (v : Value), BindsTo s fd ⟨[v], []⟩ [("_law_script", v)]) ∧ ∀ base : Heap, K.In base → base.Ns mainGlobals mg → FnOk l.prog w K mg base CX0 6 fa fd ["_law_script"] (spLaw K) := by
 have T : Txt mg := ⟨PySem.W.mg_none_of X G (z _ (by simp)), PySem.W.mg_none_of X G (z _ (by simp)), PySem.W.mg_none_of X G (z _ (by simp)), PySem.W.mg_none_of X G (z _ (by simp)), PySem.W.mg_none_of X G (z _ (by simp)), PySem.W.mg_none_of X G (z _ (by simp)), PySem.W.mg_none_of X G (z _ (by simp)), PySem.W.mg_none_of X G (z _ (by simp)), PySem.W.mg_none_of X G (z _ (by simp)), PySem.W.mg_none_of X G (z _ (by simp)), PySem.W.mg_none_of X G (z _ (by simp)), PySem.W.mg_none_of X G (z _ (by simp)), PySem.W.mg_none_of X G (z _ (by simp)), PySem.W.mg_none_of X G (z _ (by simp)), PySem.W.mg_none_of X G (z _ (by simp))⟩
 refine hl.law X G hfa (fun _ _ _ _ _ _ s v => .of_eq rfl) fun base f fd F => ?_
 have G1 : Has l.prog w K mg base 1 "ends_round" ["row"] spEnds := h1.has X G (fun _ _ _ _ _ _ => bd1 fun _ => rfl) fun F => ok_ends F T
 have G2 : Has l.prog w K mg base 2 "ends_in_order" ["rows"] spOrd := h2.has X G (fun _ _ _ _ _ _ => bd1 fun _ => rfl) fun F => ok_order F T (G1.mono (by decide))
 have G3 : Has l.prog w K mg base 1 "turned_left" ["end", "many"] (spTL fun j => j + 1) := h3.has X G (fun _ _ _ _ _ _ => bd2 fun _ _ => rfl) fun F => ok_left F T
 have G4 : Has l.prog w K mg base 1 "turned_right" ["end", "many"] (spTL fun j => j - 1) := h4.has X G (fun _ _ _ _ _ _ => bd2 fun _ _ => rfl) fun F => ok_rightT F T
 have G5 : Has l.prog w K mg base 2 "other_ends" ["rows"] spOE := h5.has X G (fun _ _ _ _ _ _ => bd1 fun _ => rfl) fun F => ok_OE F T (G1.mono (by decide))
 have G6 : Has l.prog w K mg base 2 "ties_by_end" ["rows"] spBE := h6.has X G (fun _ _ _ _ _ _ => bd1 fun _ => rfl) fun F => ok_BE F T (G1.mono (by decide))
 have G7 : Has l.prog w K mg base 3 "left_steps" ["rows"] (spLS 1) := h7.has X G (fun _ _ _ _ _ _ => bd1 fun _ => rfl) fun F => ok_LS F T (G5.mono (by decide)) (G3.mono (by decide))
 have G8 : Has l.prog w K mg base 3 "right_steps" ["rows"] (spLS (-1)) := h8.has X G (fun _ _ _ _ _ _ => bd1 fun _ => rfl) fun F => ok_RS F T (G5.mono (by decide)) (G4.mono (by decide))
 have G10 : Has l.prog w K mg base 1 "walker_from" ["lefts", "rights", "first"] spWF := h10.has X G (fun _ _ _ _ _ _ => bd3 fun _ _ _ => rfl) fun F => ok_WF F T
 have G9 : Has l.prog w K mg base 4 "walkers_of" ["rows"] spWks := h9.has X G (fun _ _ _ _ _ _ => bd1 fun _ => rfl) fun F => ok_Wks F T (G7.mono (by decide)) (G8.mono (by decide)) (G6.mono (by decide)) (G2.mono (by decide)) (G10.mono (by decide))
 have G11 : Has l.prog w K mg base 3 "core_of" ["rows", "walker"] spCore := h11.has X G (fun _ _ _ _ _ _ => bd2 fun _ _ => rfl) fun F => ok_core F T (G6.mono (by decide))
 have G12 : Has l.prog w K mg base 1 "_law_cell_at" ["_law_script", "_law_k"] (spCell K) := h12.has X G (fun _ _ _ _ _ _ => bd2 fun _ _ => rfl) fun F => ok_cell F T
 have G13 : Has l.prog w K mg base 2 "_law_big" ["_law_script", "_law_at"] (spBig K) := h13.has X G (fun _ _ _ _ _ _ => bd2 fun _ _ => rfl) fun F => ok_big F T (G12.mono (by decide))
 have G14 : Has l.prog w K mg base 1 "_law_names" ["_law_stem", "_law_many"] spNames := h14.has X G (fun _ _ _ _ _ _ => bd2 fun _ _ => rfl) fun F => ok_names F T
 have G15 : Has l.prog w K mg base 1 "_law_seats" ["_law_rows"] spSeats := h15.has X G (fun _ _ _ _ _ _ => bd1 fun _ => rfl) fun F => ok_seats F T
 have G16 : Has l.prog w K mg base 1 "_law_other" ["_law_rows", "_law_seats_here", "_law_end"] spOther := h16.has X G (fun _ _ _ _ _ _ => bd3 fun _ _ _ => rfl) fun F => ok_other F T
 have G17 : Has l.prog w K mg base 2 "_law_step" ["_law_rows", "_law_seats_here", "_law_end", "_law_turn"] spStep := h17.has X G (fun _ _ _ _ _ _ => bd4 fun _ _ _ _ => rfl) fun F => ok_step F T (G16.mono (by decide))
 have G18 : Has l.prog w K mg base 3 "_law_face" ["_law_rows", "_law_seats_here", "_law_end"] spFace := h18.has X G (fun _ _ _ _ _ _ => bd3 fun _ _ _ => rfl) fun F => ok_face F T (G17.mono (by decide))
 have G19 : Has l.prog w K mg base 4 "_law_put" ["_law_rows", "_law_big_here", "_law_tie", "_law_point"] spPut := h19.has X G (fun _ _ _ _ _ _ => bd4 fun _ _ _ _ => rfl) fun F => ok_put F T (G15.mono (by decide)) (G18.mono (by decide))
 have G20 : Has l.prog w K mg base 5 "_law_net_by" ["_law_big_here", "_law_most", "_law_stem"] spNet := h20.has X G (fun _ _ _ _ _ _ => bd3 fun _ _ _ => rfl) fun F => ok_net F T (G14.mono (by decide)) (G19.mono (by decide))
 have G21 : Has l.prog w K mg base 1 "_law_copy" ["_law_rows"] spCopy := h21.has X G (fun _ _ _ _ _ _ => bd1 fun _ => rfl) fun F => ok_copy F T
 have G22 : Has l.prog w K mg base 1 "_law_side" ["_law_rows", "_law_seats_here", "_law_some"] spLSide := h22.has X G (fun _ _ _ _ _ _ => bd3 fun _ _ _ => rfl) fun F => ok_lside F T
 have G23 : Has l.prog w K mg base 1 "_law_even" ["_law_rows", "_law_some"] spIsR := h23.has X G (fun _ _ _ _ _ _ => bd2 fun _ _ => rfl) fun F => ok_even F T
 have G24 : Has l.prog w K mg base 1 "_law_sum" ["_law_one", "_law_other_here"] spLSum := h24.has X G (fun _ _ _ _ _ _ => bd2 fun _ _ => rfl) fun F => ok_lsum F T
 have G25 : Has l.prog w K mg base 1 "_law_is_set" ["_law_found", "_law_due"] spIsSet := h25.has X G (fun _ _ _ _ _ _ => bd2 fun _ _ => rfl) fun F => ok_isSet F T
 have G26 : Has l.prog w K mg base 1 "_law_core" ["_law_rows", "_law_walker"] spLCore := h26.has X G (fun _ _ _ _ _ _ => bd2 fun _ _ => rfl) fun F => ok_lcore F T
 exact ok_law F T (G12.mono (by decide)) (G13.mono (by decide)) (G20.mono (by decide)) (G21.mono (by decide)) (G15.mono (by decide)) (G22.mono (by decide)) (G23.mono (by decide)) (G24.mono (by decide)) (G25.mono (by decide)) (G26.mono (by decide)) (G9.mono (by decide)) (G11.mono (by decide))
theorem walk {l : PySem.W.OpenLaw} {q : Program} {loose : List Str} {XP : (Str → Option Value) → Heap → Prop} {YP : World → Heap → Prop} {d : DefRec} {K : Params → PySem.W.Frag} (hn : l.most = some 63) (hdf : d.params.defaults = [])
  (hY : ∀ (w : World) (h : Heap), YP w h → (K w.params).In h)
  (F : ∀ (w : World) (mg : Str → Option Value) (fa : Addr) (h : Heap), (K w.params).In h → h.Ns mainGlobals mg → mg d.name = some (.ref fa) →
   ∃ fd : FuncData, (∀ (s : Shared) (u : Value), BindsTo s fd ⟨[u], []⟩ [("_law_script", u)]) ∧ ∀ base : Heap, (K w.params).In base → base.Ns mainGlobals mg → FnOk l.prog w (K w.params) mg base CX0 6 fa fd ["_law_script"] (spLaw (K w.params))) :
  PySem.W.WalkO q loose XP YP l.row.toRowW d [] (fun f vs => PySem.call f vs) :=
 L2.walk_of (n := 63) (k := 6) (x := "_law_script") (CX := fun _ => CX0) (sp := fun w => spLaw (K w.params)) hn (by decide) hdf ⟨rfl, by decide, by decide⟩ hY F (fun _ _ a ns hl _ hS => ⟨a, ns, rfl, hS, hl, fun _ => rfl⟩) fun _ _ _ _ _ z => z
end M2
open PySem PySem.W PyProof.Rows
set_option maxRecDepth 100000 in
set_option maxHeartbeats 0 in
theorem PySem.Challenge.cw_threewebs_k32_cores_holds : PySem.Challenge.rw_threewebs_k32_cores.Holds := by
 w_on; o_law; k_head; (case hw => w_witness2)
 k_fill
 refine M2.walk (l := PySem.Challenge.rw_threewebs_k32_cores) rfl rfl (fun w h Y => PySem.W.kIn_of Y) ?F
 case F =>
  intro w mg fa h KX G hmg
  refine' M2.all_mk KX G hmg ?h1 ?h2 ?h3 ?h4 ?h5 ?h6 ?h7 ?h8 ?h9 ?h10 ?h11 ?h12 ?h13 ?h14 ?h15 ?h16 ?h17 ?h18 ?h19 ?h20 ?h21 ?h22 ?h23 ?h24 ?h25 ?h26 ?h0  ?zz
  case h1 => refine' L2.df_mk ?a ?l ?c ?k; (case a => k_is); (case l => k_is); (case c => k_is); (case k => k_is)
  case h2 => refine' L2.df_mk ?a ?l ?c ?k; (case a => k_is); (case l => k_is); (case c => k_is); (case k => k_is)
  case h3 => refine' L2.df_mk ?a ?l ?c ?k; (case a => k_is); (case l => k_is); (case c => k_is); (case k => k_is)
  case h4 => refine' L2.df_mk ?a ?l ?c ?k; (case a => k_is); (case l => k_is); (case c => k_is); (case k => k_is)
  case h5 => refine' L2.df_mk ?a ?l ?c ?k; (case a => k_is); (case l => k_is); (case c => k_is); (case k => k_is)
  case h6 => refine' L2.df_mk ?a ?l ?c ?k; (case a => k_is); (case l => k_is); (case c => k_is); (case k => k_is)
  case h7 => refine' L2.df_mk ?a ?l ?c ?k; (case a => k_is); (case l => k_is); (case c => k_is); (case k => k_is)
  case h8 => refine' L2.df_mk ?a ?l ?c ?k; (case a => k_is); (case l => k_is); (case c => k_is); (case k => k_is)
  case h9 => refine' L2.df_mk ?a ?l ?c ?k; (case a => k_is); (case l => k_is); (case c => k_is); (case k => k_is)
  case h10 => refine' L2.df_mk ?a ?l ?c ?k; (case a => k_is); (case l => k_is); (case c => k_is); (case k => k_is)
  case h11 => refine' L2.df_mk ?a ?l ?c ?k; (case a => k_is); (case l => k_is); (case c => k_is); (case k => k_is)
  case h12 => refine' L2.df_mk ?a ?l ?c ?k; (case a => k_is); (case l => k_is); (case c => k_is); (case k => k_is)
  case h13 => refine' L2.df_mk ?a ?l ?c ?k; (case a => k_is); (case l => k_is); (case c => k_is); (case k => k_is)
  case h14 => refine' L2.df_mk ?a ?l ?c ?k; (case a => k_is); (case l => k_is); (case c => k_is); (case k => k_is)
  case h15 => refine' L2.df_mk ?a ?l ?c ?k; (case a => k_is); (case l => k_is); (case c => k_is); (case k => k_is)
  case h16 => refine' L2.df_mk ?a ?l ?c ?k; (case a => k_is); (case l => k_is); (case c => k_is); (case k => k_is)
  case h17 => refine' L2.df_mk ?a ?l ?c ?k; (case a => k_is); (case l => k_is); (case c => k_is); (case k => k_is)
  case h18 => refine' L2.df_mk ?a ?l ?c ?k; (case a => k_is); (case l => k_is); (case c => k_is); (case k => k_is)
  case h19 => refine' L2.df_mk ?a ?l ?c ?k; (case a => k_is); (case l => k_is); (case c => k_is); (case k => k_is)
  case h20 => refine' L2.df_mk ?a ?l ?c ?k; (case a => k_is); (case l => k_is); (case c => k_is); (case k => k_is)
  case h21 => refine' L2.df_mk ?a ?l ?c ?k; (case a => k_is); (case l => k_is); (case c => k_is); (case k => k_is)
  case h22 => refine' L2.df_mk ?a ?l ?c ?k; (case a => k_is); (case l => k_is); (case c => k_is); (case k => k_is)
  case h23 => refine' L2.df_mk ?a ?l ?c ?k; (case a => k_is); (case l => k_is); (case c => k_is); (case k => k_is)
  case h24 => refine' L2.df_mk ?a ?l ?c ?k; (case a => k_is); (case l => k_is); (case c => k_is); (case k => k_is)
  case h25 => refine' L2.df_mk ?a ?l ?c ?k; (case a => k_is); (case l => k_is); (case c => k_is); (case k => k_is)
  case h26 => refine' L2.df_mk ?a ?l ?c ?k; (case a => k_is); (case l => k_is); (case c => k_is); (case k => k_is)
  case h0 => refine' L2.df_mk ?a ?l ?c ?k; (case a => k_is); (case l => k_is); (case c => k_is); (case k => k_is)
  case zz =>
   refine' List.forall_mem_cons.mpr ⟨?_, ?_⟩; k_is
   refine' List.forall_mem_cons.mpr ⟨?_, ?_⟩; k_is
   refine' List.forall_mem_cons.mpr ⟨?_, ?_⟩; k_is
   refine' List.forall_mem_cons.mpr ⟨?_, ?_⟩; k_is
   refine' List.forall_mem_cons.mpr ⟨?_, ?_⟩; k_is
   refine' List.forall_mem_cons.mpr ⟨?_, ?_⟩; k_is
   refine' List.forall_mem_cons.mpr ⟨?_, ?_⟩; k_is
   refine' List.forall_mem_cons.mpr ⟨?_, ?_⟩; k_is
   refine' List.forall_mem_cons.mpr ⟨?_, ?_⟩; k_is
   refine' List.forall_mem_cons.mpr ⟨?_, ?_⟩; k_is
   refine' List.forall_mem_cons.mpr ⟨?_, ?_⟩; k_is
   refine' List.forall_mem_cons.mpr ⟨?_, ?_⟩; k_is
   refine' List.forall_mem_cons.mpr ⟨?_, ?_⟩; k_is
   refine' List.forall_mem_cons.mpr ⟨?_, ?_⟩; k_is
   refine' List.forall_mem_cons.mpr ⟨?_, ?_⟩; k_is
   exact fun x hx => nomatch hx

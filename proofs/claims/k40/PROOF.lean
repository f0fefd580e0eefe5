import PyProof.Rows.All
import Wide.All
import OpenK.AllK
import Wide.FinOn
import Lean
import PyProof.EqAt
import PyProof.EqKinds
import PyProof.TupleCall
import KE.KDictLaws
import KE.KDictList
import KE.KDictSum
import KE.KSortTup
import KE.KUnpackStar
import PyProof.AttrMissSeq
import PyProof.Conv_int_bool
import PyProof.DictItems
import PyProof.DictIter
import PyProof.DictList
import PyProof.EnumFor
import PyProof.EnumMake
import PyProof.EnumStmt
import PyProof.NeKinds
import PyProof.Rows.CountFlat
import PyProof.Rows.EnumRows
import PyProof.Rows.FStr
import PyProof.Rows.StrSplitJoin
import PyProof.Rows.StrWeight2
import PyProof.Rows.TupDisplay
import PyProof.SetNew
import PyProof.SetRoads
import PyProof.WalkInts
import PyProof.ZipIter
import PySem.Challenge.RW_threewebs_k40_is_double
set_option Elab.async false
set_option linter.all false
set_option maxRecDepth 100000
namespace L2
open PySem PySem.Spec PyProof.Rows
abbrev Key := Sum Int Str
def k05 : Key → Value → Bool
 | .inl k, v => Value.isInt k v
 | .inr x, v => Value.isStrOf x v
def keyH (w : World) : Key → Int
 | .inl k => hashInt k
 | .inr x => hashStr w x
theorem j1c : ∀ {k : Key} {v : Value}, k05 k v = true → (∃ i t, k = Sum.inl i ∧ v = Value.int i t) ∨ (∃ x t, k = Sum.inr x ∧ v = Value.str x t)
 | .inl i, v, h => by
  obtain ⟨t, e⟩ := Value.isInt_shape (k := i) (v := v) h
  exact .inl ⟨i, t, rfl, e⟩
 | .inr x, v, h => by
  obtain ⟨t, e⟩ := Value.isStrOf_shape (x := x) (v := v) h
  exact .inr ⟨x, t, rfl, e⟩
theorem k32 (i : Int) (t : Tok) : k05 (.inl i) (.int i t) = true := by simp [k05, Value.isInt]
theorem k15 (x : Str) (t : Tok) : k05 (.inr x) (.str x t) = true := by simp [k05, Value.isStrOf]
theorem q1k (a b : Int) : decide ((Sum.inl a : Key) = Sum.inl b) = (a == b) := by
 by_cases e : a = b
 ·subst e; simp
 ·have h : ¬ (Sum.inl a : Key) = Sum.inl b := fun q => e (Sum.inl.inj q)
  rw [decide_eq_false h]
  exact (beq_eq_false_iff_ne.mpr e).symm
theorem q05 (a b : Str) : decide ((Sum.inr a : Key) = Sum.inr b) = decide (a = b) := by
 by_cases e : a = b
 ·subst e; simp
 ·have h : ¬ (Sum.inr a : Key) = Sum.inr b := fun q => e (Sum.inr.inj q)
  rw [decide_eq_false h, decide_eq_false e]
theorem q1b (a : Int) (b : Str) : decide ((Sum.inl a : Key) = Sum.inr b) = false := decide_eq_false (fun q => nomatch q)
theorem k94 (a : Str) (b : Int) : decide ((Sum.inr a : Key) = Sum.inl b) = false := decide_eq_false (fun q => nomatch q)
def j03 (prog : Program) (w : World) : PySem.KeyKind prog w Key where
 is := k05
 hash := keyH w
 inj := fun v a b ha hb => by
  rcases j1c ha with ⟨i, t, rfl, rfl⟩ | ⟨x, t, rfl, rfl⟩
  ·rcases j1c hb with ⟨j, u, rfl, e⟩ | ⟨y, u, rfl, e⟩
   ·injection e with e1 _; rw [e1]
   ·exact nomatch e
  ·rcases j1c hb with ⟨j, u, rfl, e⟩ | ⟨y, u, rfl, e⟩
   ·exact nomatch e
   ·injection e with e1 _; rw [e1]
 byValue := fun k v h => by
  rcases j1c h with ⟨i, t, rfl, rfl⟩ | ⟨x, t, rfl, rfl⟩ <;> rfl
 pyHash := fun hv h => by
  rcases j1c hv with ⟨i, t, rfl, rfl⟩ | ⟨x, t, rfl, rfl⟩
  ·exact wpAny_pyHash_int h
  ·exact wpAny_pyHash_str h
 eqBool := fun hu hv h => by
  rcases j1c hu with ⟨i, t, rfl, rfl⟩ | ⟨x, t, rfl, rfl⟩
  ·rcases j1c hv with ⟨j, u, rfl, rfl⟩ | ⟨y, u, rfl, rfl⟩
   ·rw [q1k] at h; exact wpAny_eqBool_int h
   ·rw [q1b] at h; exact SeqAt.EqAt.int_str i t y u _ _ _ _ h
  ·rcases j1c hv with ⟨j, u, rfl, rfl⟩ | ⟨y, u, rfl, rfl⟩
   ·rw [k94] at h; exact SeqAt.EqAt.str_int x t j u _ _ _ _ h
   ·rw [q05] at h; exact wpAny_eqBool_str h
 «strs» := fun k x t v h => by
  rcases j1c h with ⟨i, u, rfl, e⟩ | ⟨y, u, rfl, e⟩
  ·exact nomatch e
  ·injection e with e1 _
   subst e1
   cases v <;> rfl
theorem j8r (prog : Program) (w : World) (i : Int) (t : Tok) : (j03 prog w).is (.inl i) (.int i t) = true := k32 i t
theorem j9b (prog : Program) (w : World) (x : Str) (t : Tok) : (j03 prog w).is (.inr x) (.str x t) = true := k15 x t
end L2
namespace L2
open PySem PySem.Spec PyProof.Rows
inductive V where
 | non | bl (b : Bool) | int (i : Int) | str (x : Str) | byt (b : Array UInt8) | flt (b : UInt64) | ref (a : Addr) | ty (n : String)
 deriving DecidableEq
def RelV : V → Value → Prop
 | .non, u => u = Value.none
 | .bl b, u => u = Value.bool b
 | .int i, u => ∃ t, u = Value.int i t
 | .str x, u => ∃ t, u = Value.str x t
 | .byt b, u => ∃ t, u = Value.bytes b t
 | .flt b, u => ∃ t, u = Value.float b t
 | .ref a, u => u = Value.ref a
 | .ty n, u => u = Value.type n
abbrev Vals : List V → List Value → Prop := Paired RelV
theorem Vals.length {xs : List V} {us : List Value} (r : Vals xs us) : xs.length = us.length := Paired.length r
theorem Vals.get : ∀ {xs : List V} {us : List Value} {i : Nat} {x : V}, Vals xs us → xs[i]? = some x → ∃ u, us[i]? = some u ∧ RelV x u
 | _, _, _, _, .nil, e => by simp at e
 | _, _, 0, _, .cons r _, e => by simp at e; subst e; exact ⟨_, rfl, r⟩
 | _, _, i + 1, x, .cons _ t, e => by
  obtain ⟨u, h1, h2⟩ := Vals.get (i := i) (x := x) t (by simpa using e)
  exact ⟨u, by simpa using h1, h2⟩
theorem Vals.set {x : V} {u : Value} (r : RelV x u) : ∀ {xs : List V} {us : List Value} (i : Nat), Vals xs us → Vals (xs.set i x) (us.set i u)
 | _, _, _, .nil => .nil
 | _, _, 0, .cons _ t => .cons r t
 | _, _, i + 1, .cons q t => .cons q (Vals.set r i t)
theorem Vals.append : ∀ {xs ys : List V} {us ws : List Value}, Vals xs us → Vals ys ws → Vals (xs ++ ys) (us ++ ws)
 | _, _, _, _, .nil, s => s
 | _, _, _, _, .cons r t, s => .cons r (Vals.append t s)
theorem Vals.take : ∀ {xs : List V} {us : List Value} (n : Nat), Vals xs us → Vals (xs.take n) (us.take n)
 | _, _, 0, _ => .nil
 | _, _, _ + 1, .nil => .nil
 | _, _, n + 1, .cons r t => .cons r (Vals.take n t)
theorem Vals.drop : ∀ {xs : List V} {us : List Value} (n : Nat), Vals xs us → Vals (xs.drop n) (us.drop n)
 | _, _, 0, r => r
 | _, _, _ + 1, .nil => .nil
 | _, _, n + 1, .cons _ t => Vals.drop n t
def RelO : Option V → Option Value → Prop
 | some v, some u => RelV v u
 | none, none => True
 | _, _ => False
def KV {κ : Type} : List (κ × V) → List (κ × Value) → Prop := Paired fun (p : κ × V) (q : κ × Value) => p.1 = q.1 ∧ RelV p.2 q.2
def kV : Key → V
 | .inl i => .int i
 | .inr x => .str x
inductive HO where
 | lst (xs : List V)
 | tup (xs : List V)
 | dK (kvs : List (Key × V)) | dT (kvs : List (List Key × V))
 | set (S : Int → Bool) (n : Nat)
 | ins (C dx : Addr) (fs : List (Str × V))
 | own (x : Addr)
 | xd (fs : List (Str × V))
 | met (f x : Addr)
 | rng (lo hi : Int)
 | frz (o : Obj) (u : HO)
 | tbl (ps : Array Value)
 | ext (φ : Heap → Prop)
abbrev Hp := Addr → Option HO
def upd (H : Hp) (a : Addr) (o : HO) : Hp := fun b => if b = a then some o else H b
theorem j0b {H : Hp} {a : Addr} {o : HO} : upd H a o a = some o := by unfold upd; rw [if_pos rfl]
theorem j0c {H : Hp} {a b : Addr} {o : HO} (h : b ≠ a) : upd H a o b = H b := by unfold upd; rw [if_neg h]
theorem j4l {H : Hp} {a : Addr} {o u : HO} : upd (upd H a o) a u = upd H a u := by
 funext b; unfold upd; split <;> rfl
theorem j1j {H : Hp} {a b : Addr} {o u : HO} (h : H a = some o) (h' : H b = some u) (d : o ≠ u) : a ≠ b := by
 intro e; subst e; rw [h] at h'; exact d (Option.some.inj h')
theorem j0d {H : Hp} {a b : Addr} {o : HO} (h : H a = some o) (h' : H b = none) : a ≠ b := by
 intro e; subst e; rw [h] at h'; cases h'
section
variable (P : Program) (w : World)
def ObjOk (H : Hp) (h : Heap) (a : Addr) : HO → Prop
 | .lst xs => xs.length ≤ sizeLine ∧ ∃ (its : List Value) (n : Nat), Vals xs its ∧ h.get? a = some { cls := .type "list", data := .seq its.toArray n }
 | .tup xs => xs.length ≤ sizeLine ∧ ∃ its : List Value, Vals xs its ∧ IsTup h a its.toArray
 | .dK kvs => kvs.length ≤ sizeLine ∧ (a == sysModules) = false ∧ ∃ vs, KV kvs vs ∧ h.DictOf (j03 P w) a vs
 | .dT kvs => kvs.length ≤ sizeLine ∧ (a == sysModules) = false ∧ ∃ xs : List (List Key × Addr × Value),
   Paired (fun (p : List Key × V) (q : List Key × Addr × Value) => p.1 = q.1 ∧ H q.2.1 = some (.tup (p.1.map kV)) ∧ RelV p.2 q.2.2) kvs xs ∧
   ∃ o es ep, h.get? a = some o ∧ o.ExactDict ∧ o.data = .dict es ep ∧ es.toList = xs.map (entryOfKey (tupleKind (j03 P w))) ∧ (xs.map (·.1)).Nodup
 | .set S n => h.SetOf (intKind P w) a S n
 | .ins C dx fs => H dx = some (.own a) ∧ fs.length ≤ 1000 ∧ dx ≠ a ∧ h.get? a = some (PySem.W.instObj C dx) ∧
   ∃ mA, h.Ns1 dx mA ∧ (∀ f, RelO (fs.lookup f) (mA f)) ∧ PySem.Within mA (fs.map (·.1))
 | .own _ => ∃ o, h.get? a = some o
 | .xd fs => ∃ mA, h.Ns1 a mA ∧ ∀ f, RelO (fs.lookup f) (mA f)
 | .rng lo hi => ∃ t u v, h.get? a = some { cls := .type "range", data := .fields #[.int lo t, .int hi u, .int 1 v] }
 | .frz o u => h.get? a = some o ∧ ObjOk H h a u
 | .tbl ps => h.get? a = some { cls := .none, data := .fields ps }
 | .met f x => h.get? a = some (PySem.W.methodObj (.ref f) (.ref x))
 | .ext φ => φ h ∧ (∃ o, h.get? a = some o) ∧ ∀ h1 h2 : Heap, φ h1 → (∀ o, h1.get? a = some o → h2.get? a = some o) → φ h2
def HOk (H : Hp) (h : Heap) : Prop := ∀ a o, H a = some o → ObjOk P w H h a o
end
section
variable {P : Program} {w : World} {H H' : Hp} {h h' : Heap} {a : Addr} {o : HO}
theorem ObjOk.lt (x : ObjOk P w H h a o) : a < h.objs.size := by
 cases o with
 | lst xs => obtain ⟨_, _, _, _, e⟩ := x; exact Heap.lt_size e
 | tup xs => obtain ⟨_, _, _, p⟩ := x; exact p.lt
 | dK kvs => obtain ⟨_, _, _, _, o, _, _, e, _⟩ := x; exact Heap.lt_size e
 | dT kvs => obtain ⟨_, _, _, _, o, _, _, e, _⟩ := x; exact Heap.lt_size e
 | set S n => obtain ⟨o, _, _, _, e, _⟩ := x; exact Heap.lt_size e
 | ins C dx fs => obtain ⟨_, _, _, e, _⟩ := x; exact Heap.lt_size e
 | own y => obtain ⟨_, e⟩ := x; exact Heap.lt_size e
 | xd fs => obtain ⟨_, ⟨_, _, _, e, _⟩, _⟩ := x; exact Heap.lt_size e
 | rng lo hi => obtain ⟨_, _, _, e⟩ := x; exact Heap.lt_size e
 | frz ob u => obtain ⟨e, _⟩ := x; exact Heap.lt_size e
 | tbl ps => exact Heap.lt_size (show h.get? a = some _ from x)
 | met f y => exact Heap.lt_size (show h.get? a = some _ from x)
 | ext φ => obtain ⟨_, ⟨_, e⟩, _⟩ := x; exact Heap.lt_size e
theorem Paired.mapP {α β : Type} {F G : α → β → Prop} : ∀ {l₁ : List α} {l₂ : List β}, Paired F l₁ l₂ → (∀ a b, F a b → G a b) → Paired G l₁ l₂
 | _, _, .nil, _ => .nil
 | _, _, .cons r t, f => .cons (f _ _ r) (Paired.mapP t f)
theorem ObjOk.stay (x : ObjOk P w H h a o) (k : ∀ b u, (b = a ∨ H b = some (.own a)) → h.get? b = some u → h'.get? b = some u)
  (ho : ∀ b, H b = some (.own a) → H' b = some (.own a)) (ht : ∀ b xs, H b = some (.tup xs) → H' b = some (.tup xs)) : ObjOk P w H' h' a o := by
 induction o with
 | lst xs => obtain ⟨z, its, n, r, e⟩ := x; exact ⟨z, its, n, r, k _ _ (.inl rfl) e⟩
 | tup xs => obtain ⟨z, its, r, ob, e, c⟩ := x; exact ⟨z, its, r, ob, k _ _ (.inl rfl) e, c⟩
 | dK kvs => obtain ⟨z, y, vs, r, ob, es, ep, e, c⟩ := x; exact ⟨z, y, vs, r, ob, es, ep, k _ _ (.inl rfl) e, c⟩
 | dT kvs =>
  obtain ⟨z, y, xs, r, ob, es, ep, e, c⟩ := x
  exact ⟨z, y, xs, Paired.mapP r fun p q z => ⟨z.1, ht _ _ z.2.1, z.2.2⟩, ob, es, ep, k _ _ (.inl rfl) e, c⟩
 | set S n => obtain ⟨ob, es, ep, t, e, c⟩ := x; exact ⟨ob, es, ep, t, k _ _ (.inl rfl) e, c⟩
 | ins C dx fs =>
  obtain ⟨d, z, ne, e, mA, ⟨od, es, ep, e2, c⟩, r⟩ := x
  exact ⟨ho _ d, z, ne, k _ _ (.inl rfl) e, mA, ⟨od, es, ep, k _ _ (.inr d) e2, c⟩, r⟩
 | own y => obtain ⟨ob, e⟩ := x; exact ⟨ob, k _ _ (.inl rfl) e⟩
 | xd fs => obtain ⟨mA, ⟨od, es, ep, e, c⟩, r⟩ := x; exact ⟨mA, ⟨od, es, ep, k _ _ (.inl rfl) e, c⟩, r⟩
 | rng lo hi => obtain ⟨t, u, v, e⟩ := x; exact ⟨t, u, v, k _ _ (.inl rfl) e⟩
 | frz ob u ih => obtain ⟨e, q⟩ := x; exact ⟨k _ _ (.inl rfl) e, ih q⟩
 | tbl ps =>
  have e : h.get? a = some { cls := .none, data := .fields ps } := x
  show h'.get? a = some { cls := .none, data := .fields ps }
  exact k a _ (.inl rfl) e
 | met f y =>
  have e : h.get? a = some (PySem.W.methodObj (.ref f) (.ref y)) := x
  show h'.get? a = some (PySem.W.methodObj (.ref f) (.ref y))
  exact k a _ (.inl rfl) e
 | ext φ => obtain ⟨p, ⟨o, e⟩, st⟩ := x; exact ⟨st _ _ p fun o q => k _ _ (.inl rfl) q, ⟨o, k _ _ (.inl rfl) e⟩, st⟩
theorem HOk.lt (x : HOk P w H h) (e : H a = some o) : a < h.objs.size := (x a o e).lt
theorem HOk.fresh (x : HOk P w H h) (e : h.objs.size ≤ a) : H a = none := by
 cases q : H a with
 | none => rfl
 | some u => exact absurd (Nat.lt_of_lt_of_le (x.lt q) e) (Nat.lt_irrefl _)
theorem HOk.kept (x : HOk P w H h) (k : ∀ b u, h.get? b = some u → h'.get? b = some u) : HOk P w H h' := fun a o e =>
 (x a o e).stay (fun b u _ q => k b u q) (fun _ q => q) fun _ _ q => q
theorem HOk.laid (x : HOk P w H h) (k : ∀ b u, h.get? b = some u → h'.get? b = some u) (hp : h.objs.size ≤ a) (new : ObjOk P w (upd H a o) h' a o) : HOk P w (upd H a o) h' := fun b u e => by
 have hn := x.fresh hp
 by_cases hb : b = a
 ·subst hb; rw [j0b] at e; cases e; exact new
 ·rw [j0c hb] at e
  exact (x b u e).stay (fun c v _ q => k c v q) (fun c q => by rw [j0c (j0d q hn)]; exact q) fun c xs q => by rw [j0c (j0d q hn)]; exact q
end
def Rd (H : Hp) (a : Addr) (u : HO) : Prop := H a = some u ∨ ∃ o, H a = some (.frz o u)
theorem Rd.ok {P : Program} {w : World} {H : Hp} {h : Heap} {a : Addr} {u : HO} (r : Rd H a u) (x : HOk P w H h) : ObjOk P w H h a u := by
 rcases r with r | ⟨o, r⟩
 ·exact x a u r
 ·obtain ⟨_, q⟩ := x a _ r
  exact q
def Mut : Option HO → Prop
 | some (.lst _) => True
 | some (.dK _) => True
 | some (.dT _) => True
 | some (.set _ _) => True
 | some (.ins _ _ _) => True
 | some (.ext _) => True
 | _ => False
section
variable {P : Program} {w : World} {H : Hp} {h h' : Heap} {x e : Addr} {o' : HO}
theorem HOk.write (ok : HOk P w H h) (mu : Mut (H x)) (he : e = x ∨ H e = some (.own x)) (k : ∀ b u, b ≠ e → h.get? b = some u → h'.get? b = some u) (heo : ∃ u, h'.get? e = some u)
  (new : ObjOk P w (upd H x o') h' x o') : HOk P w (upd H x o') h' := fun b u q => by
 have nown : ∀ c y, H c = some (.own y) → c ≠ x := fun c y r z => by subst z; rw [r] at mu; exact mu
 have ntup : ∀ c xs, H c = some (.tup xs) → c ≠ x := fun c xs r z => by subst z; rw [r] at mu; exact mu
 by_cases hb : b = x
 ·subst hb; rw [j0b] at q; cases q; exact new
 ·rw [j0c hb] at q
  by_cases hbe : b = e
  ·have q' : H b = some (.own x) := by
    rcases he with z | z
    ·exact absurd (hbe.trans z) hb
    ·rw [hbe]; exact z
   rw [q] at q'; cases q'
   obtain ⟨v, hv⟩ := heo
   exact ⟨v, by rw [hbe]; exact hv⟩
  ·refine (ok b u q).stay (fun c v hc r => k c v ?_ r) (fun c r => by rw [j0c (nown c b r)]; exact r) fun c xs r => by rw [j0c (ntup c xs r)]; exact r
   rcases hc with rfl | hc
   ·exact hbe
   ·rintro rfl
    rcases he with z | z
    ·exact nown c b hc z
    ·rw [hc] at z; cases z; exact hb rfl
end
structure Un (fs ex : List Addr) (H H' : Hp) (h h' : Heap) : Prop where
 keep : ∀ b o, h.get? b = some o → H b = none → b ∉ fs → b ∉ ex → h'.get? b = some o
 slot : ∀ b o, h.get? b = some o → H b = none → b ∈ fs → b ∉ ex → ∃ sl, h'.get? b = some { o with slots := sl }
 free : ∀ b o, h.get? b = some o → H b = none → b ∉ ex → H' b = none
 there : ∀ b o, h.get? b = some o → b ∉ ex → ∃ o', h'.get? b = some o'
 tups : ∀ b xs, H b = some (.tup xs) → H' b = some (.tup xs)
 frzs : ∀ b o u, H b = some (.frz o u) → H' b = some (.frz o u)
 tbls : ∀ b ps, H b = some (.tbl ps) → ∃ more, H' b = some (.tbl (ps ++ more))
section
variable {fs fs' ex ex' : List Addr} {H H1 H2 : Hp} {h h1 h2 h' : Heap} {a x e : Addr} {o : HO}
theorem Un.any (u : Un fs ex H H1 h h1) {b : Addr} {ob : Obj} (q : h.get? b = some ob) (n : H b = none) (hx : b ∉ ex) : ∃ sl, h1.get? b = some { ob with slots := sl } := by
 by_cases hb : b ∈ fs
 ·exact u.slot b ob q n hb hx
 ·exact ⟨ob.slots, u.keep b ob q n hb hx⟩
theorem Un.kept (k : ∀ b u, h.get? b = some u → h'.get? b = some u) : Un fs ex H H h h' :=
 ⟨fun b ob q _ _ _ => k b ob q, fun b ob q _ _ _ => ⟨ob.slots, k b ob q⟩, fun _ _ _ n _ => n, fun b ob q _ => ⟨ob, k b ob q⟩, fun _ _ q => q, fun _ _ _ q => q, fun _ ps q => ⟨#[], by rw [q]; simp⟩⟩
theorem Un.refl : Un fs ex H H h h := Un.kept fun _ _ q => q
theorem Un.laid (k : ∀ b u, h.get? b = some u → h'.get? b = some u) (hp : h.objs.size ≤ a) (hn : H a = none) : Un fs ex H (upd H a o) h h' where
 keep := fun b u q _ _ _ => k b u q
 slot := fun b u q _ _ _ => ⟨u.slots, k b u q⟩
 free := fun b u q n _ => by rw [j0c (Nat.ne_of_lt (Nat.lt_of_lt_of_le (Heap.lt_size q) hp))]; exact n
 there := fun b u q _ => ⟨u, k b u q⟩
 tups := fun b xs q => by rw [j0c (j0d q hn)]; exact q
 frzs := fun b u xs q => by rw [j0c (j0d q hn)]; exact q
 tbls := fun b ps q => ⟨#[], by rw [j0c (j0d q hn), q]; simp⟩
theorem Un.write (mu : Mut (H x)) (he : e = x ∨ H e = some (.own x)) (k : ∀ b u, b ≠ e → h.get? b = some u → h'.get? b = some u) (heo : ∃ u, h'.get? e = some u) : Un fs ex H (upd H x o) h h' := by
 have hx : ∀ b, H b = none → b ≠ x := fun b n z => by subst z; rw [n] at mu; exact mu
 have hb : ∀ b, H b = none → b ≠ e := fun b n z => by
  subst z
  rcases he with r | r
  ·exact hx b n r
  ·rw [n] at r; cases r
 have hm : ∀ b u, H b = some u → ¬ Mut (some u) → b ≠ x := fun b u q nm z => by subst z; rw [q] at mu; exact nm mu
 refine ⟨fun b u q n _ _ => k b u (hb b n) q, fun b u q n _ _ => ⟨u.slots, k b u (hb b n) q⟩, fun b u q n _ => by rw [j0c (hx b n)]; exact n, fun b u q _ => ?_,
  fun b xs q => by rw [j0c (hm b _ q fun z => z)]; exact q, fun b u xs q => by rw [j0c (hm b _ q fun z => z)]; exact q, fun b ps q => ⟨#[], by rw [j0c (hm b _ q fun z => z), q]; simp⟩⟩
 by_cases hbe : b = e
 ·subst hbe; exact heo
 ·exact ⟨u, k b u hbe q⟩
end
def trk (h : Heap) (H : Hp) : List Addr := (List.range h.objs.size).filter fun a => (H a).isSome
def hidT (h : Heap) (H : Hp) : Heap := PySem.W.hideAll h (trk h H)
theorem k3h (h : Heap) (H : Hp) : (hidT h H).objs.size = h.objs.size := PySem.W.hideAll_size _ _
theorem k42 {h : Heap} {H : Hp} {b : Addr} {o : Obj} (e : h.get? b = some o) (n : H b = none) : (hidT h H).get? b = some o :=
 PySem.W.hideAll_get _ e fun hm => by
  have q : (H b).isSome = true := (List.mem_filter.mp hm).2
  rw [n] at q; simp at q
theorem k8x {h : Heap} {H : Hp} {b : Addr} {o : Obj} (e : (hidT h H).get? b = some o) : h.get? b = some o ∧ H b = none := by
 have e' : h.get? b = some o := PySem.W.of_hideAll (trk h H) e
 refine ⟨e', ?_⟩
 cases q : H b with
 | none => rfl
 | some x =>
  have hm : b ∈ trk h H := List.mem_filter.mpr ⟨List.mem_range.mpr (Heap.lt_size e'), by simp [q]⟩
  have z : (hidT h H).get? b = none := PySem.W.hideAll_none (trk h H) hm
  rw [z] at e; cases e
end L2
namespace L2
open PySem PySem.Spec PyProof.Rows
structure Mod (K : PySem.W.Frag) (mg : Str → Option Value) (base : Heap) : Prop where
 kin : K.In base
 glob : base.Ns mainGlobals mg
 blt : ∃ mb, base.Ns builtinsNs mb ∧ ∀ x : Str, x ≠ "__name__" → mb x = bootBuiltins x
 nolimit : base.NoLimit
structure Cx where
 prog : Program
 w : World
 K : PySem.W.Frag
 mg : Str → Option Value
 base : Heap
 A : Around
 N : List Str
 s₀ : Shared
 H₀ : Hp
 env : Env
 outer : List Env
 stack : List Env
 ex : List Addr
 fn : Str → Bool
 calm : Bool
 pn : List (Addr × Obj)
 xe : Value → Shared → Prop
def frs (l : List Env) : List Addr := l.filterMap (·.frame)
abbrev Cx.fs (X : Cx) : List Addr := frs X.outer
def Vis (sc : Scope) (x : Str) : Prop := sc.names.lookup x = some .local ∨ sc.names.lookup x = some .cell ∨ sc.names.lookup x = some .free
def Loc (sc : Scope) (x : Str) : Prop := sc.names.lookup x = some .local ∨ sc.names.lookup x = some .cell
def Look (env : Env) (h : Heap) (m : Str → Option Value) (x : Str) (u : Value) : Prop :=
 (env.kindOf x = some .local ∧ m x = some u) ∨ ((env.kindOf x = some .cell ∨ env.kindOf x = some .free) ∧ ∃ c, env.cells.lookup x = some c ∧ h.IsCell c (some u))
structure Cx.Ok (X : Cx) : Prop where
 mod : Mod X.K X.mg X.base
 kind : X.env.scope.kind = .function
 glob : X.env.globals = mainGlobals
 blt : X.env.builtins = builtinsNs
 above : X.s₀.heap.objs.size ≤ X.env.locals
 inj : ∀ x y c, X.env.cells.lookup x = some c → X.env.cells.lookup y = some c → x = y
 has : ∀ x, (X.env.kindOf x = some .cell ∨ X.env.kindOf x = some .free) → ∃ c, X.env.cells.lookup x = some c
 cab : ∀ x c, X.fn x = true → X.env.cells.lookup x = some c → X.s₀.heap.objs.size ≤ c
 hd : X.calm = true → X.A.handled = none
 frames : X.A.frames = some X.stack
 stk : X.stack = X.outer ∨ (X.stack = X.env :: X.outer ∧ X.env.frame = some X.env.locals)
 exf : ∀ b ∈ X.ex, b ≠ X.env.locals ∧ ∀ x c, X.env.cells.lookup x = some c → c ≠ b
 bs : ∀ b o, X.base.get? b = some o → X.s₀.heap.get? b = some o ∧ X.H₀ b = none
 bsz : X.base.objs.size ≤ X.s₀.heap.objs.size
 noex : ∀ b o, X.base.get? b = some o → b ∉ X.ex
 exfs : ∀ b ∈ X.ex, b ∉ X.fs
 funs : X.s₀.heap.FunFrames X.base X.outer
 frf : ∀ b ∈ X.fs, X.H₀ b = none
structure Inv (X : Cx) (pins : List (Addr × Obj)) (σ : List (Option V)) (H : Hp) (s : Shared) : Prop where
 ok : X.Ok
 os : s.os = X.s₀.os
 bare : AllBare s.gens
 base : Un X.fs X.ex X.H₀ H X.s₀.heap s.heap
 loc : ∃ m, s.heap.Ns X.env.locals m ∧ ∀ (i : Nat) (x : Str) (v : V), X.N[i]? = some x → σ[i]? = some (some v) → Vis X.env.scope x → ∃ u, RelV v u ∧ Look X.env s.heap m x u
 cell : ∀ x c, X.env.cells.lookup x = some c → ∃ v, s.heap.IsCell c v
 free : H X.env.locals = none
 freeC : ∀ x c, X.env.cells.lookup x = some c → H c = none
 pin : ∀ p ∈ X.pn ++ pins, s.heap.get? p.1 = some p.2 ∧ H p.1 = none ∧ p.1 ≠ X.env.locals ∧ p.1 ∉ X.fs ∧ ∀ v, p.2.data ≠ .cell v
 hok : HOk X.prog X.w H s.heap
 len : σ.length = X.N.length
section
variable {X : Cx} {pins : List (Addr × Obj)} {σ : List (Option V)} {H H' : Hp} {s : Shared} {h' : Heap}
theorem Cx.Ok.nofr (ok : X.Ok) {b : Addr} {o : Obj} (e : X.base.get? b = some o) : b ∉ X.fs := fun hb => by
 have := (ok.funs.mem hb).1
 rw [e] at this; cases this
theorem Inv.bs (I : Inv X pins σ H s) : ∀ b o, X.base.get? b = some o → s.heap.get? b = some o ∧ H b = none := fun b o e =>
 ⟨I.base.keep b o (I.ok.bs b o e).1 (I.ok.bs b o e).2 (I.ok.nofr e) (I.ok.noex b o e), I.base.free b o (I.ok.bs b o e).1 (I.ok.bs b o e).2 (I.ok.noex b o e)⟩
theorem Inv.bk (I : Inv X pins σ H s) : ∀ b o, X.base.get? b = some o → s.heap.get? b = some o := fun b o e => (I.bs b o e).1
theorem Inv.mod (I : Inv X pins σ H s) : Mod X.K X.mg X.base := I.ok.mod
theorem Inv.kIn (I : Inv X pins σ H s) : X.K.In s.heap := I.ok.mod.kin.keeps I.bk
theorem Inv.lt (I : Inv X pins σ H s) : X.env.locals < s.heap.objs.size := let ⟨_, hn, _⟩ := I.loc; hn.lt
theorem Inv.sz (I : Inv X pins σ H s) : X.s₀.heap.objs.size ≤ s.heap.objs.size := Nat.le_trans I.ok.above (Nat.le_of_lt I.lt)
theorem Inv.nofs (I : Inv X pins σ H s) {a : Addr} (h : s.heap.objs.size ≤ a) : a ∉ X.fs := fun hb => by
 obtain ⟨_, o, ho, _⟩ := I.ok.funs.mem hb
 exact absurd (Nat.lt_of_lt_of_le (Heap.lt_size ho) (Nat.le_trans I.sz h)) (Nat.lt_irrefl _)
theorem Inv.cne (I : Inv X pins σ H s) : ∀ x c, X.env.cells.lookup x = some c → c ≠ X.env.locals := fun x c e z => by
 obtain ⟨v, o, ho, hd⟩ := I.cell x c e
 obtain ⟨m, ⟨o', es, ep, ho', hd', _⟩, _⟩ := I.loc
 rw [z, ho'] at ho; cases ho; rw [hd'] at hd; cases hd
theorem Inv.funs (I : Inv X pins σ H s) : s.heap.FunFrames X.base X.outer := by
 have all : ∀ (l : List Env), (∀ b ∈ frs l, b ∈ X.fs) → X.s₀.heap.FunFrames X.base l → s.heap.FunFrames X.base l := by
  intro l
  induction l with
  | nil => intro _ _; trivial
  | cons env r ih =>
   intro hs hl
   obtain ⟨hk, ⟨L, o, hf, hn, ho, hd⟩, hr⟩ := hl
   have hL : L ∈ X.fs := hs L (by unfold frs; rw [List.filterMap_cons, hf]; exact List.mem_cons_self)
   obtain ⟨sl, e⟩ := I.base.slot L o ho (I.ok.frf L hL) hL fun z => I.ok.exfs L z hL
   exact ⟨hk, ⟨L, _, hf, hn, e, hd⟩, ih (fun b hb => hs b (by unfold frs; rw [List.filterMap_cons, hf]; exact List.mem_cons_of_mem _ hb)) hr⟩
 exact all X.outer (fun _ hb => hb) I.ok.funs
theorem Inv.stack (I : Inv X pins σ H s) : s.heap.FunFrames X.base X.stack := by
 rcases I.ok.stk with e | ⟨e, hf⟩
 ·rw [e]; exact I.funs
 ·rw [e]
  obtain ⟨m, hn, _⟩ := I.loc
  refine .cons (by rw [I.ok.kind]; decide) hf hn ?_ I.funs
  exact Heap.get?_none_of_le (Nat.le_trans I.ok.bsz I.ok.above)
theorem Inv.stkSub (I : Inv X pins σ H s) : ∀ b ∈ frs X.stack, b ∈ X.env.locals :: X.fs := fun b hb => by
 rcases I.ok.stk with e | ⟨e, hf⟩
 ·rw [e] at hb; exact List.mem_cons_of_mem _ hb
 ·rw [e] at hb
  unfold frs at hb
  rw [List.filterMap_cons, hf] at hb
  exact hb
theorem Inv.stkFree (I : Inv X pins σ H s) : ∀ b ∈ frs X.stack, H b = none := fun b hb => by
 rcases List.mem_cons.mp (I.stkSub b hb) with e | hb
 ·rw [e]; exact I.free
 ·obtain ⟨_, o, ho, _⟩ := I.ok.funs.mem hb
  exact I.base.free b o ho (I.ok.frf b hb) fun z => I.ok.exfs b z hb
theorem Inv.step {g' : Array GenState} {t' : Nat} {d' : Drawn} {ch : List Addr} (I : Inv X pins σ H s)
  (hch : ∀ b ∈ ch, (b ∈ X.ex ∨ X.s₀.heap.objs.size ≤ b) ∧ b ≠ X.env.locals ∧ (∀ x c, X.env.cells.lookup x = some c → c ≠ b) ∧ ∀ p ∈ X.pn ++ pins, p.1 ≠ b)
  (keep : ∀ b o, b ≠ X.env.locals → b ∉ X.fs → b ∉ ch → s.heap.get? b = some o → H b = none → h'.get? b = some o)
  (slot : ∀ b o, b ≠ X.env.locals → b ∈ X.fs → b ∉ ch → s.heap.get? b = some o → H b = none → ∃ sl, h'.get? b = some { o with slots := sl }) (free : ∀ b o, b ∉ ch → s.heap.get? b = some o → H b = none → H' b = none)
  (there : ∀ b o, b ∉ ch → s.heap.get? b = some o → ∃ o', h'.get? b = some o')
  (tups : ∀ b xs, H b = some (.tup xs) → H' b = some (.tup xs)) (frzs : ∀ b o u, H b = some (.frz o u) → H' b = some (.frz o u)) (tbls : ∀ b ps, H b = some (.tbl ps) → ∃ more, H' b = some (.tbl (ps ++ more)))
  (ns : ∀ m, s.heap.Ns X.env.locals m → h'.Ns X.env.locals m) (hok : HOk X.prog X.w H' h') (hg : AllBare g') :
  Inv X pins σ H' { s with heap := h', gens := g', drawn := d', toks := t' } := by
 have neL : ∀ b o, X.s₀.heap.get? b = some o → b ≠ X.env.locals := fun b o e => Nat.ne_of_lt (Nat.lt_of_lt_of_le (Heap.lt_size e) I.ok.above)
 have neC : ∀ b o, X.s₀.heap.get? b = some o → b ∉ X.ex → b ∉ ch := fun b o e hx hb => by
  rcases (hch b hb).1 with z | z
  ·exact hx z
  ·exact absurd (Nat.lt_of_lt_of_le (Heap.lt_size e) z) (Nat.lt_irrefl _)
 have cellK : ∀ x c, X.env.cells.lookup x = some c → ∀ v, s.heap.IsCell c v → h'.IsCell c v := fun x c e v ⟨o, ho, hd⟩ => by
  have nch : c ∉ ch := fun z => (hch c z).2.2.1 x c e rfl
  by_cases hc : c ∈ X.fs
  ·obtain ⟨sl, q⟩ := slot c o (I.cne x c e) hc nch ho (I.freeC x c e)
   exact ⟨_, q, hd⟩
  ·exact ⟨o, keep c o (I.cne x c e) hc nch ho (I.freeC x c e), hd⟩
 refine ⟨I.ok, I.os, hg, ⟨fun b o e n hb hx => ?_, fun b o e n hb hx => ?_, fun b o e n hx => ?_, fun b o e hx => ?_, fun b xs e => tups b xs (I.base.tups b xs e), fun b o xs e => frzs b o xs (I.base.frzs b o xs e), fun b ps e => ?_⟩, ?_, fun x c e => ?_, ?_, fun x c e => ?_, fun p hp => ?_, hok, I.len⟩
 ·exact keep b o (neL b o e) hb (neC b o e hx) (I.base.keep b o e n hb hx) (I.base.free b o e n hx)
 ·obtain ⟨sl, e1⟩ := I.base.slot b o e n hb hx
  obtain ⟨sl', e2⟩ := slot b _ (neL b o e) hb (neC b o e hx) e1 (I.base.free b o e n hx)
  exact ⟨sl', e2⟩
 ·obtain ⟨o', e1⟩ := I.base.there b o e hx
  exact free b o' (neC b o e hx) e1 (I.base.free b o e n hx)
 ·obtain ⟨o', e1⟩ := I.base.there b o e hx
  exact there b o' (neC b o e hx) e1
 ·obtain ⟨m1, e1⟩ := I.base.tbls b ps e
  obtain ⟨m2, e2⟩ := tbls b _ e1
  exact ⟨m1 ++ m2, by rw [e2, Array.append_assoc]⟩
 ·obtain ⟨m, hn, hl⟩ := I.loc
  refine ⟨m, ns m hn, fun i x v e1 e2 e3 => ?_⟩
  obtain ⟨u, r, l⟩ := hl i x v e1 e2 e3
  refine ⟨u, r, ?_⟩
  rcases l with l | ⟨k, c, e, z⟩
  ·exact .inl l
  ·exact .inr ⟨k, c, e, cellK x c e _ z⟩
 ·obtain ⟨v, z⟩ := I.cell x c e
  exact ⟨v, cellK x c e v z⟩
 ·obtain ⟨m, ⟨o, _, _, ho, _⟩, _⟩ := I.loc
  exact free _ o (fun z => (hch _ z).2.1 rfl) ho I.free
 ·obtain ⟨v, o, ho, hd⟩ := I.cell x c e
  exact free c o (fun z => (hch c z).2.2.1 x c e rfl) ho (I.freeC x c e)
 ·obtain ⟨e, n, ne, nf, d⟩ := I.pin p hp
  have nch : p.1 ∉ ch := fun z => (hch p.1 z).2.2.2 p hp rfl
  exact ⟨keep p.1 p.2 ne nf nch e n, free p.1 p.2 nch e n, ne, nf, d⟩
theorem Inv.un {t' : Nat} (I : Inv X pins σ H s) (u : Un X.fs [] H H' s.heap h') (hok : HOk X.prog X.w H' h') : Inv X pins σ H' { s with heap := h', toks := t' } := by
 obtain ⟨m, ⟨o, es, ep, ho, r⟩, _⟩ := id I.loc
 obtain ⟨sl, hL⟩ := u.any ho I.free (by simp)
 exact I.step (g' := s.gens) (d' := s.drawn) (ch := []) (fun _ z => nomatch z) (fun b o _ hb _ e n => u.keep b o e n hb (by simp)) (fun b o _ hb _ e n => u.slot b o e n hb (by simp)) (fun b o _ e n => u.free b o e n (by simp)) (fun b o _ e => u.there b o e (by simp)) u.tups u.frzs u.tbls (fun m' hm => by
  obtain ⟨o', es', ep', ho', r'⟩ := hm
  rw [ho] at ho'; cases ho'
  exact ⟨_, es', ep', hL, r'⟩) hok I.bare
theorem Inv.call {g' : Array GenState} {t' : Nat} {d' : Drawn} {ch : List Addr} (I : Inv X pins σ H s) (u : Un (frs X.stack) ch H H' s.heap h') (hok : HOk X.prog X.w H' h') (hg : AllBare g')
  (hch : ∀ b ∈ ch, (b ∈ X.ex ∨ X.s₀.heap.objs.size ≤ b) ∧ b ≠ X.env.locals ∧ (∀ x c, X.env.cells.lookup x = some c → c ≠ b) ∧ ∀ p ∈ X.pn ++ pins, p.1 ≠ b) :
  Inv X pins σ H' { s with heap := h', gens := g', drawn := d', toks := t' } := by
 obtain ⟨m, ⟨o, es, ep, ho, r⟩, _⟩ := id I.loc
 obtain ⟨sl, hL⟩ := u.any ho I.free fun z => (hch _ z).2.1 rfl
 exact I.step (ch := ch) hch (fun b o hL hb hc e n => u.keep b o e n (fun z => (List.mem_cons.mp (I.stkSub b z)).elim hL hb) hc) (fun b o _ _ hc e n => u.any e n hc) (fun b o hc e n => u.free b o e n hc) (fun b o hc e => u.there b o e hc) u.tups u.frzs u.tbls (fun m' hm => by
  obtain ⟨o', es', ep', ho', r'⟩ := hm
  rw [ho] at ho'; cases ho'
  exact ⟨_, es', ep', hL, r'⟩) hok hg
theorem Inv.turned {t' : Nat} {it : Addr} (I : Inv X pins σ H s) (k : ∀ b o, b ≠ it → s.heap.get? b = some o → h'.get? b = some o) (hn : H it = none) (hL : it ≠ X.env.locals)
  (h1 : it ∈ X.ex ∨ X.s₀.heap.objs.size ≤ it) (h2 : ∀ x c, X.env.cells.lookup x = some c → c ≠ it) (h3 : ∀ p ∈ X.pn ++ pins, p.1 ≠ it) : Inv X pins σ H { s with heap := h', toks := t' } := by
 have nit : ∀ b u, H b = some u → b ≠ it := fun b u e z => by rw [z, hn] at e; cases e
 refine I.step (g' := s.gens) (d' := s.drawn) (ch := [it]) (fun b hb => ?_) (fun b o _ _ hc e _ => k b o (fun z => hc (by simp [z])) e) (fun b o _ _ hc e _ => ⟨o.slots, k b o (fun z => hc (by simp [z])) e⟩) (fun _ _ _ _ n => n)
  (fun b o hc e => ⟨o, k b o (fun z => hc (by simp [z])) e⟩) (fun _ _ e => e) (fun _ _ _ e => e) (fun b ps e => ⟨#[], by rw [e]; simp⟩) (fun m hm => ?_) (fun b u e => ?_) I.bare
 ·have e : b = it := by simpa using hb
  subst e
  exact ⟨h1, hL, h2, h3⟩
 ·obtain ⟨o, es, ep, ho, r⟩ := hm
  exact ⟨o, es, ep, k _ o (Ne.symm hL) ho, r⟩
 ·refine (I.hok b u e).stay (fun c v hc q => k c v ?_ q) (fun _ q => q) fun _ _ q => q
  rcases hc with z | z
  ·rw [z]; exact nit b u e
  ·exact nit c _ z
theorem Inv.tok (I : Inv X pins σ H s) (t : Nat) : Inv X pins σ H { s with toks := t } := I.un (h' := s.heap) (t' := t) Un.refl I.hok
theorem Inv.kept {t' : Nat} (I : Inv X pins σ H s) (k : ∀ b u, s.heap.get? b = some u → h'.get? b = some u) : Inv X pins σ H { s with heap := h', toks := t' } := I.un (Un.kept k) (I.hok.kept k)
theorem Inv.laid {a : Addr} {o : HO} {t' : Nat} (I : Inv X pins σ H s) (k : ∀ b u, s.heap.get? b = some u → h'.get? b = some u) (hp : s.heap.objs.size ≤ a) (new : ObjOk X.prog X.w (upd H a o) h' a o) :
  Inv X pins σ (upd H a o) { s with heap := h', toks := t' } := I.un (Un.laid k hp (I.hok.fresh hp)) (I.hok.laid k hp new)
theorem Inv.write {x e : Addr} {o : HO} {t' : Nat} (I : Inv X pins σ H s) (mu : Mut (H x)) (he : e = x ∨ H e = some (.own x)) (k : ∀ b u, b ≠ e → s.heap.get? b = some u → h'.get? b = some u) (heo : ∃ u, h'.get? e = some u)
  (new : ObjOk X.prog X.w (upd H x o) h' x o) : Inv X pins σ (upd H x o) { s with heap := h', toks := t' } := I.un (Un.write mu he k heo) (I.hok.write mu he k heo new)
theorem Inv.pins_of {pins' : List (Addr × Obj)} (I : Inv X pins σ H s) (h : ∀ p ∈ pins', s.heap.get? p.1 = some p.2 ∧ H p.1 = none ∧ p.1 ≠ X.env.locals ∧ p.1 ∉ X.fs ∧ ∀ v, p.2.data ≠ .cell v) : Inv X pins' σ H s :=
 ⟨I.ok, I.os, I.bare, I.base, I.loc, I.cell, I.free, I.freeC, fun p hp => (List.mem_append.mp hp).elim (fun z => I.pin p (List.mem_append_left _ z)) (h p), I.hok, I.len⟩
theorem j9r {N : List Str} (hN : N.Nodup) {i j : Nat} {x : Str} (a : N[i]? = some x) (b : N[j]? = some x) : i = j := by
 obtain ⟨h1, e1⟩ := List.getElem?_eq_some_iff.mp a
 obtain ⟨h2, e2⟩ := List.getElem?_eq_some_iff.mp b
 exact (List.getElem_inj hN).mp (e1.trans e2.symm)
theorem j7l {M : Model} {A : Around} {E : Value → Shared → Prop} {i : Nat} {x : Str} {v : V} {u : Value} {Q : Unit → Shared → Prop} (I : Inv X pins σ H s) (hN : X.N.Nodup) (hi : X.N[i]? = some x) (hx : Loc X.env.scope x) (r : RelV v u)
  (h : ∀ s', Inv X pins (σ.set i (some v)) H s' → (∃ a, Heap.SameBut a s.heap s'.heap ∧ (a = X.env.locals ∨ X.env.cells.lookup x = some a)) → Q () s') (hf : X.fn x = true ∨ X.env.scope.names.lookup x = some .local := by first | exact .inl rfl | exact .inr rfl | assumption) : wpAny M A (storeName X.env x u) Q E s := by
 obtain ⟨m, hn, hl⟩ := id I.loc
 have hcls : (X.env.scope.kind == .class || (X.env.scope.kind == .module && X.env.locals != X.env.globals)) = false := by rw [I.ok.kind]; rfl
 have hiσ : i < σ.length := by rw [I.len]; exact (List.getElem?_eq_some_iff.mp hi).1
 have cne := I.cne
 have tracked : ∀ {a : Addr} {h' : Heap}, (∃ o, s.heap.get? a = some o ∧ H a = none) → Heap.SameBut a s.heap h' → HOk X.prog X.w H h' := fun {a h'} ha hs b ob e => by
  obtain ⟨_, _, hfree⟩ := ha
  refine (I.hok b ob e).stay (fun c w' hc q => (hs.2 c ?_).trans q) (fun _ q => q) fun _ _ q => q
  rintro rfl
  rcases hc with rfl | hc
  ·rw [hfree] at e; cases e
  ·rw [hfree] at hc; cases hc
 rcases hx with hk | hk
 ·refine wpAny_storeName_local hk hn (fun h' hn' hs => ?_) hcls
  obtain ⟨oL, _, _, hoL, _⟩ := id hn
  refine h _ ⟨I.ok, I.os, I.bare, ⟨fun b o e n hb hx => ?_, fun b o e n hb hx => ?_, I.base.free, fun b o e hx => ?_, I.base.tups, I.base.frzs, I.base.tbls⟩, ⟨_, hn', fun j y v' e1 e2 e3 => ?_⟩, fun y c e => ?_, I.free, I.freeC, fun p hp => ?_, tracked ⟨oL, hoL, I.free⟩ hs, by simpa using I.len⟩ ⟨_, hs, .inl rfl⟩
  ·exact (hs.2 b (Nat.ne_of_lt (Nat.lt_of_lt_of_le (Heap.lt_size e) I.ok.above))).trans (I.base.keep b o e n hb hx)
  ·obtain ⟨sl, e1⟩ := I.base.slot b o e n hb hx
   exact ⟨sl, (hs.2 b (Nat.ne_of_lt (Nat.lt_of_lt_of_le (Heap.lt_size e) I.ok.above))).trans e1⟩
  ·obtain ⟨o', e1⟩ := I.base.there b o e hx
   exact ⟨o', (hs.2 b (Nat.ne_of_lt (Nat.lt_of_lt_of_le (Heap.lt_size e) I.ok.above))).trans e1⟩
  ·by_cases hj : j = i
   ·subst hj
    rw [hi] at e1; cases e1
    rw [List.getElem?_set_self hiσ] at e2
    cases e2
    exact ⟨u, r, .inl ⟨hk, by simp⟩⟩
   ·rw [List.getElem?_set_ne (Ne.symm hj)] at e2
    obtain ⟨u', r', q⟩ := hl j y v' e1 e2 e3
    refine ⟨u', r', ?_⟩
    rcases q with ⟨k, e⟩ | ⟨k, c, e, z⟩
    ·refine .inl ⟨k, ?_⟩
     have : y ≠ x := fun e => hj (j9r hN e1 (e ▸ hi))
     simp [this, e]
    ·exact .inr ⟨k, c, e, z.sameBut hs (cne y c e)⟩
  ·obtain ⟨w', z⟩ := I.cell y c e
   exact ⟨w', z.sameBut hs (cne y c e)⟩
  ·obtain ⟨e, n, ne, nf, d⟩ := I.pin p hp
   exact ⟨(hs.2 p.1 ne).trans e, n, ne, nf, d⟩
 ·have hfn : X.fn x = true := by
   rcases hf with z | z
   ·exact z
   ·rw [z] at hk; cases hk
  obtain ⟨c, hc⟩ := I.ok.has x (.inl hk)
  obtain ⟨w', z⟩ := I.cell x c hc
  refine wpAny_storeName_cell I.ok.kind hk hc z (fun h' hc' hs => ?_)
  obtain ⟨oc, hoc, hocd⟩ := id z
  refine h { s with heap := h' } ⟨I.ok, I.os, I.bare, ⟨fun b o e n hb hx => ?_, fun b o e n hb hx => ?_, I.base.free, fun b o e hx => ?_, I.base.tups, I.base.frzs, I.base.tbls⟩, ⟨m, hn.sameBut hs (Ne.symm (cne x c hc)), fun j y v' e1 e2 e3 => ?_⟩, fun y c' e => ?_, I.free, I.freeC, fun p hp => ?_, tracked ⟨oc, hoc, I.freeC x c hc⟩ hs, by simpa using I.len⟩ ⟨c, hs, .inr hc⟩
  ·exact (hs.2 b (Nat.ne_of_lt (Nat.lt_of_lt_of_le (Heap.lt_size e) (I.ok.cab x c hfn hc)))).trans (I.base.keep b o e n hb hx)
  ·obtain ⟨sl, e1⟩ := I.base.slot b o e n hb hx
   exact ⟨sl, (hs.2 b (Nat.ne_of_lt (Nat.lt_of_lt_of_le (Heap.lt_size e) (I.ok.cab x c hfn hc)))).trans e1⟩
  ·obtain ⟨o', e1⟩ := I.base.there b o e hx
   exact ⟨o', (hs.2 b (Nat.ne_of_lt (Nat.lt_of_lt_of_le (Heap.lt_size e) (I.ok.cab x c hfn hc)))).trans e1⟩
  ·by_cases hj : j = i
   ·subst hj
    rw [hi] at e1; cases e1
    rw [List.getElem?_set_self hiσ] at e2
    cases e2
    exact ⟨u, r, .inr ⟨.inl hk, c, hc, hc'⟩⟩
   ·rw [List.getElem?_set_ne (Ne.symm hj)] at e2
    obtain ⟨u', r', q⟩ := hl j y v' e1 e2 e3
    refine ⟨u', r', ?_⟩
    rcases q with q | ⟨k, c', e, z'⟩
    ·exact .inl q
    ·refine .inr ⟨k, c', e, z'.sameBut hs ?_⟩
     rintro rfl
     exact hj (j9r hN e1 (I.ok.inj _ _ _ e hc ▸ hi))
  ·by_cases hcc : c' = c
   ·subst hcc; exact ⟨_, hc'⟩
   ·obtain ⟨w2, z2⟩ := I.cell y c' e
    exact ⟨w2, z2.sameBut hs hcc⟩
  ·obtain ⟨e, n, ne, nf, d⟩ := I.pin p hp
   refine ⟨(hs.2 p.1 ?_).trans e, n, ne, nf, d⟩
   intro q
   rw [q, hoc] at e
   have q' : oc = p.2 := Option.some.inj e
   exact d w' (by rw [← q']; exact hocd)
theorem j40 {M : Model} {A : Around} {E : Value → Shared → Prop} {i : Nat} {x : Str} {v : V} {u : Value} {Q : Unit → Shared → Prop} (I : Inv X pins σ H s) (hN : X.N.Nodup) (hi : X.N[i]? = some x) (hx : Loc X.env.scope x) (r : RelV v u)
  (h : ∀ s', Inv X pins (σ.set i (some v)) H s' → Q () s') (hf : X.fn x = true ∨ X.env.scope.names.lookup x = some .local := by first | exact .inl rfl | exact .inr rfl | assumption) : wpAny M A (storeName X.env x u) Q E s :=
 j7l I hN hi hx r (fun s' I' _ => h s' I') hf
theorem Inv.call' {s' : Shared} {ch : List Addr} (I : Inv X pins σ H s) (ho : s'.os = s.os) (u : Un (frs X.stack) ch H H' s.heap s'.heap) (hok : HOk X.prog X.w H' s'.heap) (hg : AllBare s'.gens)
  (hch : ∀ b ∈ ch, (b ∈ X.ex ∨ X.s₀.heap.objs.size ≤ b) ∧ b ≠ X.env.locals ∧ (∀ x c, X.env.cells.lookup x = some c → c ≠ b) ∧ ∀ p ∈ X.pn ++ pins, p.1 ≠ b) : Inv X pins σ H' s' := by
 obtain ⟨h', g', d', t', o'⟩ := s'
 have e : o' = s.os := ho
 subst e
 exact I.call (g' := g') (t' := t') (d' := d') u hok hg hch
end
abbrev XK := Value → Option Addr → Hp → Prop
abbrev St := List (Option V)
abbrev VK := V → Hp → Prop
abbrev TE := St → Hp → VK → Prop
abbrev TT := St → Hp → (Bool → Hp → Prop) → Prop
abbrev TA := St → Hp → (List V → Hp → Prop) → Prop
structure Ends where
 nx : St → Hp → Prop
 rt : VK
 bk : St → Hp → Prop := fun _ _ => False
 ct : St → Hp → Prop := fun _ _ => False
abbrev TS := Ends → St → Hp → Prop
def EP (X : Cx) (pins : List (Addr × Obj)) (σ : St) (Q : VK) (u : Value) (s' : Shared) : Prop := ∃ v H', Inv X pins σ H' s' ∧ RelV v u ∧ Q v H'
def TP (X : Cx) (pins : List (Addr × Obj)) (σ : St) (Q : Bool → Hp → Prop) (b : Bool) (s' : Shared) : Prop := ∃ H', Inv X pins σ H' s' ∧ Q b H'
def AP (X : Cx) (pins : List (Addr × Obj)) (σ : St) (Q : List V → Hp → Prop) (us : List Value) (s' : Shared) : Prop := ∃ vs H', Inv X pins σ H' s' ∧ Vals vs us ∧ Q vs H'
def SP (X : Cx) (pins : List (Addr × Obj)) (D : Ends) (f : Flow) (s' : Shared) : Prop :=
 match f with
 | .next => ∃ σ' H', Inv X pins σ' H' s' ∧ D.nx σ' H'
 | .brk => ∃ σ' H', Inv X pins σ' H' s' ∧ D.bk σ' H'
 | .cont => ∃ σ' H', Inv X pins σ' H' s' ∧ D.ct σ' H'
 | .ret u => ∃ v σ' H', Inv X pins σ' H' s' ∧ RelV v u ∧ D.rt v H'
def PE (X : Cx) (e : Expr) (t : TE) : Prop :=
 ∀ (pins : List (Addr × Obj)) (s : Shared) (σ : St) (H : Hp) (Q : VK), Inv X pins σ H s → t σ H Q → wpAny (model X.prog X.w) X.A (eval e X.env) (EP X pins σ Q) X.xe s
def PT (X : Cx) (e : Expr) (t : TT) : Prop :=
 ∀ (pins : List (Addr × Obj)) (s : Shared) (σ : St) (H : Hp) (Q : Bool → Hp → Prop), Inv X pins σ H s → t σ H Q → wpAny (model X.prog X.w) X.A (isTrue e X.env (eval e X.env)) (TP X pins σ Q) X.xe s
def PW (X : Cx) (e : Expr) (t : TT) : Prop :=
 ∀ (whole : Sem Value) (pins : List (Addr × Obj)) (s : Shared) (σ : St) (H : Hp) (Q : Bool → Hp → Prop), Inv X pins σ H s → t σ H Q → wpAny (model X.prog X.w) X.A (isTrue e X.env whole) (TP X pins σ Q) X.xe s
def PA (X : Cx) (es : List Expr) (t : TA) : Prop :=
 ∀ (pos : Pos) (pins : List (Addr × Obj)) (s : Shared) (σ : St) (H : Hp) (Q : List V → Hp → Prop), Inv X pins σ H s → t σ H Q → wpAny (model X.prog X.w) X.A (spliced (backTo pos (starEach es X.env))) (AP X pins σ Q) X.xe s
def PS (X : Cx) (st : Stmt) (t : TS) : Prop :=
 ∀ (pins : List (Addr × Obj)) (s : Shared) (σ : St) (H : Hp) (D : Ends), Inv X pins σ H s → t D σ H → wpAny (model X.prog X.w) X.A (exec st X.env) (SP X pins D) X.xe s
def PSs (X : Cx) (st : List Stmt) (t : TS) : Prop :=
 ∀ (pins : List (Addr × Obj)) (s : Shared) (σ : St) (H : Hp) (D : Ends), Inv X pins σ H s → t D σ H → wpAny (model X.prog X.w) X.A (execs st X.env) (SP X pins D) X.xe s
theorem thn {α : Type} {t : Sem α} {Q Q' : α → Shared → Prop} {M : Model} {A : Around} {E : Value → Shared → Prop} {s : Shared} (h : wpAny M A t Q E s) (hQ : ∀ a s, Q a s → Q' a s) : wpAny M A t Q' E s := wpAny_mono h hQ fun _ _ x => x
end L2
namespace L2
open PySem PySem.Spec PyProof.Rows
section
variable {X : Cx}
theorem bin {a b : Expr} {ta tb : TE} (ha : PE X a ta) (hb : PE X b tb) {pins : List (Addr × Obj)} {s : Shared} {σ : St} {H : Hp} {R : V → V → Hp → Prop} (I : Inv X pins σ H s) (h : ta σ H fun x H1 => tb σ H1 fun y H2 => R x y H2)
  {α : Type} {Q : α → Shared → Prop} {f : Value → Value → Sem α}
  (hf : ∀ v u s2 x y H2, Inv X pins σ H2 s2 → RelV x v → RelV y u → R x y H2 → wpAny (model X.prog X.w) X.A (f v u) Q X.xe s2) :
  wpAny (model X.prog X.w) X.A (eval a X.env) (fun v s₁ => wpAny (model X.prog X.w) X.A (eval b X.env) (fun u s₂ => wpAny (model X.prog X.w) X.A (f v u) Q X.xe s₂) X.xe s₁) X.xe s := by
 refine thn (ha pins s σ H _ I h) fun v s1 ⟨x, H1, I1, r1, q1⟩ => ?_
 refine thn (hb pins s1 σ H1 _ I1 q1) fun u s2 ⟨y, H2, I2, r2, q2⟩ => ?_
 exact hf v u s2 x y H2 I2 r1 r2 q2
def tVar (i : Nat) : TE := fun σ H Q => ∃ v, σ[i]? = some (some v) ∧ Q v H
def tC (v : V) : TE := fun _ H Q => Q v H
theorem q0x {i : Nat} {x : Str} {pos : Pos} (hN : X.N[i]? = some x) (hv : Vis X.env.scope x) (hd : (x == ("__debug__" : Str)) = false := by decide) (hcd : (x == ("__classdict__" : Str)) = false := by decide) : PE X (.Name x pos) (tVar i) := by
 intro pins s σ H Q I h
 obtain ⟨v, e, h⟩ := h
 obtain ⟨m, hn, hl⟩ := I.loc
 obtain ⟨u, r, l⟩ := hl i x v hN e hv
 have fin : EP X pins σ Q u s := ⟨v, H, I, r, h⟩
 rcases l with ⟨hk, hm⟩ | ⟨hk, c, hc, hcell⟩
 ·exact wpAny_Name (wpAny_loadName_local I.ok.kind hk hn hm fin) hd
 ·rcases hk with hk | hk
  ·exact wpAny_Name (wpAny_loadName_cell I.ok.kind hk hc hcell fin) hd
  ·exact wpAny_Name (wpAny_loadName_free I.ok.kind hk hc hcell fin hcd) hd
theorem q0z {i j pos} : PE X (.Constant (.int i) j pos) (tC (.int i)) := fun _ _ _ H _ I h => wpAny_Constant_int ⟨.int i, H, I.tok _, ⟨_, rfl⟩, h⟩
theorem q2s {b j pos} : PE X (.Constant (.bool b) j pos) (tC (.bl b)) := fun _ _ _ H _ I h => Constant_bool ⟨.bl b, H, I, rfl, h⟩
theorem k97 {j pos} : PE X (.Constant .none j pos) (tC .non) := fun _ _ _ H _ I h => Constant_none ⟨.non, H, I, rfl, h⟩
theorem q1h {x j pos} : PE X (.Constant (.str x) j pos) (tC (.str x)) := fun _ _ _ H _ I h => Calls.Constant_str ⟨.str x, H, I.tok _, ⟨_, rfl⟩, h⟩
def Gl (X : Cx) (x : Str) : Prop := X.env.kindOf x = some .globalImplicit
theorem k67 {E : Value → Shared → Prop} {pins : List (Addr × Obj)} {s : Shared} {σ : St} {H : Hp} {x : Str} {u : Value} {pos : Pos} {Q : Value → Shared → Prop} (I : Inv X pins σ H s) (hg : Gl X x) (hm : X.mg x = some u) (h : Q u s)
  (hd : (x == ("__debug__" : Str)) = false := by decide) : wpAny (model X.prog X.w) X.A (eval (.Name x pos) X.env) Q E s :=
 Calls.Name_function_global I.ok.kind hg (Calls.loadGlobal_global (by rw [I.ok.glob]; exact I.mod.glob.keeps I.bk) hm h) hd
theorem j4p {E : Value → Shared → Prop} {pins : List (Addr × Obj)} {s : Shared} {σ : St} {H : Hp} {x : Str} {u : Value} {pos : Pos} {Q : Value → Shared → Prop} (I : Inv X pins σ H s) (hg : Gl X x) (hm : X.mg x = none) (hv : bootBuiltins x = some u) (h : Q u s)
  (hn : x ≠ "__name__" := by decide) (hd : (x == ("__debug__" : Str)) = false := by decide) : wpAny (model X.prog X.w) X.A (eval (.Name x pos) X.env) Q E s := by
 obtain ⟨mb, h1, h2⟩ := I.mod.blt
 exact Calls.Name_function_global I.ok.kind hg (Calls.loadGlobal_builtin (by rw [I.ok.glob]; exact I.mod.glob.keeps I.bk) hm (by rw [I.ok.blt]; exact h1.keeps I.bk) ((h2 x hn).trans hv) h) hd
theorem k65 {x : Str} {v : V} {u : Value} {pos : Pos} (hg : Gl X x) (hm : X.mg x = none) (hv : bootBuiltins x = some u) (r : RelV v u) (hn : x ≠ "__name__" := by decide) (hd : (x == ("__debug__" : Str)) = false := by decide) : PE X (.Name x pos) (tC v) :=
 fun _ _ _ H _ I h => j4p I hg hm hv ⟨v, H, I, r, h⟩ hn hd
variable {a b : Expr} {ta tb : TE} {pos : Pos}
def PC (X : Cx) (op : CmpOp) (a b : Expr) (t : TE) : Prop :=
 ∀ (pins : List (Addr × Obj)) (s : Shared) (σ : St) (H : Hp) (Q : VK), Inv X pins σ H s → t σ H Q →
  wpAny (model X.prog X.w) X.A (eval a X.env) (fun v s₁ => wpAny (model X.prog X.w) X.A (eval b X.env) (fun u s₂ => wpAny (model X.prog X.w) X.A (compareOp op v u) (EP X pins σ Q) X.xe s₂) X.xe s₁) X.xe s
def tB (t : TE) : TT := fun σ H Q => t σ H fun x H1 => ∃ c, x = .bl c ∧ Q c H1
theorem k6r {op : CmpOp} {t : TE} (h : PC X op a b t) (h1 : behindInMarks op b = false := by first | exact nobehind _ (by decide) (by decide) | rfl) : PT X (.Compare a [op] [b] pos) (tB t) := by
 intro pins s σ H Q I hw
 refine wpAny_isTrue_Compare1 (thn (h pins s σ H _ I hw) fun v s1 h1 => thn h1 fun u s2 h2 => thn h2 fun c s3 ⟨x, H1, I1, r1, q1⟩ => ?_) h1
 obtain ⟨d, rfl, q⟩ := q1
 cases r1
 exact wpAny_truthy_bool ⟨H1, I1, q⟩
theorem k9s {e : Expr} {t : TE} (h : PE X e t) (he : ∀ whole, isTrue e X.env whole = (do let v ← whole; standAt e.pos; holding [v] (truthy v)) := by intro _; rfl) : PT X e (tB t) := by
 intro pins s σ H Q I hw
 refine isTrue_plain (thn (h pins s σ H _ I hw) fun v s1 ⟨x, H1, I1, r1, q1⟩ => ?_) (he _)
 obtain ⟨d, rfl, q⟩ := q1
 cases r1
 exact wpAny_truthy_bool ⟨H1, I1, q⟩
variable {tA tB' : TT} {rest : List Expr}
def tAnd (t u : TT) : TT := fun σ H Q => t σ H fun c H1 => if c = true then u σ H1 Q else Q false H1
def tOr (t u : TT) : TT := fun σ H Q => t σ H fun c H1 => if c = true then Q true H1 else u σ H1 Q
def tNot (t : TT) : TT := fun σ H Q => t σ H fun c H1 => Q (!c) H1
theorem k6y (ha : PT X a tA) : PW X (.BoolOp .And [a] pos) tA := by
 intro wh pins s σ H Q I h
 refine isTrue_and (thn (ha pins s σ H Q I h) fun c s1 e => ?_)
 cases c with
 | true => exact isTrue_and_nil e
 | false => exact e
theorem q0s (ha : PT X a tA) : PW X (.BoolOp .Or [a] pos) tA := by
 intro wh pins s σ H Q I h
 refine isTrue_or (thn (ha pins s σ H Q I h) fun c s1 e => ?_)
 cases c with
 | false => exact isTrue_or_nil e
 | true => exact e
theorem k9t (ha : PT X a tA) (hb : PW X (.BoolOp .And (b :: rest) pos) tB') : PW X (.BoolOp .And (a :: b :: rest) pos) (tAnd tA tB') := by
 intro wh pins s σ H Q I h
 refine isTrue_and (thn (ha pins s σ H _ I h) fun c s1 ⟨H1, I1, q1⟩ => ?_)
 cases c with
 | true => exact hb wh pins s1 σ H1 Q I1 q1
 | false => exact ⟨H1, I1, q1⟩
theorem q2e (ha : PT X a tA) (hb : PW X (.BoolOp .Or (b :: rest) pos) tB') : PW X (.BoolOp .Or (a :: b :: rest) pos) (tOr tA tB') := by
 intro wh pins s σ H Q I h
 refine isTrue_or (thn (ha pins s σ H _ I h) fun c s1 ⟨H1, I1, q1⟩ => ?_)
 cases c with
 | true => exact ⟨H1, I1, q1⟩
 | false => exact hb wh pins s1 σ H1 Q I1 q1
theorem q0b (ha : PT X a tA) : PT X (.UnaryOp .Not a pos) (tNot tA) := by
 intro pins s σ H Q I h
 exact isTrue_not (ha pins s σ H (fun c H1 => Q (!c) H1) I h)
def q2l (ta tb : TE) : TE := fun σ H Q => ta σ H fun x H1 => ∃ c, x = .bl c ∧ if c = true then tb σ H1 Q else Q (.bl false) H1
theorem k9p {op} {t : TE} (h : PE X a t) : PE X (.BoolOp op [a] pos) t := fun pins s σ H Q I hw => BoolOp_one (h pins s σ H Q I hw)
theorem q0o (ha : PE X a ta) (hb : PE X (.BoolOp .And (b :: rest) pos) tb) : PE X (.BoolOp .And (a :: b :: rest) pos) (q2l ta tb) := by
 intro pins s σ H Q I h
 refine BoolOp_and (thn (ha pins s σ H _ I h) fun v s1 ⟨x, H1, I1, r1, q1⟩ => ?_)
 obtain ⟨c, rfl, q1⟩ := q1
 cases r1
 refine wpAny_truthy_bool ?_
 cases c with
 | true => exact hb pins s1 σ H1 Q I1 q1
 | false => exact ⟨.bl false, H1, I1, rfl, q1⟩
def tIf (t : TT) (ta tb : TE) : TE := fun σ H Q => t σ H fun c H1 => if c = true then ta σ H1 Q else tb σ H1 Q
theorem k56 {c : Expr} (hc : PT X c tA) (ha : PE X a ta) (hb : PE X b tb) : PE X (.IfExp c a b pos) (tIf tA ta tb) := by
 intro pins s σ H Q I h
 refine wpAny_IfExp (thn (hc pins s σ H _ I h) fun d s1 ⟨H1, I1, q1⟩ => ?_)
 cases d with
 | true => exact ha pins s1 σ H1 Q I1 q1
 | false => exact hb pins s1 σ H1 Q I1 q1
end
end L2
namespace L2
open PySem PySem.Spec PyProof.Rows
def SqL (K : PySem.W.Frag) (H : Hp) (a : Addr) (xs : List V) : Prop :=
 Rd H a (.lst xs) ∨
  ∃ (o : Obj) (its : Array Value) (n : Nat), K.lookup a = some o ∧ o.cls = .type "list" ∧ o.dict = none ∧ o.data = .seq its n ∧ its.size ≤ sizeLine ∧ Vals xs its.toList
def SqT (K : PySem.W.Frag) (H : Hp) (a : Addr) (xs : List V) : Prop :=
 Rd H a (.tup xs) ∨
  ∃ (o : Obj) (its : Array Value) (n : Nat), K.lookup a = some o ∧ o.cls = .type "tuple" ∧ o.data = .seq its n ∧ its.size ≤ sizeLine ∧ Vals xs its.toList
def absV : Value → Option V
 | .none => some .non
 | .bool b => some (.bl b)
 | .int i _ => some (.int i)
 | .str x _ => some (.str x)
 | .bytes b _ => some (.byt b)
 | .float b _ => some (.flt b)
 | .ref a => some (.ref a)
 | .type n => some (.ty n)
 | _ => none
theorem RelV.abs {x : V} {u : Value} (r : RelV x u) : absV u = some x := by
 cases x with
 | non => cases r; rfl
 | bl _ => cases r; rfl
 | int _ => obtain ⟨t, rfl⟩ := r; rfl
 | str _ => obtain ⟨t, rfl⟩ := r; rfl
 | byt _ => obtain ⟨t, rfl⟩ := r; rfl
 | flt _ => obtain ⟨t, rfl⟩ := r; rfl
 | ref _ => cases r; rfl
 | ty _ => cases r; rfl
theorem RelV.inj {x y : V} {u : Value} (r : RelV x u) (q : RelV y u) : x = y := Option.some.inj (r.abs.symm.trans q.abs)
theorem Vals.inj : ∀ {xs ys : List V} {us : List Value}, Vals xs us → Vals ys us → xs = ys
 | _, _, _, .nil, .nil => rfl
 | _, _, _, .cons r t, .cons r' t' => by rw [r.inj r', Vals.inj t t']
section
variable {X : Cx} {pins : List (Addr × Obj)} {σ : St} {H : Hp} {s : Shared} {a : Addr} {xs ys : List V}
theorem SqL.of {K : PySem.W.Frag} (h : H a = some (.lst xs)) : SqL K H a xs := .inl (.inl h)
theorem SqT.of {K : PySem.W.Frag} (h : H a = some (.tup xs)) : SqT K H a xs := .inl (.inl h)
theorem Inv.list (I : Inv X pins σ H s) (h : SqL X.K H a xs) : ∃ its : List Value, Vals xs its ∧ PlainL s.heap a its.toArray ∧ xs.length ≤ sizeLine := by
 rcases h with h | ⟨o, its, n, hk, hc, hd, hs, hz, r⟩
 ·obtain ⟨z, its, n, r, e⟩ := h.ok I.hok
  exact ⟨its, r, ⟨_, n, e, rfl, rfl, rfl⟩, z⟩
 ·refine ⟨its.toList, r, ⟨o, n, I.kIn a o hk, hc, hd, by simpa using hs⟩, ?_⟩
  have e := r.length
  simp only [Array.length_toList] at e
  omega
theorem Inv.tuple (I : Inv X pins σ H s) (h : SqT X.K H a xs) : ∃ its : List Value, Vals xs its ∧ IsTup s.heap a its.toArray ∧ xs.length ≤ sizeLine := by
 rcases h with h | ⟨o, its, n, hk, hc, hs, hz, r⟩
 ·obtain ⟨z, its, r, p⟩ := h.ok I.hok
  exact ⟨its, r, p, z⟩
 ·refine ⟨its.toList, r, ⟨o, I.kIn a o hk, hc, n, by simpa using hs⟩, ?_⟩
  have e := r.length
  simp only [Array.length_toList] at e
  omega
theorem Inv.list_inj (I : Inv X pins σ H s) (h : SqL X.K H a xs) (h' : SqL X.K H a ys) : xs = ys := by
 obtain ⟨its, r, ⟨o, n, e, _, _, d⟩, _⟩ := I.list h
 obtain ⟨its', r', ⟨o', n', e', _, _, d'⟩, _⟩ := I.list h'
 rw [e] at e'; cases e'
 rw [d] at d'
 injection d' with d1 _
 have : its = its' := by simpa using congrArg Array.toList d1
 subst this
 exact r.inj r'
theorem Inv.tuple_inj (I : Inv X pins σ H s) (h : SqT X.K H a xs) (h' : SqT X.K H a ys) : xs = ys := by
 obtain ⟨its, r, ⟨o, e, _, n, d⟩, _⟩ := I.tuple h
 obtain ⟨its', r', ⟨o', e', _, n', d'⟩, _⟩ := I.tuple h'
 rw [e] at e'; cases e'
 rw [d] at d'
 injection d' with d1 _
 have : its = its' := by simpa using congrArg Array.toList d1
 subst this
 exact r.inj r'
end
abbrev Cx.wish (X : Cx) (E : Value → Shared → Prop) : Cx := { X with xe := E }
abbrev Cx.nox (X : Cx) : Cx := X.wish fun _ _ => False
theorem Cx.Ok.wish {X : Cx} (ok : X.Ok) (E : Value → Shared → Prop) : (X.wish E).Ok :=
 ⟨ok.mod, ok.kind, ok.glob, ok.blt, ok.above, ok.inj, ok.has, ok.cab, ok.hd, ok.frames, ok.stk, ok.exf, ok.bs, ok.bsz, ok.noex, ok.exfs, ok.funs, ok.frf⟩
theorem Cx.Ok.unwish {X : Cx} {E : Value → Shared → Prop} (ok : (X.wish E).Ok) : X.Ok :=
 ⟨ok.mod, ok.kind, ok.glob, ok.blt, ok.above, ok.inj, ok.has, ok.cab, ok.hd, ok.frames, ok.stk, ok.exf, ok.bs, ok.bsz, ok.noex, ok.exfs, ok.funs, ok.frf⟩
section
variable {X : Cx} {pins : List (Addr × Obj)} {σ : St} {H : Hp} {s : Shared} {E : Value → Shared → Prop}
theorem Inv.wish (I : Inv X pins σ H s) (E : Value → Shared → Prop) : Inv (X.wish E) pins σ H s := ⟨I.ok.wish E, I.os, I.bare, I.base, I.loc, I.cell, I.free, I.freeC, I.pin, I.hok, I.len⟩
theorem Inv.unwish (I : Inv (X.wish E) pins σ H s) : Inv X pins σ H s := ⟨I.ok.unwish, I.os, I.bare, I.base, I.loc, I.cell, I.free, I.freeC, I.pin, I.hok, I.len⟩
theorem SP.unwish {D : Ends} {f : Flow} {s' : Shared} (h : SP (X.wish E) pins D f s') : SP X pins D f s' := by
 cases f with
 | next => obtain ⟨σ', H', I, q⟩ := h; exact ⟨σ', H', I.unwish, q⟩
 | brk => obtain ⟨σ', H', I, q⟩ := h; exact ⟨σ', H', I.unwish, q⟩
 | cont => obtain ⟨σ', H', I, q⟩ := h; exact ⟨σ', H', I.unwish, q⟩
 | ret u => obtain ⟨v, σ', H', I, r, q⟩ := h; exact ⟨v, σ', H', I.unwish, r, q⟩
theorem PSs.nox {st : List Stmt} {t : TS} (h : PSs X.nox st t) : PSs X st t := fun pins s σ H D I hw =>
 wpAny_mono (h pins s σ H D (I.wish _) hw) (fun _ _ q => q.unwish) fun _ _ z => False.elim z
end
section
variable {X : Cx} {st : Stmt} {rest : List Stmt} {t u : TS} {e : Expr} {te : TE} {pos : Pos}
def q13 : TS := fun D σ H => D.nx σ H
def tSeq (t u : TS) : TS := fun D σ H => t { D with nx := u D } σ H
theorem k74 : PSs X [] q13 := fun _ _ σ H _ I h => wpAny_execs_nil ⟨σ, H, I, h⟩
theorem k4s (h1 : PS X st t) (h2 : PSs X rest u) : PSs X (st :: rest) (tSeq t u) := by
 intro pins s σ H D I h
 refine wpAny_execs_cons (thn (h1 pins s σ H { D with nx := u D } I h) fun f s1 q => ?_)
 cases f with
 | next =>
  obtain ⟨σ', H', I', q⟩ := q
  exact h2 pins s1 σ' H' D I' q
 | ret v => exact q
 | brk => exact q
 | cont => exact q
theorem Inv.quiet {pins : List (Addr × Obj)} {σ : St} {H : Hp} {s : Shared} (I : Inv X pins σ H s) : interactive X.env = false := by simp [interactive, I.ok.kind]
def q18 (te : TE) : TS := fun D σ H => te σ H fun _ H1 => D.nx σ H1
theorem k9a (he : PE X e te) (hs : swapsWith e none pos.line X.env = pure false := by rfl) : PS X (.Expr e pos) (q18 te) := by
 intro pins s σ H D I h
 exact wpAny_Expr_any (thn (he pins s σ H _ I h) fun v s1 ⟨x, H1, I1, r1, q1⟩ => ⟨σ, H1, I1, q1⟩) I.quiet hs
def tRet (te : TE) : TS := fun D σ H => te σ H D.rt
theorem q04 (he : PE X e te) : PS X (.Return (some e) pos) (tRet te) := by
 intro pins s σ H D I h
 exact wpAny_Return_some (thn (he pins s σ H _ I h) fun v s1 ⟨x, H1, I1, r1, q1⟩ => ⟨x, σ, H1, I1, r1, q1⟩)
def tIfS (c : TT) (t u : TS) : TS := fun D σ H => c σ H fun b H1 => if b = true then t D σ H1 else u D σ H1
theorem q2j {c : Expr} {a b : List Stmt} {tc : TT} (hc : PT X c tc) (ha : PSs X a t) (hb : PSs X b u) : PS X (.If c a b pos) (tIfS tc t u) := by
 intro pins s σ H D I h
 refine wpAny_If (thn (hc pins s σ H _ I h) fun d s1 ⟨H1, I1, q1⟩ => ?_)
 cases d with
 | true => exact ha pins s1 σ H1 D I1 q1
 | false => exact hb pins s1 σ H1 D I1 q1
end
abbrev TG := V → St → Hp → (St → Hp → Prop) → Prop
abbrev TGs := List V → St → Hp → (St → Hp → Prop) → Prop
def PG (X : Cx) (target : Expr) (t : TG) : Prop :=
 ∀ (pins : List (Addr × Obj)) (s : Shared) (σ : St) (H : Hp) (v : V) (u : Value) (Q : St → Hp → Prop), Inv X pins σ H s → RelV v u → t v σ H Q →
  wpAny (model X.prog X.w) X.A (assign target X.env u) (fun _ s' => ∃ σ' H', Inv X pins σ' H' s' ∧ Q σ' H') X.xe s
def PGs (X : Cx) (ts : List Expr) (t : TGs) : Prop :=
 ∀ (pins : List (Addr × Obj)) (s : Shared) (σ : St) (H : Hp) (vs : List V) (us : List Value) (Q : St → Hp → Prop), Inv X pins σ H s → Vals vs us → t vs σ H Q →
  wpAny (model X.prog X.w) X.A (assignInOrder ((assignEach ts X.env).map (·.2)) us) (fun _ s' => ∃ σ' H', Inv X pins σ' H' s' ∧ Q σ' H') X.xe s
section
variable {X : Cx} {pos : Pos}
def k4b (i : Nat) : TG := fun v σ H Q => Q (σ.set i (some v)) H
theorem k7g {i : Nat} {x : Str} (hN : X.N.Nodup) (hi : X.N[i]? = some x) (hx : Loc X.env.scope x) (hf : X.fn x = true ∨ X.env.scope.names.lookup x = some .local := by first | exact .inl rfl | exact .inr rfl | assumption) : PG X (.Name x pos) (k4b i) := by
 intro pins s σ H v u Q I r h
 exact wpAny_assign_Name (j40 I hN hi hx r (fun s' I' => ⟨_, H, I', h⟩) hf)
def gNil : TGs := fun vs σ H Q => vs = [] ∧ Q σ H
def k0i (t : TG) (u : TGs) : TGs := fun vs σ H Q => ∃ v r, vs = v :: r ∧ t v σ H fun σ' H' => u r σ' H' Q
theorem k1z : PGs X [] gNil := by
 intro pins s σ H vs us Q I r h
 obtain ⟨e, h⟩ := h
 subst e
 cases r
 exact assignInOrder_nil ⟨σ, H, I, h⟩
theorem j33 {e : Expr} {es : List Expr} {t : TG} {u : TGs} (h1 : PG X e t) (h2 : PGs X es u)
  (hs : (assignEach (e :: es) X.env).map (·.2) = assign e X.env :: (assignEach es X.env).map (·.2) := by rfl) : PGs X (e :: es) (k0i t u) := by
 intro pins s σ H vs us Q I r h
 obtain ⟨v, vr, e1, h⟩ := h
 subst e1
 cases r with
 | cons r rr =>
  rw [hs]
  refine assignInOrder_cons (thn (h1 pins s σ H _ _ _ I r h) fun _ s1 ⟨σ1, H1, I1, q1⟩ => ?_)
  exact h2 pins s1 σ1 H1 _ _ Q I1 rr q1
def gTup (K : PySem.W.Frag) (n : Nat) (t : TGs) : TG := fun v σ H Q => ∃ a xs, v = .ref a ∧ SqT K H a xs ∧ xs.length = n ∧ t xs σ H Q
theorem k6a {es : List Expr} {k : Nat} {t : TGs} {n : Nat} (hc : X.calm = true) (h : PGs X es t)
  (hn : (assignEach es X.env).length = n := by rfl) (hst : (assignEach es X.env).findIdx? (·.1) = none := by rfl) : PG X (.Tuple es k pos) (gTup X.K n t) := by
 intro pins s σ H v u Q I r hw
 obtain ⟨a, xs, e1, hq, hl, hw⟩ := hw
 subst e1
 cases r
 obtain ⟨its, rv, ht, hz⟩ := I.tuple hq
 refine assign_Tuple_tuple (I.ok.hd hc) ht (by simp [hn, ← hl, rv.length]) hst fun h' hx => ?_
 have I1 : Inv X pins σ H { s with heap := h' } := I.kept (t' := s.toks) fun b o e => hx b o (Nat.ne_of_lt (Heap.lt_size e)) e
 exact h pins _ σ H xs _ Q I1 (by simpa using rv) hw
def tAsg (te : TE) (g : TG) : TS := fun D σ H => te σ H fun x H1 => g x σ H1 D.nx
theorem k9u {tg e : Expr} {te : TE} {g : TG} (he : PE X e te) (hg : PG X tg g) (hs : swapsWithSole [tg] e pos.line X.env = pure false := by rfl) (hw : swappedStores [tg] e X.env = pure none := by rfl)
  (h1 : (assignEach [tg] X.env).map (·.2) = [assign tg X.env] := by rfl) : PS X (.Assign [tg] e pos) (tAsg te g) := by
 intro pins s σ H D I h
 refine wpAny_Assign_stores (thn (he pins s σ H _ I h) fun v s1 ⟨x, H1, I1, r1, q1⟩ => ?_) hs hw
 rw [h1]
 exact thn (hg pins s1 σ H1 x v _ I1 r1 q1) fun _ s2 q => q
theorem q09 {i : Nat} {x : Str} {e : Expr} {te : TE} {pos' : Pos} (hN : X.N.Nodup) (hi : X.N[i]? = some x) (hx : Loc X.env.scope x) (he : PE X e te) (hs : swapsWith e (some (.Name x pos')) pos.line X.env = pure false := by rfl) (hf : X.fn x = true ∨ X.env.scope.names.lookup x = some .local := by first | exact .inl rfl | exact .inr rfl | assumption) :
  PS X (.Assign [.Name x pos'] e pos) (tAsg te (k4b i)) := by
 intro pins s σ H D I h
 refine wpAny_Assign_Name (thn (he pins s σ H _ I h) fun v s1 ⟨y, H1, I1, r1, q1⟩ => ?_) hs
 exact j40 I1 hN hi hx r1 (fun s2 I2 => ⟨_, H1, I2, q1⟩) hf
def tPar (i j : Nat) (ta : TA) : TS := fun D σ H => ta σ H fun vs H1 => ∃ v w, vs = [v, w] ∧ D.nx ((σ.set i (some v)).set j (some w)) H1
theorem q1s {i j : Nat} {x y : Str} {a b : Expr} {ta : TA} {px py pt : Pos} {kt k2 pt2} (hc : X.calm = true) (hN : X.N.Nodup) (hi : X.N[i]? = some x) (hj : X.N[j]? = some y) (hij : i ≠ j)
  (hx : X.env.scope.names.lookup x = some .local) (hy : X.env.scope.names.lookup y = some .local) (ha : PA X [a, b] ta)
  (hw : swappedStores [.Tuple [.Name x px, .Name y py] kt pt] (.Tuple [a, b] k2 pt2) X.env = pure (some [x, y]))
  (hs : swapsWithSole [.Tuple [.Name x px, .Name y py] kt pt] (.Tuple [a, b] k2 pt2) pos.line X.env = pure false := by rfl) :
  PS X (.Assign [.Tuple [.Name x px, .Name y py] kt pt] (.Tuple [a, b] k2 pt2) pos) (tPar i j ta) := by
 intro pins s σ H D I h
 rw [exec_Assign_arm]
 refine wpAny_bind (wpAny_standAt ?_)
 rw [hs]
 refine wpAny_bind (wpAny_pure ?_)
 rw [if_neg (by decide)]
 refine wpAny_bind (Tuple_ (thn (ha _ pins s σ H _ I h) fun us s1 ⟨vs, H1, I1, r1, q1⟩ => ?_))
 obtain ⟨v, w, e1, q1⟩ := q1
 subst e1
 obtain ⟨u1, u2, rfl, rv, rw'⟩ : ∃ u1 u2, us = [u1, u2] ∧ RelV v u1 ∧ RelV w u2 := by
  cases r1 with
  | cons p q =>
   cases q with
   | cons p' q' =>
    cases q'
    exact ⟨_, _, rfl, p, p'⟩
 refine wpAny_newObj_type ?_ (by show 2 ≤ sizeLine; decide)
 have I2 : Inv X pins σ H1 { s1 with heap := s1.heap.push { cls := .type "tuple", data := .seq [u1, u2].toArray } } := I1.kept (t' := s1.toks) fun b o e => Heap.get?_push_of_some _ e
 rw [hw]
 refine wpAny_bind (wpAny_pure ?_)
 show wpAny (model X.prog X.w) X.A (do rule "assign.swapped-stores"; let items ← unpackItems (.ref s1.heap.objs.size) 2 none; assignInOrder [fun v => bindName X.env y v, fun v => bindName X.env x v] items.reverse; pure Flow.next) _ _ _
 refine wpAny_bind (wpAny_rule (wpAny_bind (unpackItems_tuple (items := #[u1, u2]) (I.ok.hd hc) (IsTup.new s1.heap _) fun h' hx' => ?_)))
 have I3 := I2.kept (h' := h') (t' := s1.toks) fun b o e => hx' b o (Nat.ne_of_lt (Heap.lt_size e)) e
 show wpAny _ _ (assignInOrder [fun v => bindName X.env y v, fun v => bindName X.env x v] [u2, u1] >>= fun _ => pure Flow.next) _ _ _
 refine wpAny_bind (assignInOrder_cons (wpAny_bindName (j40 I3 hN hj (.inl hy) rw' (fun s2 I4 => ?_) (.inr hy))))
 refine assignInOrder_cons (wpAny_bindName (j40 I4 hN hi (.inl hx) rv (fun s3 I5 => assignInOrder_nil (wpAny_pure ?_)) (.inr hx)))
 rw [List.set_comm _ _ (Ne.symm hij)] at I5
 exact ⟨_, H1, I5, q1⟩
end
section
variable {X : Cx} {pos : Pos}
def q03 (c : TT) (tb : TS) : TS := fun D σ H => ∃ W : Nat → St → Hp → Prop, (∃ m, W m σ H) ∧ ∀ m σ H, W m σ H →
 c σ H fun b H1 => if b = true then ∃ N : St → Hp → Prop, (∀ σ' H', N σ' H' → ∃ m', m' < m ∧ W m' σ' H') ∧ tb { D with nx := N, ct := N, bk := D.nx } σ H1 else D.nx σ H1
theorem k4m {c : Expr} {body : List Stmt} {tc : TT} {tb : TS} (hp : PassesOwn (model X.prog X.w) X.A X.env X.xe) (hc : PT X c tc) (hb : PSs X body tb) : PS X (.While c body [] pos) (q03 tc tb) := by
 intro pins s σ H D I h
 obtain ⟨W, ⟨m0, w0⟩, turn⟩ := h
 refine wpAny_While (codeAny_whileLoop (fun n s' => ∃ σ' H', Inv X pins σ' H' s' ∧ W n σ' H') ?_ m0 ⟨σ, H, I, w0⟩)
 rintro n s1 ⟨σ1, H1, I1, w1⟩
 refine wpAny_passesOwn hp (thn (hc pins s1 σ1 H1 _ I1 (turn n σ1 H1 w1)) fun b s2 ⟨H2, I2, q2⟩ => ?_)
 cases b with
 | true =>
  obtain ⟨N, hN, q2⟩ := q2
  rw [if_pos rfl]
  refine wpAny_passesOwn hp (thn (hb pins s2 σ1 H2 _ I2 q2) fun f s3 q3 => ?_)
  cases f with
  | next =>
   obtain ⟨σ3, H3, I3, n3⟩ := q3
   obtain ⟨m', hm, w3⟩ := hN σ3 H3 n3
   exact ⟨m', hm, σ3, H3, I3, w3⟩
  | cont =>
   obtain ⟨σ3, H3, I3, n3⟩ := q3
   obtain ⟨m', hm, w3⟩ := hN σ3 H3 n3
   exact ⟨m', hm, σ3, H3, I3, w3⟩
  | brk => exact q3
  | ret v => exact q3
 | false =>
  rw [if_neg Bool.false_ne_true]
  exact wpAny_execs_nil ⟨σ1, H2, I2, q2⟩
end
structure It where
 go : Nat → Hp → Prop
 yld : Nat → Hp → V → Hp → Prop
 stop : Nat → Hp → Prop
def FpOk (X : Cx) (pins : List (Addr × Obj)) (H : Hp) (b : Addr) : Prop :=
 H b = none ∧ b ≠ X.env.locals ∧ b ∉ X.fs ∧ (b ∈ X.ex ∨ X.s₀.heap.objs.size ≤ b) ∧ (∀ x c, X.env.cells.lookup x = some c → c ≠ b) ∧ ∀ p ∈ X.pn ++ pins, p.1 ≠ b
theorem Inv.fpOk {X : Cx} {pins : List (Addr × Obj)} {σ : St} {H H' : Hp} {s : Shared} {b : Addr} (I : Inv X pins σ H s) (hb : s.heap.objs.size ≤ b) (hn : H' b = none) : FpOk X pins H' b := by
 refine ⟨hn, Nat.ne_of_gt (Nat.lt_of_lt_of_le I.lt hb), I.nofs hb, .inr (Nat.le_trans I.sz hb), fun x c e z => ?_, fun p hp z => ?_⟩
 ·obtain ⟨v, q⟩ := I.cell x c e
  exact absurd (Nat.lt_of_lt_of_le q.lt (by rw [z]; exact hb)) (Nat.lt_irrefl _)
 ·exact absurd (Nat.lt_of_lt_of_le (Heap.lt_size (I.pin p hp).1) (by rw [z]; exact hb)) (Nat.lt_irrefl _)
structure Turn (P : Program) (w : World) (K : PySem.W.Frag) (tg : Expr) (J : It) (fp : List Addr) (it : Addr) (tn : Nat → Heap → Prop) : Prop where
 mem : it ∈ fp
 obj : ∀ i h, tn i h → ∀ b ∈ fp, ∃ o, h.get? b = some o ∧ ∀ v, o.data ≠ .cell v
 keep : ∀ i h h', tn i h → (∀ b ∈ fp, ∀ o, h.get? b = some o → h'.get? b = some o) → tn i h'
 item : ∀ (X : Cx), X.prog = P → X.w = w → X.K = K → X.calm = true → ∀ (i : Nat) (pins : List (Addr × Obj)) (s : Shared) (σ : St) (H : Hp) (E : Value → Shared → Prop), Inv X pins σ H s → (∀ b ∈ fp, FpOk X pins H b) → tn i s.heap → J.go i H →
  wpAny (model P w) X.A (pyNext (.ref it)) (fun r s1 => ∃ u, r = some u ∧
   wpAny (model P w) X.A (letOwnedTupleGo tg (.ref it) u) (fun _ s2 => ∃ x H', Inv X pins σ H' s2 ∧ RelV x u ∧ J.yld i H x H' ∧ tn (i + 1) s2.heap ∧ ∀ b ∈ fp, H' b = none) E s1) E s
 done : ∀ (X : Cx), X.prog = P → X.w = w → X.K = K → X.calm = true → ∀ (i : Nat) (pins : List (Addr × Obj)) (s : Shared) (σ : St) (H : Hp) (E : Value → Shared → Prop), Inv X pins σ H s → (∀ b ∈ fp, FpOk X pins H b) → tn i s.heap → J.stop i H →
  wpAny (model P w) X.A (pyNext (.ref it)) (fun r s1 => r = none ∧ Inv X pins σ H s1) E s
 self : ∀ (A : Around) (i : Nat) (s : Shared) (Q : Value → Shared → Prop) (E : Value → Shared → Prop), tn i s.heap → Q (.ref it) s → wpAny (model P w) A (pyIter (.ref it)) Q E s
abbrev TI := St → Hp → (It → Hp → Prop) → Prop
def PIE (X : Cx) (pins : List (Addr × Obj)) (σ : St) (tg : Expr) (R : It → Hp → Prop) (itv : Value) (s2 : Shared) : Prop :=
 ∃ (it : Addr) (fp : List Addr) (tn : Nat → Heap → Prop) (J : It) (H' : Hp), itv = .ref it ∧ Inv X pins σ H' s2 ∧ Turn X.prog X.w X.K tg J fp it tn ∧ tn 0 s2.heap ∧ (∀ b ∈ fp, FpOk X pins H' b) ∧ R J H'
def PI (X : Cx) (tg iter : Expr) (wi : TI) : Prop :=
 ∀ (pins : List (Addr × Obj)) (s : Shared) (σ : St) (H : Hp) (R : It → Hp → Prop), Inv X pins σ H s → wi σ H R →
  wpAny (model X.prog X.w) X.A (eval iter X.env) (fun v s1 => wpAny (model X.prog X.w) X.A (pyIter v) (PIE X pins σ tg R) X.xe s1) X.xe s
theorem k4a {M : Model} {A : Around} {E : Value → Shared → Prop} {s : Shared} {tg : Expr} {it : Addr} {u : Value} {o : Obj} {n : String} {vs : Array Value} {Q : Unit → Shared → Prop} (ho : s.heap.get? it = some o) (hc : o.cls = .type n) (hd : o.data = .fields vs)
    (hn : ["enumerate", "zip", "dict_itemiterator", "dict_reverseitemiterator", "odict_iterator", "itertools.zip_longest", "itertools.pairwise"].contains n = false) (hQ : Q () s) : wpAny M A (letOwnedTupleGo tg (.ref it) u) Q E s := by
  unfold letOwnedTupleGo
  cases tg <;> first
    | exact wpAny_pure hQ
    | (cases u <;> first
        | exact wpAny_pure hQ
        | (refine wpAny_bind (wpAny_load ho ?_)
           rw [hc, hd]
           show wpAny M A (if (["enumerate", "zip", "dict_itemiterator", "dict_reverseitemiterator", "odict_iterator", "itertools.zip_longest", "itertools.pairwise"].contains n && vs[0]? == some (rawInt _)) = true then _ else _) Q E s
           rw [if_neg (by intro h; rw [hn, Bool.false_and] at h; cases h)]
           exact wpAny_pure hQ))
def Itl (K : PySem.W.Frag) (a : Addr) : It :=
 ⟨fun i H => ∃ xs x, SqL K H a xs ∧ xs[i]? = some x, fun i H x H' => H' = H ∧ ∀ xs, SqL K H a xs → xs[i]? = some x, fun i H => ∃ xs, SqL K H a xs ∧ xs.length ≤ i⟩
def Itt (K : PySem.W.Frag) (a : Addr) : It :=
 ⟨fun i H => ∃ xs x, SqT K H a xs ∧ xs[i]? = some x, fun i H x H' => H' = H ∧ ∀ xs, SqT K H a xs → xs[i]? = some x, fun i H => ∃ xs, SqT K H a xs ∧ xs.length ≤ i⟩
def Itr (lo : Int) (n : Nat) : It := ⟨fun i _ => i < n, fun i H x H' => H' = H ∧ x = .int (lo + i), fun i _ => n ≤ i⟩
theorem k2w {P : Program} {w : World} {K : PySem.W.Frag} {tg : Expr} (a it : Addr) : Turn P w K tg (Itl K a) [it] it (fun i h => h.IsListIter it a i) where
 mem := by simp
 obj := fun i h st b hb => by
  have e : b = it := by simpa using hb
  subst e
  obtain ⟨o, e, c, d⟩ := st
  exact ⟨o, e, fun v z => by rw [d] at z; cases z⟩
 keep := fun i h h' st k => st.at fun o e => k it (by simp) o e
 item := by
  intro X hP hw hK hc i pins s σ H E I hf st hg
  subst hP hw hK
  obtain ⟨xs, x, hq, hx⟩ := hg
  obtain ⟨its, rv, p, hz⟩ := I.list hq
  obtain ⟨u, hu, ru⟩ := rv.get hx
  obtain ⟨f0, f1, f2, f3, f4, f5⟩ := hf it (by simp)
  refine wpAny_pyNext_list_item st p.isList (x := u) (by simpa using hu) fun h' st' sb => ?_
  have I1 : Inv X pins σ H { s with heap := h' } := I.turned (t' := s.toks) (fun b o hb e => (sb.2 b hb).trans e) f0 f1 f3 f4 f5
  obtain ⟨o, e, c, d⟩ := id st'
  exact ⟨u, rfl, k4a (s := { s with heap := h' }) e c d (by decide) ⟨x, H, I1, ru, ⟨rfl, fun ys hy => by rw [I.list_inj hy hq]; exact hx⟩, st', fun b hb => (hf b hb).1⟩⟩
 done := by
  intro X hP hw hK hc i pins s σ H E I hf st hg
  subst hP hw hK
  obtain ⟨xs, hq, hx⟩ := hg
  obtain ⟨its, rv, p, hz⟩ := I.list hq
  obtain ⟨f0, f1, f2, f3, f4, f5⟩ := hf it (by simp)
  have hl := rv.length
  exact wpAny_pyNext_list_end (I.ok.hd hc) st p.isList (by simp; omega) fun h' eb => ⟨rfl, I.turned (t' := s.toks) (fun b o hb e => eb b o hb e) f0 f1 f3 f4 f5⟩
 self := fun _ _ _ _ _ st h => wpAny_pyIter_listiter st h
theorem k07 {P : Program} {w : World} {K : PySem.W.Frag} {tg : Expr} (a it : Addr) : Turn P w K tg (Itt K a) [it] it (fun i h => h.IsTupleIter it a i) where
 mem := by simp
 obj := fun i h st b hb => by
  have e : b = it := by simpa using hb
  subst e
  obtain ⟨o, e, c, d⟩ := st
  exact ⟨o, e, fun v z => by rw [d] at z; cases z⟩
 keep := fun i h h' st k => st.at fun o e => k it (by simp) o e
 item := by
  intro X hP hw hK hc i pins s σ H E I hf st hg
  subst hP hw hK
  obtain ⟨xs, x, hq, hx⟩ := hg
  obtain ⟨its, rv, p, hz⟩ := I.tuple hq
  obtain ⟨u, hu, ru⟩ := rv.get hx
  obtain ⟨f0, f1, f2, f3, f4, f5⟩ := hf it (by simp)
  refine wpAny_pyNext_tuple_item st (show s.heap.IsTuple a its.toArray from p) (x := u) (by simpa using hu) fun h' st' sb => ?_
  have I1 : Inv X pins σ H { s with heap := h' } := I.turned (t' := s.toks) (fun b o hb e => (sb.2 b hb).trans e) f0 f1 f3 f4 f5
  obtain ⟨o, e, c, d⟩ := id st'
  exact ⟨u, rfl, k4a (s := { s with heap := h' }) e c d (by decide) ⟨x, H, I1, ru, ⟨rfl, fun ys hy => by rw [I.tuple_inj hy hq]; exact hx⟩, st', fun b hb => (hf b hb).1⟩⟩
 done := by
  intro X hP hw hK hc i pins s σ H E I hf st hg
  subst hP hw hK
  obtain ⟨xs, hq, hx⟩ := hg
  obtain ⟨its, rv, p, hz⟩ := I.tuple hq
  obtain ⟨f0, f1, f2, f3, f4, f5⟩ := hf it (by simp)
  have hl := rv.length
  exact wpAny_pyNext_tuple_end (I.ok.hd hc) st (show s.heap.IsTuple a its.toArray from p) (by simp; omega) fun h' eb => ⟨rfl, I.turned (t' := s.toks) (fun b o hb e => eb b o hb e) f0 f1 f3 f4 f5⟩
 self := fun _ _ _ _ _ st h => wpAny_pyIter_tupleiter st h
theorem k03 {P : Program} {w : World} {K : PySem.W.Frag} {tg : Expr} (it : Addr) (lo : Int) (n : Nat) : Turn P w K tg (Itr lo n) [it] it (fun i h => IsRangeIter h it (lo + (i : Nat) * 1) ((n : Int) - (i : Nat)) 1) where
 mem := by simp
 obj := fun i h st b hb => by
  have e : b = it := by simpa using hb
  subst e
  exact ⟨_, st, fun v z => by
   have z' : Data.fields _ = Data.cell v := z
   cases z'⟩
 keep := fun i h h' st k => k it (by simp) _ st
 item := by
  intro X hP hw hK hc i pins s σ H E I hf st hg
  subst hP hw hK
  obtain ⟨f0, f1, f2, f3, f4, f5⟩ := hf it (by simp)
  have W := Walks.range (prog := X.prog) (w := X.w) (I.ok.hd hc) it lo 1 n
  refine W.item i s _ _ hg st fun v h' tk hv st' kk => ?_
  obtain ⟨t, rfl⟩ := hv
  have I1 : Inv X pins σ H { s with heap := h', toks := tk } := I.turned (fun b o hb e => kk b o (by simpa using hb) e) f0 f1 f3 f4 f5
  refine ⟨_, rfl, k4a (s := { s with heap := h', toks := tk }) (n := "range_iterator") st' rfl rfl (by decide) ⟨.int (lo + i), H, I1, ⟨t, ?_⟩, ⟨rfl, rfl⟩, st', fun b hb => (hf b hb).1⟩⟩
  rw [Int.mul_one]
 done := by
  intro X hP hw hK hc i pins s σ H E I hf st hg
  subst hP hw hK
  obtain ⟨f0, f1, f2, f3, f4, f5⟩ := hf it (by simp)
  exact wpAny_pyNext_range_end (I.ok.hd hc) st (by have : n ≤ i := hg; omega) fun h' eb => ⟨rfl, I.turned (t' := s.toks) (fun b o hb e => eb b o hb e) f0 f1 f3 f4 f5⟩
 self := fun _ _ _ _ _ st h => wpAny_pyIter_rangeiter st h
end L2
namespace L2
open PySem PySem.Spec PyProof.Rows
section
variable {X : Cx} {tg : Expr}
def q2u (K : PySem.W.Frag) (tl : TE) : TI := fun σ H R => tl σ H fun x H1 => ∃ a, x = .ref a ∧ (∃ xs, SqL K H1 a xs) ∧ R (Itl K a) H1
def iTup (K : PySem.W.Frag) (tl : TE) : TI := fun σ H R => tl σ H fun x H1 => ∃ a, x = .ref a ∧ (∃ xs, SqT K H1 a xs) ∧ R (Itt K a) H1
theorem j1s {l : Expr} {tl : TE} (hl : PE X l tl) : PI X tg l (q2u X.K tl) := by
 intro pins s σ H R I h
 refine thn (hl pins s σ H _ I h) fun v s1 ⟨x, H1, I1, r1, q1⟩ => ?_
 obtain ⟨a, e, ⟨xs, hq⟩, q⟩ := q1
 subst e
 cases r1
 obtain ⟨its, rv, p, hz⟩ := I1.list hq
 refine wpAny_pyIter_list p.isList ?_
 refine ⟨s1.heap.objs.size, [s1.heap.objs.size], _, _, H1, rfl, I1.kept (t' := s1.toks) fun b o e => Heap.get?_push_of_some _ e, k2w a _, ⟨_, Heap.get?_push_size _ rfl, rfl, rfl⟩, fun b hb => ?_, q⟩
 have e : b = s1.heap.objs.size := by simpa using hb
 subst e
 exact I1.fpOk (Nat.le_refl _) (I1.hok.fresh (Nat.le_refl _))
theorem k90 {l : Expr} {tl : TE} (hl : PE X l tl) : PI X tg l (iTup X.K tl) := by
 intro pins s σ H R I h
 refine thn (hl pins s σ H _ I h) fun v s1 ⟨x, H1, I1, r1, q1⟩ => ?_
 obtain ⟨a, e, ⟨xs, hq⟩, q⟩ := q1
 subst e
 cases r1
 obtain ⟨its, rv, p, hz⟩ := I1.tuple hq
 refine wpAny_pyIter_tuple (show s1.heap.IsTuple a its.toArray from p) ?_
 refine ⟨s1.heap.objs.size, [s1.heap.objs.size], _, _, H1, rfl, I1.kept (t' := s1.toks) fun b o e => Heap.get?_push_of_some _ e, k07 a _, ⟨_, Heap.get?_push_size _ rfl, rfl, rfl⟩, fun b hb => ?_, q⟩
 have e : b = s1.heap.objs.size := by simpa using hb
 subst e
 exact I1.fpOk (Nat.le_refl _) (I1.hok.fresh (Nat.le_refl _))
theorem k36 {pins : List (Addr × Obj)} {σ : St} {H : Hp} {s : Shared} {R : It → Hp → Prop} {E : Value → Shared → Prop} {lo hi : Int} {t u v : Tok} {tk : Nat} (I : Inv X pins σ H s) (h1 : -(2 ^ 62) ≤ lo) (h2 : lo < 2 ^ 62) (h3 : -(2 ^ 62) ≤ hi) (h4 : hi < 2 ^ 62)
  (q : R (Itr lo (hi - lo).toNat) H) : wpAny (model X.prog X.w) X.A (pyIter (.ref s.heap.objs.size)) (PIE X pins σ tg R) E { s with heap := s.heap.push { cls := .type "range", data := .fields #[.int lo t, .int hi u, .int 1 v] }, toks := tk } := by
 refine wpAny_pyIter_range (IsRange.new ..) (small_one h1 h2 h3 h4) ?_
 have I1 : Inv X pins σ H { s with heap := s.heap.push { cls := .type "range", data := .fields #[.int lo t, .int hi u, .int 1 v] }, toks := tk } := I.kept fun b o e => Heap.get?_push_of_some _ e
 refine ⟨(s.heap.push { cls := .type "range", data := .fields #[.int lo t, .int hi u, .int 1 v] }).objs.size, [(s.heap.push { cls := .type "range", data := .fields #[.int lo t, .int hi u, .int 1 v] }).objs.size], _, _, H, rfl,
  I1.kept (t' := tk) fun b o e => Heap.get?_push_of_some _ e, k03 _ lo (hi - lo).toNat, ?_, fun b hb => ?_, q⟩
 ·have e1 : lo + ((0 : Nat) : Int) * 1 = lo := by simp
  have e2 : (((hi - lo).toNat : Nat) : Int) - ((0 : Nat) : Int) = Builtin.Range.rangeSize lo hi 1 := by rw [rangeSize_one]; split <;> omega
  show IsRangeIter _ _ (lo + ((0 : Nat) : Int) * 1) ((((hi - lo).toNat : Nat) : Int) - ((0 : Nat) : Int)) 1
  rw [e1, e2]
  exact Heap.get?_push_size _ rfl
 ·have e : b = (s.heap.push { cls := .type "range", data := .fields #[.int lo t, .int hi u, .int 1 v] }).objs.size := by simpa using hb
  subst e
  exact I1.fpOk (Nat.le_refl _) (I1.hok.fresh (Nat.le_refl _))
def q02 (ta : TA) : TI := fun σ H R => ta σ H fun vs H1 => ∃ j : Int, vs = [.int j] ∧ -(2 ^ 62) ≤ j ∧ j < 2 ^ 62 ∧ R (Itr 0 j.toNat) H1
theorem j39 {a : Expr} {ta : TA} {p pos : Pos} (hg : Gl X "range") (hm : X.mg "range" = none) (ha : PA X [a] ta) (hs : starEach [a] X.env = [(false, eval a X.env)] := by rfl) : PI X tg (.Call (.Name "range" p) [a] [] pos) (q02 ta) := by
 intro pins s σ H R I h
 refine Call_ (j4p I hg hm boot_range (PyProof.Rows.callWith_type1 (thn (ha pos pins s σ H _ I h) fun us s1 ⟨vs, H1, I1, r1, q1⟩ => ?_) hs rfl))
 obtain ⟨j, e, q1, q2, q⟩ := q1
 subst e
 cases r1 with
 | cons r rr =>
  cases rr
  obtain ⟨t, rfl⟩ := r
  exact call_range_1 (k36 I1 (by omega) (by omega) q1 q2 (by simpa using q))
def tFor (wi : TI) (g : TG) (tb : TS) : TS := fun D σ H => wi σ H fun J H1 => ∃ W : Nat → Nat → St → Hp → Prop, (∃ m, W 0 m σ H1) ∧ ∀ i m σ H, W i m σ H →
 (J.stop i H ∧ D.nx σ H) ∨ (J.go i H ∧ ∃ N : St → Hp → Prop, (∀ σ' H', N σ' H' → ∃ m', m' < m ∧ W (i + 1) m' σ' H') ∧ ∀ x H', J.yld i H x H' → g x σ H' fun σ2 H2 => tb { D with nx := N, ct := N, bk := D.nx } σ2 H2)
def j45 (fp : List Addr) (h : Heap) : List (Addr × Obj) := fp.filterMap fun b => (h.get? b).map fun o => (b, o)
theorem j1u {fp : List Addr} {h : Heap} {b : Addr} {o : Obj} (hb : b ∈ fp) (e : h.get? b = some o) : (b, o) ∈ j45 fp h := List.mem_filterMap.mpr ⟨b, hb, by rw [e]; rfl⟩
theorem k3w {fp : List Addr} {h : Heap} {p : Addr × Obj} (hp : p ∈ j45 fp h) : p.1 ∈ fp ∧ h.get? p.1 = some p.2 := by
 obtain ⟨b, hb, e⟩ := List.mem_filterMap.mp hp
 cases q : h.get? b with
 | none => rw [q] at e; cases e
 | some o =>
  rw [q] at e
  have e' : (b, o) = p := Option.some.inj e
  subst e'
  exact ⟨hb, q⟩
theorem Inv.pinned {pins : List (Addr × Obj)} {σ : St} {H : Hp} {s : Shared} {fp : List Addr} (I : Inv X pins σ H s) (hf : ∀ b ∈ fp, FpOk X pins H b) (ho : ∀ b ∈ fp, ∃ o, s.heap.get? b = some o ∧ ∀ v, o.data ≠ .cell v) : Inv X (pins ++ j45 fp s.heap) σ H s :=
 I.pins_of fun p hp => (List.mem_append.mp hp).elim (fun z => I.pin p (List.mem_append_right _ z)) fun z => by
  obtain ⟨hb, e⟩ := k3w z
  obtain ⟨f0, f1, f2, _⟩ := hf p.1 hb
  obtain ⟨o, e', d⟩ := ho p.1 hb
  rw [e] at e'; cases e'
  exact ⟨e, f0, f1, f2, d⟩
theorem Inv.unpinned {pins pl : List (Addr × Obj)} {σ : St} {H : Hp} {s : Shared} (I : Inv X (pins ++ pl) σ H s) : Inv X pins σ H s := I.pins_of fun p hp => I.pin p (List.mem_append_right _ (List.mem_append_left _ hp))
theorem q1f {iter : Expr} {body : List Stmt} {wi : TI} {g : TG} {tb : TS} {pos : Pos} (hp : PassesOwn (model X.prog X.w) X.A X.env X.xe) (hc : X.calm = true) (hi : PI X tg iter wi) (hg : PG X tg g) (hb : PSs X body tb)
  (hs : ∀ x, foldedSetIterable iter X.env x = pure x := by intro _; rfl) : PS X (.For tg iter body [] pos) (tFor wi g tb) := by
 intro pins s σ H D I h
 refine wpAny_For (thn (hi pins s σ H _ I h) fun v s1 h1 => thn h1 fun itv s2 h2 => ?_) hs
 obtain ⟨it, fp, tn, J, H2, e, I2, T, st2, f2, W, ⟨m0, w0⟩, turn⟩ := h2
 subst e
 have stat : ∀ {H' : Hp}, (∀ b ∈ fp, H' b = none) → ∀ b ∈ fp, FpOk X pins H' b := fun hn b hb => ⟨hn b hb, (f2 b hb).2⟩
 refine codeAny_forLoop_any (fun n s' => ∃ i σ' H', Inv X pins σ' H' s' ∧ tn i s'.heap ∧ (∀ b ∈ fp, H' b = none) ∧ W i n σ' H') ?_ m0 ⟨0, σ, H2, I2, st2, fun b hb => (f2 b hb).1, w0⟩
 rintro n s3 ⟨i, σ3, H3, I3, st3, fr3, w3⟩
 rcases turn i n σ3 H3 w3 with ⟨stop, qn⟩ | ⟨go, N, hN, step⟩
 ·refine wpAny_passesOwn hp (thn (T.done X rfl rfl rfl hc i pins s3 σ3 H3 X.xe I3 (stat fr3) st3 stop) fun r s4 ⟨hr, I4⟩ => ?_)
  subst hr
  exact wpAny_execs_nil ⟨σ3, H3, I4, qn⟩
 ·refine wpAny_passesOwn hp (thn (T.item X rfl rfl rfl hc i pins s3 σ3 H3 X.xe I3 (stat fr3) st3 go) fun r s4 ⟨u, hr, h4⟩ => ?_)
  subst hr
  refine wpAny_passesOwn hp (thn h4 fun _ s5 ⟨x, H5, I5, r5, y5, st5, fr5⟩ => ?_)
  have I5' := I5.pinned (stat fr5) (T.obj _ _ st5)
  refine wpAny_passesOwn hp (thn (hg _ s5 σ3 H5 x u _ I5' r5 (step x H5 y5)) fun _ s6 ⟨σ6, H6, I6, q6⟩ => ?_)
  refine wpAny_passesOwn hp (thn (hb _ s6 σ6 H6 _ I6 q6) fun f s7 q7 => ?_)
  have again : ∀ {σ7 : St} {H7 : Hp}, Inv X (pins ++ j45 fp s5.heap) σ7 H7 s7 → N σ7 H7 → ∃ m, m < n ∧ ∃ i σ' H', Inv X pins σ' H' s7 ∧ tn i s7.heap ∧ (∀ b ∈ fp, H' b = none) ∧ W i m σ' H' := fun {σ7 H7} I7 n7 => by
   obtain ⟨m', hm, w7⟩ := hN σ7 H7 n7
   refine ⟨m', hm, i + 1, σ7, H7, I7.unpinned, T.keep _ _ _ st5 fun b hb o e => (I7.pin (b, o) (List.mem_append_right _ (List.mem_append_right _ (j1u hb e)))).1, fun b hb => ?_, w7⟩
   obtain ⟨o, e, d⟩ := T.obj _ _ st5 b hb
   exact (I7.pin (b, o) (List.mem_append_right _ (List.mem_append_right _ (j1u hb e)))).2.1
  cases f with
  | next => obtain ⟨σ7, H7, I7, n7⟩ := q7; exact again I7 n7
  | cont => obtain ⟨σ7, H7, I7, n7⟩ := q7; exact again I7 n7
  | brk => obtain ⟨σ7, H7, I7, q7⟩ := q7; exact ⟨σ7, H7, I7.unpinned, q7⟩
  | ret v => obtain ⟨x7, σ7, H7, I7, r7, q7⟩ := q7; exact ⟨x7, σ7, H7, I7.unpinned, r7, q7⟩
end
end L2
namespace L2
open PySem PySem.Spec PyProof.Rows
abbrev R2 := V → V → Hp → VK → Prop
def OpR (X : Cx) (f : Value → Value → Sem Value) (r : R2) : Prop :=
 ∀ (pins : List (Addr × Obj)) (s : Shared) (σ : St) (H : Hp) (x y : V) (v u : Value) (Q : VK), Inv X pins σ H s → RelV x v → RelV y u → r x y H Q →
  wpAny (model X.prog X.w) X.A (f v u) (EP X pins σ Q) X.xe s
def UnR (X : Cx) (f : Value → Sem Value) (r : V → Hp → VK → Prop) : Prop :=
 ∀ (pins : List (Addr × Obj)) (s : Shared) (σ : St) (H : Hp) (x : V) (v : Value) (Q : VK), Inv X pins σ H s → RelV x v → r x H Q →
  wpAny (model X.prog X.w) X.A (f v) (EP X pins σ Q) X.xe s
def j3z (X : Cx) (f : Value) (r : List V → Hp → VK → Prop) : Prop :=
 ∀ (pins : List (Addr × Obj)) (s : Shared) (σ : St) (H : Hp) (xs : List V) (us : List Value) (Q : VK), Inv X pins σ H s → Vals xs us → r xs H Q →
  wpAny (model X.prog X.w) X.A (call f us) (EP X pins σ Q) X.xe s
def TruR (X : Cx) (r : V → Hp → (Bool → Hp → Prop) → Prop) : Prop :=
 ∀ (pins : List (Addr × Obj)) (s : Shared) (σ : St) (H : Hp) (x : V) (v : Value) (Q : Bool → Hp → Prop), Inv X pins σ H s → RelV x v → r x H Q →
  wpAny (model X.prog X.w) X.A (truthy v) (TP X pins σ Q) X.xe s
def tOp (r : R2) (ta tb : TE) : TE := fun σ H Q => ta σ H fun x H1 => tb σ H1 fun y H2 => r x y H2 Q
def tUn (r : V → Hp → VK → Prop) (ta : TE) : TE := fun σ H Q => ta σ H fun x H1 => r x H1 Q
def rI (C : Int → Int → Prop) (g : Int → Int → V) : R2 := fun x y H Q => ∃ i j, x = .int i ∧ y = .int j ∧ C i j ∧ Q (g i j) H
def rI0 (g : Int → Int → V) : R2 := fun x y H Q => ∃ i j, x = .int i ∧ y = .int j ∧ Q (g i j) H
def rU (g : Int → V) : V → Hp → VK → Prop := fun x H Q => ∃ i, x = .int i ∧ Q (g i) H
section
variable {X : Cx} {a b c : Expr} {ta tb tc : TE} {pos : Pos}
theorem binT (ha : PE X a ta) (hb : PE X b tb) {pins : List (Addr × Obj)} {s : Shared} {σ : St} {H : Hp} {R : V → V → Hp → Prop} (I : Inv X pins σ H s)
  (h : ta σ H fun x H1 => tb σ H1 fun y H2 => R x y H2) {Q : Value → Shared → Prop} {f : Value → Value → Sem Value}
  (hf : ∀ v u s2 x y H2, Inv X pins σ H2 s2 → RelV x v → RelV y u → R x y H2 → wpAny (model X.prog X.w) X.A (f v u) Q X.xe s2) :
  wpAny (model X.prog X.w) X.A (eval a X.env) (fun v s₁ => wpAny (model X.prog X.w) X.A (eval b X.env) (fun u s₂ => wpAny (model X.prog X.w) X.A (f v u) Q X.xe s₂) X.xe s₁) X.xe s := by
 refine thn (ha pins s σ H _ I h) fun v s1 ⟨x, H1, I1, r1, q1⟩ => ?_
 refine thn (hb pins s1 σ H1 _ I1 q1) fun u s2 ⟨y, H2, I2, r2, q2⟩ => ?_
 exact hf v u s2 x y H2 I2 r1 r2 q2
theorem q2w {op : Operator} {r : R2} (ho : OpR X (binaryOp op) r) (ha : PE X a ta) (hb : PE X b tb) : PE X (.BinOp a op b pos) (tOp r ta tb) := by
 intro pins s σ H Q I h
 exact wpAny_BinOp (binT ha hb I h fun v u s2 x y H2 I2 rx ry q => ho pins s2 σ H2 x y v u Q I2 rx ry q)
theorem q2o {op : UnaryOp} {r : V → Hp → VK → Prop} (ho : UnR X (unaryOp op) r) (ha : PE X a ta) : PE X (.UnaryOp op a pos) (tUn r ta) := by
 intro pins s σ H Q I h
 exact UnaryOp_ (thn (ha pins s σ H _ I h) fun v s1 ⟨x, H1, I1, r1, q1⟩ => ho pins s1 σ H1 x v Q I1 r1 q1)
theorem opI {f : Value → Value → Sem Value} {C : Int → Int → Prop} {g : Int → Int → Int}
  (rule : ∀ (i j : Int) (t u : Tok) (s : Shared) (Q : Value → Shared → Prop) (E : Value → Shared → Prop), C i j → Q (.int (g i j) s.toks) { s with toks := s.toks + 1 } → wpAny (model X.prog X.w) X.A (f (.int i t) (.int j u)) Q E s) :
  OpR X f (rI C fun i j => .int (g i j)) := by
 intro pins s σ H x y v u Q I rx ry h
 obtain ⟨i, j, rfl, rfl, hc, q⟩ := h
 obtain ⟨t, rfl⟩ := rx
 obtain ⟨t', rfl⟩ := ry
 exact rule i j t t' s _ _ hc ⟨.int (g i j), H, I.tok _, ⟨_, rfl⟩, q⟩
theorem opI0 {f : Value → Value → Sem Value} {g : Int → Int → Int}
  (rule : ∀ (i j : Int) (t u : Tok) (s : Shared) (Q : Value → Shared → Prop) (E : Value → Shared → Prop), Q (.int (g i j) s.toks) { s with toks := s.toks + 1 } → wpAny (model X.prog X.w) X.A (f (.int i t) (.int j u)) Q E s) :
  OpR X f (rI0 fun i j => .int (g i j)) := by
 intro pins s σ H x y v u Q I rx ry h
 obtain ⟨i, j, rfl, rfl, q⟩ := h
 obtain ⟨t, rfl⟩ := rx
 obtain ⟨t', rfl⟩ := ry
 exact rule i j t t' s _ _ ⟨.int (g i j), H, I.tok _, ⟨_, rfl⟩, q⟩
theorem opB0 {f : Value → Value → Sem Value} {g : Int → Int → Bool}
  (rule : ∀ (i j : Int) (t u : Tok) (s : Shared) (Q : Value → Shared → Prop) (E : Value → Shared → Prop), Q (.bool (g i j)) s → wpAny (model X.prog X.w) X.A (f (.int i t) (.int j u)) Q E s) :
  OpR X f (rI0 fun i j => .bl (g i j)) := by
 intro pins s σ H x y v u Q I rx ry h
 obtain ⟨i, j, rfl, rfl, q⟩ := h
 obtain ⟨t, rfl⟩ := rx
 obtain ⟨t', rfl⟩ := ry
 exact rule i j t t' s _ _ ⟨.bl (g i j), H, I, rfl, q⟩
def CDiv (i j : Int) : Prop := 0 < j ∧ j < 1073741824
def CPow (i j : Int) : Prop := 0 ≤ j ∧ j ≤ 1000000 ∧ i.natAbs < 2 ^ 64
def CMul (i j : Int) : Prop := (-(2 ^ 64) < i ∧ i < 2 ^ 64) ∨ (-(2 ^ 64) < j ∧ j < 2 ^ 64)
theorem CMul.ok {i j : Int} (h : CMul i j) : IntMulOk i j := by
 rcases h with ⟨h1, h2⟩ | ⟨h1, h2⟩
 ·exact .of_left (intBits_le_64 h1 h2)
 ·exact .of_right (intBits_le_64 h1 h2)
theorem k06 (k : Nat) : (0 : Int) ≤ 2 ^ k := by
 rw [two_pow_cast]
 exact Int.natCast_nonneg _
theorem j11 : OpR X (binaryOp .Add) (rI0 fun i j => .int (i + j)) := opI0 fun _ _ _ _ _ _ _ q => add_int q
theorem k9y : OpR X (binaryOp .Sub) (rI0 fun i j => .int (i - j)) := opI0 fun _ _ _ _ _ _ _ q => sub_int q
theorem j9v : OpR X (binaryOp .Mult) (rI CMul fun i j => .int (i * j)) := opI fun _ _ _ _ _ _ _ hc q => mul_int q hc.ok
theorem j1y : OpR X (binaryOp .FloorDiv) (rI CDiv fun i j => .int (i / j)) := opI fun i j _ _ _ _ _ hc q => by
 have h1 : (0 : Int) < j := hc.1
 have h2 : j < 1073741824 := hc.2
 exact floordiv_int (by omega) (by rw [Int.fdiv_eq_ediv_of_nonneg i (by omega)]; exact q) (.inl (PyProof.noPylong_small (by omega)))
theorem j1b : OpR X (binaryOp .Mod) (rI (fun _ j => 0 < j) fun i j => .int (i % j)) := opI fun i j _ _ _ _ _ hc q => by
 have h1 : (0 : Int) < j := hc
 exact mod_int' (by omega) (by rw [Int.fmod_eq_emod_of_nonneg i (by omega)]; exact q)
theorem k6p : OpR X (binaryOp .Pow) (rI CPow fun i j => .int (i ^ j.toNat)) := opI fun _ _ _ _ _ _ _ hc q => pow_int_small hc.1 hc.2.1 hc.2.2 q
theorem k58 : OpR X (binaryOp .RShift) (rI (fun _ j => 0 ≤ j) fun i j => .int (i / 2 ^ j.toNat)) := opI fun i j _ _ _ _ _ hc q =>
 rshift_int hc (by rw [Int.fdiv_eq_ediv_of_nonneg i (k06 _)]; exact q)
theorem k6s : OpR X (binaryOp .BitAnd) (rI0 fun i j => .int (Builtin.bitAnd i j)) := opI0 fun _ _ _ _ _ _ _ q => and_int q
theorem unI {f : Value → Sem Value} {g : Int → Int}
  (rule : ∀ (i : Int) (t : Tok) (s : Shared) (Q : Value → Shared → Prop) (E : Value → Shared → Prop), Q (.int (g i) s.toks) { s with toks := s.toks + 1 } → wpAny (model X.prog X.w) X.A (f (.int i t)) Q E s) :
  UnR X f (rU fun i => .int (g i)) := by
 intro pins s σ H x v Q I rx h
 obtain ⟨i, rfl, q⟩ := h
 obtain ⟨t, rfl⟩ := rx
 exact rule i t s _ _ ⟨.int (g i), H, I.tok _, ⟨_, rfl⟩, q⟩
theorem k6l : UnR X (unaryOp .USub) (rU fun i => .int (-i)) := unI fun _ _ _ _ _ q => neg_int q
end
def scal : V → V → Bool
 | .non, .non => true | .non, .int _ => true | .int _, .non => true | .non, .bl _ => true | .bl _, .non => true | .non, .str _ => true | .str _, .non => true
 | .int _, .int _ => true | .bl _, .bl _ => true | .str _, .str _ => true | .byt _, .byt _ => true
 | .int _, .str _ => true | .str _, .int _ => true | .bl _, .str _ => true | .str _, .bl _ => true
 | _, _ => false
def rEq : R2 := fun x y H Q => scal x y = true ∧ Q (.bl (decide (x = y))) H
def rNe : R2 := fun x y H Q => scal x y = true ∧ Q (.bl (!decide (x = y))) H
theorem k1h {i j : Int} : decide (V.int i = V.int j) = (i == j) := by
 rw [Bool.eq_iff_iff]
 simp
theorem j8f {i j : Bool} : decide (V.bl i = V.bl j) = (i == j) := by
 rw [Bool.eq_iff_iff]
 simp
theorem k2l {i j : Str} : decide (V.str i = V.str j) = (i == j) := by
 rw [Bool.eq_iff_iff]
 simp
theorem k2s {i j : Array UInt8} : decide (V.byt i = V.byt j) = (i.toList == j.toList) := by
 rw [Bool.eq_iff_iff]
 cases i
 cases j
 simp
section
variable {X : Cx} {a b c : Expr} {ta tb tc : TE} {pos : Pos}
theorem j05 {pins : List (Addr × Obj)} {σ : St} {H : Hp} {s : Shared} {Q : VK} {k k' : Bool} (I : Inv X pins σ H s) (q : Q (.bl k) H) (e : k = k') : EP X pins σ Q (.bool k') s := by
 subst e
 exact ⟨.bl k, H, I, rfl, q⟩
theorem j4i : OpR X (compareOp .Eq) rEq := by
 intro pins s σ H x y v u Q I rx ry h
 obtain ⟨hs, q⟩ := h
 cases x with
 | non =>
  cases rx
  cases y with
  | non => cases ry; exact PySem.EqNone.eq_none_none (j05 I q (by simp))
  | bl j => cases ry; exact PySem.EqNone.eq_none_bool (j05 I q (by simp))
  | int j => obtain ⟨t', rfl⟩ := ry; exact PySem.EqNone.eq_none_int (j05 I q (by simp))
  | str j => obtain ⟨t', rfl⟩ := ry; exact PySem.EqNone.eq_none_str (j05 I q (by simp))
  | _ => exact absurd (show false = true from hs) Bool.false_ne_true
 | bl i =>
  cases rx
  cases y with
  | non => cases ry; exact PySem.EqNone.eq_bool_none (j05 I q (by simp))
  | bl j => cases ry; exact eq_bool (j05 I q j8f)
  | str j => obtain ⟨t', rfl⟩ := ry; exact PySem.EqMixed.eq_bool_str (j05 I q (by simp))
  | _ => exact absurd (show false = true from hs) Bool.false_ne_true
 | int i =>
  obtain ⟨t, rfl⟩ := rx
  cases y with
  | non => cases ry; exact PySem.EqNone.eq_int_none (j05 I q (by simp))
  | int j => obtain ⟨t', rfl⟩ := ry; exact eq_int (j05 I q k1h)
  | str j => obtain ⟨t', rfl⟩ := ry; exact PySem.EqMixed.eq_int_str (j05 I q (by simp))
  | _ => exact absurd (show false = true from hs) Bool.false_ne_true
 | str i =>
  obtain ⟨t, rfl⟩ := rx
  cases y with
  | non => cases ry; exact PySem.EqNone.eq_str_none (j05 I q (by simp))
  | bl j => cases ry; exact PySem.EqMixed.eq_str_bool (j05 I q (by simp))
  | int j => obtain ⟨t', rfl⟩ := ry; exact PySem.EqMixed.eq_str_int (j05 I q (by simp))
  | str j => obtain ⟨t', rfl⟩ := ry; exact eq_str (j05 I q k2l)
  | _ => exact absurd (show false = true from hs) Bool.false_ne_true
 | byt i =>
  obtain ⟨t, rfl⟩ := rx
  cases y with
  | byt j => obtain ⟨t', rfl⟩ := ry; exact PySem.W.eq_bytes (j05 I q k2s)
  | _ => exact absurd (show false = true from hs) Bool.false_ne_true
 | _ => cases y <;> exact absurd (show false = true from hs) Bool.false_ne_true
theorem k1u : OpR X (compareOp .NotEq) rNe := by
 intro pins s σ H x y v u Q I rx ry h
 obtain ⟨hs, q⟩ := h
 cases x with
 | non =>
  cases rx
  cases y with
  | non => cases ry; exact PySem.EqNone.ne_none_none (j05 I q (by simp))
  | bl j => cases ry; exact PySem.EqNone.ne_none_bool (j05 I q (by simp))
  | int j => obtain ⟨t', rfl⟩ := ry; exact PySem.EqNone.ne_none_int (j05 I q (by simp))
  | str j => obtain ⟨t', rfl⟩ := ry; exact PySem.EqNone.ne_none_str (j05 I q (by simp))
  | _ => exact absurd (show false = true from hs) Bool.false_ne_true
 | bl i =>
  cases rx
  cases y with
  | non => cases ry; exact PySem.EqNone.ne_bool_none (j05 I q (by simp))
  | bl j => cases ry; exact ne_bool (j05 I q (congrArg not j8f))
  | str j => obtain ⟨t', rfl⟩ := ry; exact PySem.EqMixed.ne_bool_str (j05 I q (by simp))
  | _ => exact absurd (show false = true from hs) Bool.false_ne_true
 | int i =>
  obtain ⟨t, rfl⟩ := rx
  cases y with
  | non => cases ry; exact PySem.EqNone.ne_int_none (j05 I q (by simp))
  | int j => obtain ⟨t', rfl⟩ := ry; exact ne_int (j05 I q (congrArg not k1h))
  | str j => obtain ⟨t', rfl⟩ := ry; exact PySem.EqMixed.ne_int_str (j05 I q (by simp))
  | _ => exact absurd (show false = true from hs) Bool.false_ne_true
 | str i =>
  obtain ⟨t, rfl⟩ := rx
  cases y with
  | non => cases ry; exact PySem.EqNone.ne_str_none (j05 I q (by simp))
  | bl j => cases ry; exact PySem.EqMixed.ne_str_bool (j05 I q (by simp))
  | int j => obtain ⟨t', rfl⟩ := ry; exact PySem.EqMixed.ne_str_int (j05 I q (by simp))
  | str j => obtain ⟨t', rfl⟩ := ry; exact ne_str (j05 I q (congrArg not k2l))
  | _ => exact absurd (show false = true from hs) Bool.false_ne_true
 | byt i =>
  obtain ⟨t, rfl⟩ := rx
  cases y with
  | byt j => obtain ⟨t', rfl⟩ := ry; exact PySem.W.ne_bytes (j05 I q (congrArg not k2s))
  | _ => exact absurd (show false = true from hs) Bool.false_ne_true
 | _ => cases y <;> exact absurd (show false = true from hs) Bool.false_ne_true
theorem q2t : OpR X (compareOp .Lt) (rI0 fun i j => .bl (decide (i < j))) := opB0 fun _ _ _ _ _ _ _ q => lt_int q
theorem q2n : OpR X (compareOp .Gt) (rI0 fun i j => .bl (decide (j < i))) := opB0 fun _ _ _ _ _ _ _ q => gt_int q
theorem k3x : OpR X (compareOp .IsNot) (fun x y H Q => y = .non ∧ Q (.bl (!decide (x = .non))) H) := by
 intro pins s σ H x y v u Q I rx ry h
 obtain ⟨rfl, q⟩ := h
 cases ry
 refine isnot_none_gen (j05 I q ?_)
 cases x <;> first
  | (cases rx; rfl)
  | (obtain ⟨t, rfl⟩ := rx; rfl)
theorem k8y {op : CmpOp} {r : R2} (ho : OpR X (compareOp op) r) (ha : PE X a ta) (hb : PE X b tb) (hm : behindInMarks op b = false) : PE X (.Compare a [op] [b] pos) (tOp r ta tb) := by
 intro pins s σ H Q I h
 exact wpAny_Compare1 (binT ha hb I h fun v u s2 x y H2 I2 rx ry q => ho pins s2 σ H2 x y v u Q I2 rx ry q) hm
def q2g (t : TE) : TT := fun σ H Q => t σ H fun x H' => ∃ k, x = .bl k ∧ Q k H'
theorem k8p {op : CmpOp} {r : R2} (ho : OpR X (compareOp op) r) (ha : PE X a ta) (hb : PE X b tb) (hm : behindInMarks op b = false) : PT X (.Compare a [op] [b] pos) (q2g (tOp r ta tb)) := by
 intro pins s σ H Q I h
 refine wpAny_isTrue_Compare1 (thn (ha pins s σ H _ I h) fun v s1 ⟨x, H1, I1, r1, q1⟩ => thn (hb pins s1 σ H1 _ I1 q1) fun u s2 ⟨y, H2, I2, r2, q2⟩ =>
  thn (ho pins s2 σ H2 x y v u _ I2 r1 r2 q2) fun c s3 ⟨z, H3, I3, r3, k, e, q3⟩ => ?_) hm
 subst e
 cases r3
 exact wpAny_truthy_bool ⟨H3, I3, q3⟩
def TruV (K : PySem.W.Frag) (x : V) (H : Hp) (k : Bool) : Prop :=
 match x with
 | .non => k = false
 | .bl b => k = b
 | .int i => k = (i != 0)
 | .str y => y.length ≤ sizeLine ∧ k = ((y.length : Int) != 0)
 | .byt y => y.size ≤ sizeLine ∧ k = ((y.size : Int) != 0)
 | .ref p => (∃ xs, SqL K H p xs ∧ k = !xs.isEmpty) ∨ (∃ xs, SqT K H p xs ∧ k = !xs.isEmpty) ∨ ∃ kvs, H p = some (.dK kvs) ∧ k = !kvs.isEmpty
 | _ => False
theorem k0t {κ : Type} {kvs : List (κ × V)} {vs : List (κ × Value)} (r : KV kvs vs) : (!vs.isEmpty) = !kvs.isEmpty := by
 cases r <;> rfl
theorem j5y {xs : List V} {its : List Value} (r : Vals xs its) : (!its.toArray.isEmpty) = !xs.isEmpty := by
 cases r <;> simp
theorem j71 : (sizeLine : Nat) < 2 ^ 63 := by rw [sizeLine_eq]; decide
theorem k6u : TruR X (fun x H Q => ∃ k, TruV X.K x H k ∧ Q k H) := by
 intro pins s σ H x v Q I rx h
 obtain ⟨k, e, q⟩ := h
 have hl := j71
 have hs : sizeLine = 16777216 := sizeLine_eq
 cases x with
 | non =>
  cases rx
  have e' : k = false := e
  subst e'
  exact truthy_none ⟨H, I, q⟩
 | bl b =>
  cases rx
  have e' : k = b := e
  subst e'
  exact wpAny_truthy_bool ⟨H, I, q⟩
 | int i =>
  obtain ⟨t, rfl⟩ := rx
  have e' : k = (i != 0) := e
  subst e'
  exact PySem.P.truthy_int ⟨H, I, q⟩
 | str y =>
  obtain ⟨t, rfl⟩ := rx
  obtain ⟨hy, e'⟩ : y.length ≤ sizeLine ∧ k = ((y.length : Int) != 0) := e
  subst e'
  exact PySem.P.truthy_str (by omega) ⟨H, I.tok _, q⟩
 | byt y =>
  obtain ⟨t, rfl⟩ := rx
  obtain ⟨hy, e'⟩ : y.size ≤ sizeLine ∧ k = ((y.size : Int) != 0) := e
  subst e'
  exact PySem.W.truthy_bytes (by omega) ⟨H, I.tok _, q⟩
 | ref p =>
  cases rx
  have e' : (∃ xs, SqL X.K H p xs ∧ k = !xs.isEmpty) ∨ (∃ xs, SqT X.K H p xs ∧ k = !xs.isEmpty) ∨ ∃ kvs, H p = some (.dK kvs) ∧ k = !kvs.isEmpty := e
  rcases e' with ⟨xs, hx, e'⟩ | ⟨xs, hx, e'⟩ | ⟨kvs, hx, e'⟩
  ·subst e'
   obtain ⟨its, r, pl, hz⟩ := I.list hx
   have hlen := r.length
   exact wpAny_truthy_list pl.isList (by simp only [List.size_toArray]; omega) ⟨H, I.tok _, by rw [j5y r]; exact q⟩
  ·subst e'
   obtain ⟨its, r, pl, hz⟩ := I.tuple hx
   have hlen := r.length
   exact truthy_tuple pl (by simp only [List.size_toArray]; omega) ⟨H, I.tok _, by rw [j5y r]; exact q⟩
  ·subst e'
   obtain ⟨hz, hS, vs, r, m⟩ : kvs.length ≤ sizeLine ∧ (p == sysModules) = false ∧ ∃ vs, KV kvs vs ∧ s.heap.DictOf (j03 X.prog X.w) p vs := I.hok p _ hx
   have hlen : kvs.length = vs.length := Paired.length r
   exact wpAny_truthy_dict hS m (by omega) ⟨H, I.tok _, by rw [k0t r]; exact q⟩
 | _ => exact (show False from e).elim
theorem k44 (ha : PE X a ta) (he : ∀ whole, isTrue a X.env whole = (do let v ← whole; standAt a.pos; holding [v] (truthy v))) :
  PT X a (fun σ H Q => ta σ H fun x H' => ∃ k, TruV X.K x H' k ∧ Q k H') := by
 intro pins s σ H Q I h
 exact isTrue_plain (thn (ha pins s σ H _ I h) fun v s1 ⟨x, H1, I1, r1, q1⟩ => k6u pins s1 σ H1 x v Q I1 r1 q1) (he _)
theorem k1b : OpR X (binaryOp .Add) (fun x y H Q => ∃ i j, x = .str i ∧ y = .str j ∧ i.length + j.length ≤ sizeLine ∧ Q (.str (i ++ j)) H) := by
 intro pins s σ H x y v u Q I rx ry h
 obtain ⟨i, j, rfl, rfl, hz, q⟩ := h
 obtain ⟨t, rfl⟩ := rx
 obtain ⟨t', rfl⟩ := ry
 exact add_str (fun t' tk => ⟨.str (i ++ j), H, I.tok _, ⟨_, rfl⟩, q⟩) hz
theorem vals1 {x : V} {us : List Value} (r : Vals [x] us) : ∃ u, us = [u] ∧ RelV x u := by
 cases r with
 | cons r1 r2 => cases r2; exact ⟨_, rfl, r1⟩
theorem vals2 {x y : V} {us : List Value} (r : Vals [x, y] us) : ∃ u w', us = [u, w'] ∧ RelV x u ∧ RelV y w' := by
 cases r with
 | cons r1 r2 =>
  cases r2 with
  | cons r3 r4 => cases r4; exact ⟨_, _, rfl, r1, r3⟩
theorem j68 (hc : X.calm = true) : j3z X (.builtin "max") (fun xs H Q => ∃ i j, xs = [.int i, .int j] ∧ Q (.int (if j > i then j else i)) H) := by
 intro pins s σ H xs us Q I r h
 obtain ⟨i, j, rfl, q⟩ := h
 obtain ⟨u, w', rfl, ⟨t, rfl⟩, ⟨t', rfl⟩⟩ := vals2 r
 refine max_two_ints (I.ok.hd hc) fun h' tk k => ⟨_, H, I.kept k, ?_, q⟩
 by_cases hj : j > i
 ·rw [if_pos hj, if_pos hj]; exact ⟨_, rfl⟩
 ·rw [if_neg hj, if_neg hj]; exact ⟨_, rfl⟩
end
end L2
namespace L2
open PySem PySem.Spec PyProof.Rows
structure ObjM (h : Heap) (x dx C : Addr) (mA : Str → Option Value) : Prop where
 obj : h.get? x = some (PySem.W.instObj C dx)
 ns : h.Ns1 dx mA
 ne : dx ≠ x
theorem k2e {h : Heap} {dx : Addr} {mA : Str → Option Value} (n : h.Ns1 dx mA) : ∃ od, h.get? dx = some od ∧ ∀ name, PySem.W.lookIn name od = some (mA name) := by
 obtain ⟨o, es, ep, ho, hd, hk, _, hm⟩ := n
 refine ⟨o, ho, fun name => ?_⟩
 have e := hm name
 unfold nsFind findBy at e
 rw [← Array.find?_toList] at e
 unfold PySem.W.lookIn
 rw [hd]
 dsimp only
 split
 ·rename_i y q
  rw [q] at e
  exact congrArg some e
 ·rename_i q
  rw [q] at e
  have a : es.toList.any (·.refKey) = false := by
   rw [List.any_eq_false]
   intro y hy
   obtain ⟨z, t, hkey⟩ := hk y (Array.mem_toList_iff.mp hy)
   simp [DictEntry.refKey, hkey]
  have a' : ¬ es.toList.any (·.refKey) = true := by rw [a]; exact Bool.false_ne_true
  rw [if_neg a']
  exact congrArg some e
theorem ObjM.look {h : Heap} {x dx C : Addr} {mA : Str → Option Value} (I : ObjM h x dx C mA) : ∃ od, PySem.W.InstAt h x (PySem.W.instObj C dx) C (some od) ∧ ∀ name, PySem.W.lookIn name od = some (mA name) :=
 let ⟨od, ho, hl⟩ := k2e I.ns
 ⟨od, ⟨I.obj, rfl, rfl, ho⟩, hl⟩
section
variable {prog : Program} {w : World} {A : Around} {E : Value → Shared → Prop} {s : Shared} {K : PySem.W.Frag} {x dx C f : Addr} {mA : Str → Option Value} {name : Str} {v : Value}
end
theorem RelO.some_of {v : V} {o : Option Value} (r : RelO (some v) o) : ∃ u, o = some u ∧ RelV v u := by
 cases o with
 | none => exact (show False from r).elim
 | some u => exact ⟨u, rfl, r⟩
section
variable {P : Program} {w : World} {H H' : Hp} {h h' : Heap} {a C dx : Addr} {fs fs' : List (Str × V)}
theorem k83 (hok : HOk P w H h) (e : H a = some (.ins C dx fs)) : ∃ mA, ObjM h a dx C mA ∧ (∀ f, RelO (fs.lookup f) (mA f)) ∧ PySem.Within mA (fs.map (·.1)) ∧ fs.length ≤ 1000 ∧ H dx = some (.own a) := by
 obtain ⟨d, z, ne, ob, mA, n, r, q⟩ := (show ObjOk P w H h a (.ins C dx fs) from hok a _ e)
 exact ⟨mA, ⟨ob, n, ne⟩, r, q, z, d⟩
end
structure Cls (K : PySem.W.Frag) (C : Addr) : Prop where
 pg : PySem.W.plainGet K C Str.empty = true
 hd : PySem.W.hasDictIn K C = true
 po : PySem.W.plainOver K C = true
 sa : PySem.W.findIn K (.ref C) "__setattr__" = some (some (.builtin "object.__setattr__"))
theorem Cls.get {K : PySem.W.Frag} {C : Addr} (c : Cls K C) (f : Str) : PySem.W.plainGet K C f = true := c.pg
section
variable {X : Cx} {pins : List (Addr × Obj)} {σ : St} {H : Hp} {s : Shared} {a C dx : Addr} {fs : List (Str × V)} {f : Str} {v : V} {A : Around} {E : Value → Shared → Prop}
end
section
variable {X : Cx} {o e value : Expr} {f : Str} {pos pos' tpos : Pos} {ta tv : TE}
end
section
variable {X : Cx} {pins : List (Addr × Obj)} {σ : St} {H : Hp} {s : Shared} {A : Around} {E : Value → Shared → Prop} {Q : Value → Shared → Prop} {c : Value} {b : Bool}
inductive TyOf (K : PySem.W.Frag) (H : Hp) : V → Value → Prop where
 | non : TyOf K H .non (.type "NoneType")
 | bl (x : Bool) : TyOf K H (.bl x) (.type "bool")
 | int (i : Int) : TyOf K H (.int i) (.type "int")
 | str (x : Str) : TyOf K H (.str x) (.type "str")
 | flt (x : UInt64) : TyOf K H (.flt x) (.type "float")
 | lst {a : Addr} {xs : List V} (e : H a = some (.lst xs)) : TyOf K H (.ref a) (.type "list")
 | frz {a : Addr} {o : Obj} {xs : List V} (e : H a = some (.frz o (.lst xs))) : TyOf K H (.ref a) (.type "list")
 | tup {a : Addr} {xs : List V} (e : H a = some (.tup xs)) : TyOf K H (.ref a) (.type "tuple")
 | dK {a : Addr} {kvs : List (Key × V)} (e : H a = some (.dK kvs)) : TyOf K H (.ref a) (.type "dict")
 | dT {a : Addr} {kvs : List (List Key × V)} (e : H a = some (.dT kvs)) : TyOf K H (.ref a) (.type "dict")
 | ins {a C dx : Addr} {fs : List (Str × V)} (e : H a = some (.ins C dx fs)) (cl : Cls K C) (ha : PySem.W.findIn K (.ref C) "__class__" = some (some (.builtin "object.__class__")))
   (hn : PySem.W.specialIn K (.builtin "object.__class__") "__get__" = some (some (.builtin "getset_descriptor.__get__"))) (htk : PySem.W.takesIn K (.builtin "object.__class__") = some true)
   (hm : PySem.W.mroIn K C (.type "object") = some true) : TyOf K H (.ref a) (.ref C)
theorem k2p {x : V} {u t : Value} (I : Inv X pins σ H s) (rx : RelV x u) (ty : TyOf X.K H x t) (e : PySem.W.kitOne X.K t c = some b) (h : ∀ tk, Q (.bool b) { s with toks := tk }) :
  wpAny (model X.prog X.w) A (call (.builtin "isinstance") [u, c]) Q E s := by
 cases ty with
 | non => cases (show u = Value.none from rx); exact PySem.W.kia_one PySem.W.kitx_none I.kIn True.intro e (fun z => nomatch z) h
 | bl y => cases (show u = Value.bool y from rx); exact PySem.W.kia_one PySem.W.kitx_bool I.kIn True.intro e (fun z => nomatch z) h
 | int i => obtain ⟨t, q⟩ := (show ∃ t, u = Value.int i t from rx); cases q; exact PySem.W.kia_one PySem.W.kitx_int I.kIn True.intro e (fun z => nomatch z) h
 | str y => obtain ⟨t, q⟩ := (show ∃ t, u = Value.str y t from rx); cases q; exact PySem.W.kia_one PySem.W.kitx_str I.kIn True.intro e (fun z => nomatch z) h
 | flt y => obtain ⟨t, q⟩ := (show ∃ t, u = Value.float y t from rx); cases q; exact PySem.W.kia_one PySem.W.kitx_float I.kIn True.intro e (fun z => nomatch z) h
 | @lst a xs ea =>
  cases (show u = Value.ref a from rx)
  obtain ⟨_, _, n, _, h1⟩ := (show ObjOk X.prog X.w H s.heap a (.lst xs) from I.hok a _ ea)
  exact PySem.W.kia_one PySem.W.kitx_list I.kIn ⟨_, h1, rfl⟩ e (fun z => nomatch z) h
 | @frz a ob xs ea =>
  cases (show u = Value.ref a from rx)
  obtain ⟨_, _, _, n, _, h1⟩ := (show ObjOk X.prog X.w H s.heap a (.frz ob (.lst xs)) from I.hok a _ ea)
  exact PySem.W.kia_one PySem.W.kitx_list I.kIn ⟨_, h1, rfl⟩ e (fun z => nomatch z) h
 | @tup a xs ea =>
  cases (show u = Value.ref a from rx)
  obtain ⟨_, _, _, p⟩ := (show ObjOk X.prog X.w H s.heap a (.tup xs) from I.hok a _ ea)
  obtain ⟨o, h1, h2, _⟩ := p
  exact PySem.W.kia_one PySem.W.kitx_tuple I.kIn ⟨o, h1, h2⟩ e (fun z => nomatch z) h
 | @dK a kvs ea =>
  cases (show u = Value.ref a from rx)
  obtain ⟨_, _, vs, _, p⟩ := (show ObjOk X.prog X.w H s.heap a (.dK kvs) from I.hok a _ ea)
  obtain ⟨o, es, ep, h1, h2, _⟩ := p
  exact PySem.W.kia_one PySem.W.kitx_dict I.kIn ⟨o, h1, h2.1⟩ e (fun z => nomatch z) h
 | @dT a kvs ea =>
  cases (show u = Value.ref a from rx)
  obtain ⟨_, _, xs, _, o, es, ep, h1, h2, _⟩ := (show ObjOk X.prog X.w H s.heap a (.dT kvs) from I.hok a _ ea)
  exact PySem.W.kia_one PySem.W.kitx_dict I.kIn ⟨o, h1, h2.1⟩ e (fun z => nomatch z) h
 | @ins a C dx fs ea cl ha hn htk hm =>
  cases (show u = Value.ref a from rx)
  obtain ⟨mA, O, _⟩ := k83 I.hok ea
  obtain ⟨od, J, _⟩ := O.look
  exact PySem.W.kia_one (PySem.W.kitx_own (cl.get _) cl.hd ha hn htk hm) I.kIn J e (fun z => nomatch z) h
end
end L2
namespace L2
open PySem PySem.Spec PyProof.Rows
structure Room (k : Nat) (A : Around) : Prop where
 hd : A.handled = none
 dp : A.depth + 3 * k + 5 < recursionLimit
 un : A.units + 16 * k + 200 < cLine
theorem Room.mono {j k : Nat} {A : Around} (r : Room k A) (h : j ≤ k) : Room j A := ⟨r.hd, by have := r.dp; omega, by have := r.un; omega⟩
theorem Room.deeper {k : Nat} {A : Around} (r : Room (k + 1) A) (env : Env) : Room k (A.deeper env) :=
 ⟨r.hd, by have := r.dp; show A.depth + 1 + 3 * k + 5 < _; omega, by have := r.un; show A.units + 3 + 16 * k + 200 < _; omega⟩
theorem Room.depth {k : Nat} {A : Around} (r : Room k A) : A.depth < recursionLimit := by have := r.dp; omega
def tNil : TA := fun _ H Q => Q [] H
def q1p (ta : TE) (tr : TA) : TA := fun σ H Q => ta σ H fun x H1 => tr σ H1 fun xs H2 => Q (x :: xs) H2
section
variable {X : Cx} {e : Expr} {es : List Expr} {te : TE} {t : TA} {pos : Pos}
theorem q0v : PA X [] tNil := fun _ _ _ _ H Q I h => Calls.spliced_nil ⟨[], H, I, .nil, h⟩
theorem k6w (ha : PE X e te) (hr : PA X es t) (hs : starEach (e :: es) X.env = (false, eval e X.env) :: starEach es X.env := by rfl) : PA X (e :: es) (q1p te t) := by
 intro pos pins s σ H Q I h
 rw [hs]
 show wpAny _ _ (spliced ((false, eval e X.env) :: backTo pos (starEach es X.env))) _ _ s
 refine Calls.spliced_cons (thn (ha pins s σ H _ I h) fun u s1 ⟨x, H1, I1, r1, q1⟩ => ?_)
 exact thn (hr pos pins s1 σ H1 _ I1 q1) fun us s2 ⟨xs, H2, I2, r2, q2⟩ => ⟨x :: xs, H2, I2, .cons r1 r2, q2⟩
def tTup (t : TA) : TE := fun σ H Q => t σ H fun xs H1 => xs.length ≤ sizeLine ∧ ∀ p, H1 p = none → Q (.ref p) (upd H1 p (.tup xs))
def tLst (t : TA) : TE := fun σ H Q => t σ H fun xs H1 => xs.length ≤ sizeLine ∧ ∀ p, H1 p = none → Q (.ref p) (upd H1 p (.lst xs))
theorem k98 {x1} (h : PA X es t) : PE X (.Tuple es x1 pos) (tTup t) := by
 intro pins s σ H Q I hq
 refine wpAny_Tuple_spliced (thn (h pos pins s σ H _ I hq) fun us s1 ⟨xs, H1, I1, r, z, q⟩ => ⟨by rw [← r.length]; exact z, ?_⟩)
 have hf : H1 s1.heap.objs.size = none := I1.hok.fresh (Nat.le_refl _)
 refine ⟨.ref s1.heap.objs.size, upd H1 s1.heap.objs.size (.tup xs), I1.laid (t' := s1.toks) (fun b u e => Heap.get?_push_of_some _ e) (Nat.le_refl _) ?_, rfl, q _ hf⟩
 exact ⟨z, us, r, ⟨_, Heap.get?_push_size _ rfl, rfl, _, rfl⟩⟩
theorem k99 (h : PA X es t) : PE X (.List es pos) (tLst t) := by
 intro pins s σ H Q I hq
 refine wpAny_List_spliced (thn (h pos pins s σ H _ I hq) fun us s1 ⟨xs, H1, I1, r, z, q⟩ => ⟨by rw [← r.length]; exact z, ?_⟩)
 have hf : H1 s1.heap.objs.size = none := I1.hok.fresh (Nat.le_refl _)
 refine ⟨.ref s1.heap.objs.size, upd H1 s1.heap.objs.size (.lst xs), I1.laid (t' := s1.toks) (fun b u e => Heap.get?_push_of_some _ e) (Nat.le_refl _) ?_, rfl, q _ hf⟩
 exact ⟨z, us, 0, r, Heap.get?_push_size _ rfl⟩
end
abbrev Sp := List V → Hp → VK → XK → Prop
abbrev CXT := List Env → Hp → Shared → XK → Value → Shared → Prop
structure Env0 (P : Program) (w : World) (K : PySem.W.Frag) (mg : Str → Option Value) (base : Heap) (A : Around) (outer : List Env) (s : Shared) (H : Hp) : Prop where
 frames : A.frames = some outer
 mod : Mod K mg base
 bs : ∀ b o, base.get? b = some o → s.heap.get? b = some o ∧ H b = none
 bsz : base.objs.size ≤ s.heap.objs.size
 funs : s.heap.FunFrames base outer
 frf : ∀ b ∈ frs outer, H b = none
 hok : HOk P w H s.heap
 bare : AllBare s.gens
def CE (outer : List Env) (P : Program) (w : World) (H : Hp) (s : Shared) (Q : VK) (u : Value) (s' : Shared) : Prop :=
 ∃ v H', s'.os = s.os ∧ AllBare s'.gens ∧ Un (frs outer) [] H H' s.heap s'.heap ∧ HOk P w H' s'.heap ∧ RelV v u ∧ Q v H'
def CR (CX : CXT) (outer : List Env) (P : Program) (w : World) (H : Hp) (s : Shared) (Q : VK) (E : XK) (r : Result) (s' : Shared) : Prop :=
 match r with
 | .ok (.ret u) => CE outer P w H s Q u s'
 | .ok _ => False
 | .error e => CX outer H s E e s'
structure FnOk (P : Program) (w : World) (K : PySem.W.Frag) (mg : Str → Option Value) (base : Heap) (CX : CXT) (k : Nat) (f : Addr) (fd : FuncData) (ps : List Str) (sp : Sp) : Prop where
 len : ∀ vs H Q E, sp vs H Q E → vs.length = ps.length
 run : ∀ (A : Around) (outer : List Env) (s : Shared) (H : Hp) (args : Args) (us : List Value) (vs : List V) (Q : VK) (E : XK), Room k A → Env0 P w K mg base A outer s H → BindsTo s fd args (ps.zip us) → Vals vs us → sp vs H Q E →
  codeAny (model P w) A (.call (.ref f) args) (CR CX outer P w H s Q E) s
theorem FnOk.mono {P : Program} {w : World} {K : PySem.W.Frag} {mg : Str → Option Value} {base : Heap} {CX : CXT} {j k : Nat} {f : Addr} {fd : FuncData} {ps : List Str} {sp : Sp} (F : FnOk P w K mg base CX j f fd ps sp) (h : j ≤ k) :
  FnOk P w K mg base CX k f fd ps sp := ⟨F.len, fun A outer s H args us vs Q E hr => F.run A outer s H args us vs Q E (hr.mono h)⟩
section
variable {X : Cx} {pins : List (Addr × Obj)} {σ : St} {H : Hp} {s s' : Shared}
theorem Inv.env0 (I : Inv X pins σ H s) : Env0 X.prog X.w X.K X.mg X.base X.A X.stack s H :=
 ⟨I.ok.frames, I.ok.mod, I.bs, Nat.le_trans I.ok.bsz I.sz, I.stack, I.stkFree, I.hok, I.bare⟩
theorem Inv.after {Q : VK} {u : Value} (I : Inv X pins σ H s) (h : CE X.stack X.prog X.w H s Q u s') : EP X pins σ Q u s' := by
 obtain ⟨v, H', os, bare, un, hok, r, q⟩ := h
 obtain ⟨hh, g, d, t, os'⟩ := s'
 obtain rfl : os' = s.os := os
 exact ⟨v, H', I.call (h' := hh) (g' := g) (d' := d) (t' := t) (ch := []) un hok bare (fun b z => absurd z (by simp)), r, q⟩
end
def q0e (sp : Sp) (dvs : List V) (E : XK) (t : TA) : TE := fun σ H Q => t σ H fun vs H1 => sp (vs ++ dvs) H1 Q E
def Binds (K : PySem.W.Frag) (fd : FuncData) (ps : List Str) (ds : List Value) : Prop :=
 ∀ (s : Shared) (us : List Value), K.In s.heap → (us ++ ds).length = ps.length → BindsTo s fd ⟨us, []⟩ (ps.zip (us ++ ds))
theorem Binds.all {K : PySem.W.Frag} {fd : FuncData} {ps : List Str} (h : ∀ us : List Value, us.length = ps.length → bindArgs fd ⟨us, []⟩ = pure (ps.zip us)) : Binds K fd ps [] := fun s us _ hl => by
 rw [List.append_nil] at hl ⊢
 exact .of_eq (h us hl)
def j8c (CX : CXT) (X : Cx) (E : XK) : Prop := ∀ (pins : List (Addr × Obj)) (σ : St) (H : Hp) (s : Shared) (e : Value) (s' : Shared), Inv X pins σ H s → CX X.stack H s E e s' → X.xe e s'
section
variable {X : Cx} {CX : CXT} {k : Nat} {f C : Addr} {fd : FuncData} {ps : List Str} {sp : Sp} {dvs : List V} {ds : List Value} {E : XK} {x m : Str} {p pos apos : Pos} {e o : Expr} {es : List Expr} {ta : TE} {t : TA}
theorem q0p {pins : List (Addr × Obj)} {σ : St} {H : Hp} {s : Shared} {Q : VK} {us : List Value} {vs : List V} (F : FnOk X.prog X.w X.K X.mg X.base CX k f fd ps sp) (hr : Room k X.A) (hb : Binds X.K fd ps ds) (hd : Vals dvs ds) (hx : j8c CX X E)
  (I : Inv X pins σ H s) (r : Vals vs us) (h : sp (vs ++ dvs) H Q E) : wpAny (model X.prog X.w) X.A (call (.ref f) us) (EP X pins σ Q) X.xe s := by
 have r2 : Vals (vs ++ dvs) (us ++ ds) := r.append hd
 have hl : (us ++ ds).length = ps.length := by rw [← r2.length]; exact F.len _ _ _ _ h
 refine wpAny_call (codeAny_mono (F.run X.A X.stack s H ⟨us, []⟩ (us ++ ds) (vs ++ dvs) Q E hr I.env0 (hb s us I.kIn hl) r2 h) fun r s' hq => ?_)
 cases r with
 | error e => exact hx pins σ H s e s' I hq
 | ok fl =>
  cases fl with
  | ret u => exact I.after hq
  | next => exact False.elim hq
  | brk => exact False.elim hq
  | cont => exact False.elim hq
theorem k82 (F : FnOk X.prog X.w X.K X.mg X.base CX k f fd ps sp) (hr : Room k X.A) (hg : Gl X x) (hm : X.mg x = some (.ref f)) (hk : PySem.W.keepIn X.K (.ref f) = true) (hb : Binds X.K fd ps ds) (hd : Vals dvs ds) (hx : j8c CX X E)
  (ha : PA X (e :: es) t) (hdb : (x == ("__debug__" : Str)) = false := by decide) (he : starEach (e :: es) X.env = (false, eval e X.env) :: starEach es X.env := by rfl) (hpl : (backTo pos (starEach es X.env)).any (·.1) = false := by rfl) :
  PE X (.Call (.Name x p) (e :: es) [] pos) (q0e sp dvs E t) := by
 intro pins s σ H Q I h
 refine wpAny_Call_Name_kw (k67 I hg hm ?_ hdb)
 refine PySem.W.callWith_K (h₀ := X.base) I.ok.mod.kin hk (thn (ha pos pins s σ H _ I h) fun us s1 ⟨vs, H1, I1, r, q⟩ => ⟨I1.kIn, ?_⟩) he hpl
 exact q0p F hr hb hd hx I1 r q
end
section
variable {X : Cx} {CX : CXT} {k : Nat} {f C : Addr} {fd : FuncData} {ps ks : List Str} {sp : Sp} {E : XK} {x m : Str} {p pos apos kpos : Pos} {e o : Expr} {es : List Expr} {kws : List Keyword} {te ta : TE} {t tk : TA} {nm : Option Str}
variable {g : List Value → List Value → List Value} {gV : List V → List V → List V}
end
structure FnScope (N P : List Str) (sc : Scope) : Prop where
 kind : sc.kind = .function
 co : sc.isCoroutine = false
 gen : sc.isGenerator = false
 nd : N.Nodup
 pre : N.take P.length = P
 par : ∀ x ∈ P, sc.names.lookup x = some .local ∨ sc.names.lookup x = some .cell
 nofree : ∀ y ∈ sc.names, y.2 ≠ .free
theorem j7k {kindOf : Str → Option NameKind} {x : Str} : ∀ {binds : List (Str × Value)} {m : Str → Option Value}, (∀ v, (x, v) ∉ binds) → bindL kindOf binds m x = m x
 | [], _, _ => rfl
 | (n, v) :: r, m, h => by
  unfold bindL
  rw [j7k fun w hw => h w (List.mem_cons_of_mem _ hw)]
  split
  ·have : x ≠ n := by rintro rfl; exact h v List.mem_cons_self
   simp [this]
  ·rfl
theorem j7j {kindOf : Str → Option NameKind} {x : Str} : ∀ {binds : List (Str × Value)} {m : Str → Option Value}, (∀ v, (x, v) ∉ binds) → bindC kindOf binds m x = m x
 | [], _, _ => rfl
 | (n, v) :: r, m, h => by
  unfold bindC
  rw [j7j fun w hw => h w (List.mem_cons_of_mem _ hw)]
  split
  ·rfl
  ·have : x ≠ n := by rintro rfl; exact h v List.mem_cons_self
   simp [this]
theorem j7u {kindOf : Str → Option NameKind} {x : Str} {v : Value} : ∀ {P : List Str} {vs : List Value} {i : Nat} {m : Str → Option Value}, P.Nodup → P[i]? = some x → vs[i]? = some v → kindOf x = some .local →
  bindL kindOf (P.zip vs) m x = some v
 | [], _, _, _, _, h, _, _ => by simp at h
 | _ :: _, [], _, _, _, _, h, _ => by simp at h
 | p :: P, w :: vs, 0, m, nd, h1, h2, hk => by
  simp at h1 h2; subst h1; subst h2
  show bindL kindOf ((p, w) :: P.zip vs) m p = _
  unfold bindL
  rw [j7k fun v hv => (List.nodup_cons.mp nd).1 (List.of_mem_zip hv).1, if_pos hk]
  simp
 | p :: P, w :: vs, i + 1, m, nd, h1, h2, hk => by
  show bindL kindOf ((p, w) :: P.zip vs) m x = _
  unfold bindL
  exact j7u (i := i) (List.nodup_cons.mp nd).2 (by simpa using h1) (by simpa using h2) hk
theorem j7g {kindOf : Str → Option NameKind} {x : Str} {v : Value} : ∀ {P : List Str} {vs : List Value} {i : Nat} {m : Str → Option Value}, P.Nodup → P[i]? = some x → vs[i]? = some v → kindOf x ≠ some .local →
  bindC kindOf (P.zip vs) m x = some v
 | [], _, _, _, _, h, _, _ => by simp at h
 | _ :: _, [], _, _, _, _, h, _ => by simp at h
 | p :: P, w :: vs, 0, m, nd, h1, h2, hk => by
  simp at h1 h2; subst h1; subst h2
  show bindC kindOf ((p, w) :: P.zip vs) m p = _
  unfold bindC
  rw [j7j fun v hv => (List.nodup_cons.mp nd).1 (List.of_mem_zip hv).1, if_neg hk]
  simp
 | p :: P, w :: vs, i + 1, m, nd, h1, h2, hk => by
  show bindC kindOf ((p, w) :: P.zip vs) m x = _
  unfold bindC
  exact j7g (i := i) (List.nodup_cons.mp nd).2 (by simpa using h1) (by simpa using h2) hk
def start (N : List Str) (vs : List V) : St := vs.map some ++ List.replicate (N.length - vs.length) none
def cxOf (CX : CXT) (P : Program) (w : World) (K : PySem.W.Frag) (mg : Str → Option Value) (base : Heap) (N : List Str) (qual : Str) (scope : Scope) (f : Addr) (cd : Value) (A : Around) (outer : List Env) (s : Shared) (H : Hp) (E : XK) : Cx where
 prog := P
 w := w
 K := K
 mg := mg
 base := base
 A := A.deeper (envOfC qual scope s.heap.objs.size f cd)
 N := N
 s₀ := s
 H₀ := H
 env := envOfC qual scope s.heap.objs.size f cd
 outer := outer
 stack := envOfC qual scope s.heap.objs.size f cd :: outer
 ex := []
 calm := true
 fn := fun _ => true
 pn := []
 xe := fun e s' => wpAny (model P w) (A.deeper (envOfC qual scope s.heap.objs.size f cd)) (leaving (envOfC qual scope s.heap.objs.size f cd) e) (fun _ s'' => CX outer H s E e s'') (fun e' s'' => CX outer H s E e' s'') s'
theorem j9p {sc : Scope} {n : Nat} {x : Str} (h : sc.names.lookup x = some .cell) : ∃ c, (cellsFrom n sc.names []).lookup x = some c := by
 have q := PySem.W.cellsFrom_some sc.names n [] (.inl h)
 exact Option.isSome_iff_exists.mp q
theorem k2x {CX : CXT} {P : Program} {w : World} {K : PySem.W.Frag} {mg : Str → Option Value} {base : Heap} {N ps : List Str} {qual : Str} {scope : Scope} {f : Addr} {cd : Value} {A : Around} {outer : List Env} {s s1 : Shared} {H : Hp} {E : XK} {us : List Value} {vs : List V}
  (S : FnScope N ps scope) (hd : A.handled = none) (e0 : Env0 P w K mg base A outer s H) (hl : vs.length = ps.length) (r : Vals vs us)
  (x : InCallC s s.heap.objs.size (bindL (envOfC qual scope s.heap.objs.size f cd).kindOf (ps.zip us) fun _ => none) (cellsFrom (s.heap.objs.size + 1) scope.names []) (bindC (envOfC qual scope s.heap.objs.size f cd).kindOf (ps.zip us) fun _ => none) s1) :
  Inv (cxOf CX P w K mg base N qual scope f cd A outer s H E) [] (start N vs) H s1 := by
 have hpl : ps.length ≤ N.length := by have := congrArg List.length S.pre; rw [List.length_take] at this; omega
 obtain ⟨h1, tk, rfl, hk⟩ := x.done
 have noA : ∀ b : Addr, b ∉ (cxOf CX P w K mg base N qual scope f cd A outer s H E).ex := fun b z => absurd (show b ∈ ([] : List Addr) from z) (by simp)
 refine ⟨⟨e0.mod, S.kind, rfl, rfl, Nat.le_refl _, fun y z c h1 h2 => ?_, fun y hy => ?_, fun y c _ h => ?_, fun _ => hd, Around.frames_deeper e0.frames, .inr ⟨rfl, rfl⟩, fun b z => absurd z (noA b), e0.bs, e0.bsz, fun b _ _ => noA b, fun b z => absurd z (noA b), e0.funs, e0.frf⟩,
  rfl, e0.bare, Un.kept hk, ⟨_, x.toInCall.ns, fun i y v h1 h2 h3 => ?_⟩, fun y c h => ⟨_, x.cell y c h⟩, e0.hok.fresh (Nat.le_refl _), fun y c h => ?_, fun p hp => absurd (show p ∈ ([] : List (Addr × Obj)) from hp) (by simp), e0.hok.kept hk, ?_⟩
 ·exact name_of_addr x.apart (PySem.mem_of_lookup h1) (PySem.mem_of_lookup h2)
 ·have hy : scope.names.lookup y = some .cell ∨ scope.names.lookup y = some .free := hy
  rcases hy with hy | hy
  ·exact j9p hy
  ·exact absurd rfl (S.nofree _ (PySem.mem_of_lookup hy))
 ·exact Nat.le_of_lt (x.above y c (PySem.mem_of_lookup h))
 ·have hi : i < vs.length := by
   unfold start at h2
   by_cases hi : i < vs.length
   ·exact hi
   ·rw [List.getElem?_append_right (by simpa using hi)] at h2
    rw [List.getElem?_replicate] at h2
    split at h2 <;> cases h2
  have ha : vs[i]? = some v := by
   unfold start at h2
   rw [List.getElem?_append_left (by simpa using hi), List.getElem?_map] at h2
   cases e : vs[i]? with
   | none => rw [e] at h2; cases h2
   | some a => rw [e] at h2; cases h2; rfl
  obtain ⟨u, hu, rv⟩ := r.get ha
  have hp : ps[i]? = some y := by
   rw [← S.pre, List.getElem?_take_of_lt (by omega)]; exact h1
  have ndP : ps.Nodup := by rw [← S.pre]; exact S.nd.sublist (List.take_sublist _ _)
  refine ⟨u, rv, ?_⟩
  rcases S.par y (List.mem_of_getElem? hp) with k | k
  ·exact .inl ⟨k, j7u ndP hp hu k⟩
  ·obtain ⟨c, e⟩ := j9p (n := s.heap.objs.size + 1) k
   refine .inr ⟨.inl k, c, e, ?_⟩
   have q := x.cell y c e
   rw [j7g ndP hp hu (by show scope.names.lookup y ≠ _; rw [k]; decide)] at q
   exact q
 ·exact e0.hok.fresh (Nat.le_of_lt (x.above y c (PySem.mem_of_lookup h)))
 ·unfold start
  show _ = N.length
  rw [List.length_append, List.length_map, List.length_replicate]
  omega
theorem q2b {CX : CXT} {P : Program} {w : World} {K : PySem.W.Frag} {mg : Str → Option Value} {base : Heap} {k : Nat} {f : Addr} {name qual : Str} {params : Arguments} {body : List Stmt} {scope : Scope} {dV kV doc pm cdv ct oc : Value} {an od : Option Addr}
  {osl : Array (Option Value)} {N ps : List Str} {sp : Sp} (lk : K.lookup f = some ⟨oc, od, .func (PySem.W.fnOf name qual params body scope dV kV doc pm an cdv ct), osl⟩) (hcd : PySem.W.codeIn K cdv qual = true) (S : FnScope N ps scope)
  (len : ∀ vs H Q E, sp vs H Q E → vs.length = ps.length)
  (hbody : ∀ (A : Around) (outer : List Env) (s : Shared) (H : Hp) (vs : List V) (Q : VK) (E : XK), Room k (A.deeper (envOfC qual scope s.heap.objs.size f cdv)) → sp vs H Q E →
   ∃ t, PSs (cxOf CX P w K mg base N qual scope f cdv A outer s H E) body t ∧ t { nx := fun _ H' => Q .non H', rt := Q } (start N vs) H) :
  FnOk P w K mg base CX (k + 1) f (PySem.W.fnOf name qual params body scope dV kV doc pm an cdv ct) ps sp := by
 refine ⟨len, fun A outer s H args us vs Q E hr e0 hb r hsp => ?_⟩
 have hl := len _ _ _ _ hsp
 have KX : K.In s.heap := e0.mod.kin.keeps fun b o e => (e0.bs b o e).1
 have lim : s.heap.NoLimit := e0.mod.nolimit.keeps fun b o e => (e0.bs b o e).1
 have hkind : ∀ y ∈ ps.zip us, scope.names.lookup y.1 = some .local ∨ (scope.names.lookup y.1 = some .cell ∧ ((cellsFrom (s.heap.objs.size + 1) scope.names []).lookup y.1).isSome = true) := fun ⟨n, v⟩ hy => by
  rcases S.par n (List.of_mem_zip hy).1 with q | q
  ·exact .inl q
  ·exact .inr ⟨q, PySem.W.cellsFrom_some _ _ _ (.inl q)⟩
 refine codeAny_call_function hr.depth (KX _ _ lk) rfl S.co S.gen rfl (PySem.W.codeRec_of KX hcd) (hb _ _ _ _ ?_)
 refine wpAny_newFunctionEnv_cells S.kind hkind fun env he s1 x => ?_
 subst he
 refine ⟨lim.keeps x.toInCall.keep, codeAny_func ?_⟩
 obtain ⟨t, ht, hq⟩ := hbody A outer s H vs Q E (hr.deeper _) hsp
 have I : Inv (cxOf CX P w K mg base N qual scope f cdv A outer s H E) [] (start N vs) H s1 := k2x S hr.hd e0 hl r x
 refine wpAny_mono (ht [] s1 (start N vs) H _ I hq) (fun fl s' hs => ?_) fun e s' hs => hs
 have fin : ∀ {σ' : St} {H' : Hp} {v : V} {u : Value}, Inv (cxOf CX P w K mg base N qual scope f cdv A outer s H E) [] σ' H' s' → RelV v u → Q v H' → CE outer P w H s Q u s' :=
  fun {σ' H' v u} J rv q => ⟨v, H', J.os, J.bare, J.base, J.hok, rv, q⟩
 cases fl with
 | ret u =>
  obtain ⟨v, σ', H', J, rv, q⟩ := hs
  exact fin J rv q
 | next =>
  obtain ⟨σ', H', J, q⟩ := hs
  exact fin (v := V.non) (u := Value.none) J rfl q
 | brk =>
  obtain ⟨_, _, _, q⟩ := hs
  exact False.elim q
 | cont =>
  obtain ⟨_, _, _, q⟩ := hs
  exact False.elim q
end L2
namespace L2
open PySem PySem.Spec PyProof.Rows
section
variable {X : Cx} {x : Str} {p pos : Pos} {e : Expr} {es : List Expr} {t : TA} {id T : String} {r : List V → Hp → VK → Prop}
def tCB (r : List V → Hp → VK → Prop) (t : TA) : TE := fun σ H Q => t σ H fun vs H1 => r vs H1 Q
theorem k5j (hc : j3z X (.builtin id) r) (hg : Gl X x) (hm : X.mg x = none) (hv : bootBuiltins x = some (.builtin id)) (ha : PA X (e :: es) t) (hn : x ≠ "__name__" := by decide) (hdb : (x == ("__debug__" : Str)) = false := by decide)
  (he : starEach (e :: es) X.env = (false, eval e X.env) :: starEach es X.env := by rfl) (hpl : (backTo pos (starEach es X.env)).any (·.1) = false := by rfl) : PE X (.Call (.Name x p) (e :: es) [] pos) (tCB r t) := by
 intro pins s σ H Q I h
 refine wpAny_Call_Name_kw (j4p I hg hm hv ?_ hn hdb)
 exact PyProof.Rows.callWith_builtin1 (thn (ha pos pins s σ H _ I h) fun us s1 ⟨vs, H1, I1, r1, q1⟩ => hc pins s1 σ H1 vs us Q I1 r1 q1) he hpl
theorem k3k (hc : j3z X (.type T) r) (hg : Gl X x) (hm : X.mg x = none) (hv : bootBuiltins x = some (.type T)) (ha : PA X (e :: es) t) (hn : x ≠ "__name__" := by decide) (hdb : (x == ("__debug__" : Str)) = false := by decide)
  (he : starEach (e :: es) X.env = (false, eval e X.env) :: starEach es X.env := by rfl) (hpl : (backTo pos (starEach es X.env)).any (·.1) = false := by rfl) : PE X (.Call (.Name x p) (e :: es) [] pos) (tCB r t) := by
 intro pins s σ H Q I h
 refine wpAny_Call_Name_kw (j4p I hg hm hv ?_ hn hdb)
 exact PyProof.Rows.callWith_type1 (thn (ha pos pins s σ H _ I h) fun us s1 ⟨vs, H1, I1, r1, q1⟩ => hc pins s1 σ H1 vs us Q I1 r1 q1) he hpl
end
end L2
namespace HT
open PySem PyProof.Rows
section
open PySem.SeqAt
open PySem.AutoSeq1 (wpAny_loadPart')
open PySem.MeetsSeq PySem.MeetsSeq2 PySem.MeetsSeq3
end
section
variable {prog : Program} {w : World} {A : Around} {E : Value → Shared → Prop} {s : Shared}
def sIx (n d : Nat) : Option Int → Nat
 | none => d
 | some v => if v < 0 then (v + (n : Int)).toNat else min v.toNat n
theorem sIx_none (n d : Nat) : sIx n d none = d := rfl
theorem sIx_nat (n d k : Nat) : sIx n d (some (k : Int)) = min k n := by
 show (if (k : Int) < 0 then ((k : Int) + (n : Int)).toNat else min (k : Int).toNat n) = min k n
 rw [if_neg (by omega), Int.toNat_natCast]
end
end HT
namespace L2
open PySem PySem.Spec PyProof.Rows
abbrev TO := St → Hp → (Option Int → Hp → Prop) → Prop
def PO (X : Cx) (e : Option Expr) (t : TO) : Prop :=
 ∀ (pins : List (Addr × Obj)) (s : Shared) (σ : St) (H : Hp) (Q : Option Int → Hp → Prop), Inv X pins σ H s → t σ H Q →
  wpAny (model X.prog X.w) X.A (evalPart e X.env) (fun u s' => ∃ o H', Inv X pins σ H' s' ∧ IsPart u o ∧ Q o H') X.xe s
def k8o : TO := fun _ H Q => Q none H
def q2f (t : TE) : TO := fun σ H Q => t σ H fun x H1 => ∃ i, x = .int i ∧ Q (some i) H1
section
variable {X : Cx} {e : Expr} {te : TE} {lo hi : Option Expr} {tl th : TO} {pos p2 : Pos}
theorem k63 : PO X none k8o := by
 intro pins s σ H Q I h
 rw [evalPart_none]
 exact wpAny_pure ⟨none, H, I, .none, h⟩
theorem k8a (h : PE X e te) : PO X (some e) (q2f te) := by
 intro pins s σ H Q I hw
 rw [evalPart_some]
 refine thn (h pins s σ H _ I hw) fun u s1 ⟨x, H1, I1, r1, q1⟩ => ?_
 obtain ⟨i, rfl, q⟩ := q1
 obtain ⟨t, rfl⟩ := r1
 exact ⟨some i, H1, I1, .int i t, q⟩
def SlR (X : Cx) (r : V → Option Int → Option Int → Hp → VK → Prop) : Prop :=
 ∀ (pins : List (Addr × Obj)) (s : Shared) (σ : St) (H : Hp) (x : V) (v vl vu : Value) (lo hi : Option Int) (sl : Addr) (Q : VK), Inv X pins σ H s → RelV x v → s.heap.IsSliceOf sl vl vu .none → IsPart vl lo → IsPart vu hi → r x lo hi H Q →
  ∃ T id, typeLookup (.type T) "__getitem__" = pure (some (.builtin id)) ∧ s.TypeIs v T ∧ wpAny (model X.prog X.w) X.A (getItem v (.ref sl)) (EP X pins σ Q) X.xe s
def tSl (r : V → Option Int → Option Int → Hp → VK → Prop) (te : TE) (tl th : TO) : TE := fun σ H Q => te σ H fun x H1 => tl σ H1 fun l H2 => th σ H2 fun u H3 => r x l u H3 Q
theorem k39 {r : V → Option Int → Option Int → Hp → VK → Prop} (hr : SlR X r) (he : PE X e te) (hl : PO X lo tl) (hu : PO X hi th) : PE X (.Subscript e (.Slice lo hi none p2) pos) (tSl r te tl th) := by
 intro pins s σ H Q I h
 refine Subscript_ (thn (he pins s σ H _ I h) fun v s1 ⟨x, H1, I1, r1, q1⟩ => ?_)
 refine wpAny_Slice (thn (hl pins s1 σ H1 _ I1 q1) fun vl s2 ⟨l, H2, I2, pl, q2⟩ => thn (hu pins s2 σ H2 _ I2 q2) fun vu s3 ⟨u, H3, I3, pu, q3⟩ => ?_)
 rw [evalPart_none]
 refine wpAny_pure ?_
 have I4 : Inv X pins σ H3 { s3 with heap := s3.heap.push { cls := .type "slice", data := .fields #[vl, vu, .none] } } := I3.kept (t' := s3.toks) fun b ob q => Heap.get?_push_of_some _ q
 obtain ⟨T, id, hT, ht, hg⟩ := hr pins { s3 with heap := s3.heap.push { cls := .type "slice", data := .fields #[vl, vu, .none] } } σ H3 x v vl vu l u s3.heap.objs.size Q I4 r1 (Heap.IsSliceOf.new ..) pl pu q3
 show wpAny (model X.prog X.w) X.A (subscriptTail e (.Slice lo hi none p2) v (.ref s3.heap.objs.size)) (EP X pins σ Q) X.xe { s3 with heap := s3.heap.push { cls := .type "slice", data := .fields #[vl, vu, .none] } }
 exact tail_any (ops := [.ref s3.heap.objs.size, v]) ht hT hg (by with_unfolding_all rfl)
def cutV (xs : List V) (lo hi : Option Int) : List V := (xs.drop (HT.sIx xs.length 0 lo)).take (HT.sIx xs.length xs.length hi - HT.sIx xs.length 0 lo)
theorem j8z (xs : List V) (lo hi : Option Int) : (cutV xs lo hi).length ≤ xs.length := by
 unfold cutV
 rw [List.length_take, List.length_drop]
 omega
end
end L2
namespace L2
open PySem PySem.Spec PyProof.Rows
def ixN (n : Nat) (i : Int) : Option Nat := if 0 ≤ i then (if i < n then some i.toNat else none) else if -(n : Int) ≤ i then some (i + n).toNat else none
def atI {α : Type} (xs : List α) (i : Int) : Option α := (ixN xs.length i).bind fun j => xs[j]?
theorem k7l {n : Nat} {i : Int} {j : Nat} (h : ixN n i = some j) : seqIndex? i n = some j ∧ j < n ∧ -(n : Int) ≤ i ∧ i < n := by
 unfold ixN at h
 by_cases h0 : 0 ≤ i
 ·rw [if_pos h0] at h
  by_cases h1 : i < n
  ·rw [if_pos h1] at h
   have e : i.toNat = j := Option.some.inj h
   exact ⟨by rw [seqIndex_of h0 h1, e], by omega, by omega, h1⟩
  ·rw [if_neg h1] at h; cases h
 ·rw [if_neg h0] at h
  by_cases h1 : -(n : Int) ≤ i
  ·rw [if_pos h1] at h
   have e : (i + n).toNat = j := Option.some.inj h
   exact ⟨by rw [seqIndex_neg (by omega) h1, e], by omega, h1, by omega⟩
  ·rw [if_neg h1] at h; cases h
theorem j8m {α : Type} {xs : List α} {i : Int} {v : α} (h : atI xs i = some v) : ∃ j, seqIndex? i xs.length = some j ∧ xs[j]? = some v ∧ j < xs.length ∧ -(xs.length : Int) ≤ i ∧ i < xs.length := by
 unfold atI at h
 cases e : ixN xs.length i with
 | none => rw [e] at h; cases h
 | some j =>
  rw [e] at h
  obtain ⟨h1, h2, h3, h4⟩ := k7l e
  exact ⟨j, h1, h, h2, h3, h4⟩
theorem j4c {α : Type} {xs : List α} {j : Nat} {v : α} (h : xs[j]? = some v) : atI xs (j : Int) = some v := by
 have hj : j < xs.length := (List.getElem?_eq_some_iff.mp h).1
 have e : ixN xs.length (j : Int) = some j := by
  unfold ixN
  rw [if_pos (by omega), if_pos (by omega)]; simp
 unfold atI; rw [e]; exact h
theorem k46 {α : Type} (xs : List α) (v : α) : atI (xs ++ [v]) (-1) = some v := by
 have hl : (xs ++ [v]).length = xs.length + 1 := by simp
 have e : ixN (xs ++ [v]).length (-1) = some xs.length := by
  unfold ixN
  rw [hl, if_neg (by decide), if_pos (by omega)]
  congr 1
  omega
 unfold atI
 rw [e]
 show (xs ++ [v])[xs.length]? = some v
 simp
def k2i (b : Expr) : Prop := ∀ o i, subscripted b false o i = operate [o, i] (getItem o i)
def IxR (X : Cx) (r : R2) : Prop :=
 ∀ (value slice : Expr) (pins : List (Addr × Obj)) (s : Shared) (σ : St) (H : Hp) (x y : V) (v u : Value) (Q : VK), Inv X pins σ H s → RelV x v → RelV y u → r x y H Q →
  subscripted slice false v u = operate [v, u] (getItem v u) → wpAny (model X.prog X.w) X.A (subscriptTail value slice v u) (EP X pins σ Q) X.xe s
def MtR (X : Cx) (id : String) (r : V → List V → Hp → VK → Prop) : Prop :=
 ∀ (pins : List (Addr × Obj)) (s : Shared) (σ : St) (H : Hp) (x : V) (xs : List V) (v : Value) (us : List Value) (Q : VK), Inv X pins σ H s → RelV x v → Vals xs us → r x xs H Q →
  wpAny (model X.prog X.w) X.A (call (.builtin id) (v :: us)) (EP X pins σ Q) X.xe s
section
variable {X : Cx} {a b : Expr} {ta tb : TE} {pos : Pos}
theorem q2m {r : R2} (hr : IxR X r) (ha : PE X a ta) (hb : PE X b tb) (hs : k2i b) : PE X (.Subscript a b pos) (tOp r ta tb) := by
 intro pins s σ H Q I h
 exact Subscript_ (binT ha hb I h fun v u s2 x y H2 I2 rx ry q => hr a b pins s2 σ H2 x y v u Q I2 rx ry q (hs _ _))
def rIxL (K : PySem.W.Frag) : R2 := fun x y H Q => ∃ p xs i v, x = .ref p ∧ y = .int i ∧ SqL K H p xs ∧ atI xs i = some v ∧ Q v H
def rIxT (K : PySem.W.Frag) : R2 := fun x y H Q => ∃ p xs i v, x = .ref p ∧ y = .int i ∧ SqT K H p xs ∧ atI xs i = some v ∧ Q v H
def rIxS : R2 := fun x y H Q => ∃ z i c, x = .str z ∧ y = .int i ∧ z.length ≤ sizeLine ∧ atI z.cps.toList i = some c ∧ Q (.str ⟨#[c]⟩) H
theorem j0x : IxR X (rIxL X.K) := by
 intro value slice pins s σ H x y v u Q I rx ry h hs
 obtain ⟨p, xs, i, z, rfl, rfl, hq, he, q⟩ := h
 cases rx
 obtain ⟨t, rfl⟩ := ry
 obtain ⟨its, r, pl, hz⟩ := I.list hq
 obtain ⟨j, h1, h2, h3, h4, h5⟩ := j8m he
 obtain ⟨w, ew, rw'⟩ := r.get h2
 have hl := r.length
 have hn := j71
 have fin : EP X pins σ Q w s := ⟨z, H, I, rw', q⟩
 by_cases h0 : 0 ≤ i
 ·have hj : i.toNat = j := by
   rw [seqIndex_of h0 h5] at h1
   exact Option.some.inj h1
  exact item_listR pl.isList h0 (by omega) (by rw [hj]; simpa using ew) fin hs
 ·have hj : (i + (its.toArray.size : Int)).toNat = j := by
   rw [seqIndex_neg (by omega) h4] at h1
   rw [List.size_toArray, ← hl]
   exact Option.some.inj h1
  exact subscriptTail_builtinR (x := w) pl.isList.typeIs slot_list_getitem.lookup
   (wpAny_getItem_list_neg (Q := fun r s' => r = w ∧ EP X pins σ Q r s') pl.isList (by omega) (by rw [List.size_toArray] <;> omega) (by omega) (by rw [hj]; simpa using ew) ⟨rfl, fin⟩) hs
theorem j0z : IxR X (rIxT X.K) := by
 intro value slice pins s σ H x y v u Q I rx ry h hs
 obtain ⟨p, xs, i, z, rfl, rfl, hq, he, q⟩ := h
 cases rx
 obtain ⟨t, rfl⟩ := ry
 obtain ⟨its, r, pl, hz⟩ := I.tuple hq
 obtain ⟨j, h1, h2, h3, h4, h5⟩ := j8m he
 obtain ⟨w, ew, rw'⟩ := r.get h2
 have hl := r.length
 have hn := j71
 have fin : EP X pins σ Q w s := ⟨z, H, I, rw', q⟩
 exact subscriptTail_builtinR (x := w) pl.typeIs slot_tuple_getitem.lookup
  (getItem_tuple (j := j) (Q := fun r s' => r = w ∧ EP X pins σ Q r s') pl (by omega) (by omega) (by rw [List.size_toArray, ← hl]; exact h1) (by simpa using ew) ⟨rfl, fin⟩) hs
theorem k6v : IxR X rIxS := by
 intro value slice pins s σ H x y v u Q I rx ry h hs
 obtain ⟨z, i, c, rfl, rfl, hz, he, q⟩ := h
 obtain ⟨t, rfl⟩ := rx
 obtain ⟨t', rfl⟩ := ry
 obtain ⟨j, h1, h2, h3, h4, h5⟩ := j8m he
 have hl : z.cps.toList.length = z.length := by simp [Str.length]
 rw [hl] at h1 h4 h5
 have hn := j71
 exact tail_any (typeIs_str s z t) slot_str_getitem.lookup (getItem_str (c := c) (by
  have e1 : decide (i < -(2 ^ 63 : Int)) = false := decide_eq_false (by omega)
  have e2 : decide (i ≥ 2 ^ 63) = false := decide_eq_false (by omega)
  rw [e1, e2, Bool.or_false]) (by rw [h1]; simpa using h2) ⟨.str ⟨#[c]⟩, H, I.tok _, ⟨_, rfl⟩, q⟩) hs
theorem j7c (lo hi : Option Int) (n : Nat) : (sliceBounds lo hi none n).1 = ((HT.sIx n 0 lo : Nat) : Int) ∧ (sliceBounds lo hi none n).2.1 = ((HT.sIx n n hi : Nat) : Int) ∧ (sliceBounds lo hi none n).2.2 = 1 := by
 refine ⟨?_, ?_, rfl⟩
 ·cases lo with
  | none => simp [sliceBounds, HT.sIx]
  | some i =>
   simp only [sliceBounds, HT.sIx, Option.getD_none, show (1 : Int) > 0 by decide, if_true]
   by_cases h : i < 0
   ·simp only [h, if_true] <;> omega
   ·simp only [h, if_false] <;> omega
 ·cases hi with
  | none => simp [sliceBounds, HT.sIx]
  | some i =>
   simp only [sliceBounds, HT.sIx, Option.getD_none, show (1 : Int) > 0 by decide, if_true]
   by_cases h : i < 0
   ·simp only [h, if_true] <;> omega
   ·simp only [h, if_false] <;> omega
theorem j6q (its : List Value) (lo hi : Option Int) : slicePick its.toArray lo hi none = ((its.drop (HT.sIx its.length 0 lo)).take (HT.sIx its.length its.length hi - HT.sIx its.length 0 lo)).toArray := by
 obtain ⟨h1, h2, h3⟩ := j7c lo hi its.toArray.size
 unfold slicePick
 rw [h1, h2, h3]
 simp only [sliceRange_one, pick_run, List.size_toArray] <;> rfl
def rSlL (K : PySem.W.Frag) : V → Option Int → Option Int → Hp → VK → Prop := fun x lo hi H Q => ∃ a xs, x = .ref a ∧ SqL K H a xs ∧ ∀ p, H p = none → Q (.ref p) (upd H p (.lst (cutV xs lo hi)))
theorem j5b : SlR X (rSlL X.K) := by
 intro pins s σ H x v vl vu lo hi sl Q I rx hs pl pu h
 obtain ⟨a, xs, rfl, hx, q⟩ := h
 cases rx
 obtain ⟨its, r, ht, hz⟩ := I.list hx
 have hlen := r.length
 refine ⟨"list", _, slot_list_getitem.lookup, ht.isList.typeIs, ?_⟩
 refine wpAny_getItem_list_slice ht.isList hs pl pu .none (by simp) ?_ (by rw [List.size_toArray] <;> omega)
 rw [j6q, ← hlen]
 refine ⟨.ref s.heap.objs.size, _, I.laid (t' := s.toks) (o := .lst (cutV xs lo hi)) (fun b ob q => Heap.get?_push_of_some _ q) (Nat.le_refl _) ?_, rfl, q _ (I.hok.fresh (Nat.le_refl _))⟩
 exact ⟨Nat.le_trans (j8z xs lo hi) hz, _, 0, (r.drop (HT.sIx xs.length 0 lo)).take (HT.sIx xs.length xs.length hi - HT.sIx xs.length 0 lo), Heap.get?_push_size _ rfl⟩
def j5e : V → Bool
 | .non => true
 | .bl _ => true
 | .int _ => true
 | .str _ => true
 | _ => false
def eqV : V → V → Bool
 | .non, .non => true
 | .bl a, .bl b => a == b
 | .bl a, .int b => (if a then 1 else 0) == b
 | .int a, .bl b => a == (if b then 1 else 0)
 | .int a, .int b => a == b
 | .str a, .str b => a == b
 | _, _ => false
theorem k6t {A : Around} {s : Shared} {y x : V} {u v : Value} (ry : RelV y u) (rx : RelV x v) (fy : j5e y = true) (fx : j5e x = true) : SeqAt.EqAt A s u v (eqV y x) := by
 cases y with
 | non =>
  cases ry
  cases x with
  | non => cases rx; exact SeqAt.EqAt.same _
  | bl b => cases rx; exact SeqAt.EqAt.none_bool b
  | int b => obtain ⟨t, rfl⟩ := rx; exact SeqAt.EqAt.none_int b t
  | str b => obtain ⟨t, rfl⟩ := rx; exact SeqAt.EqAt.none_str b t
  | _ => exact absurd (show false = true from fx) Bool.false_ne_true
 | bl a =>
  cases ry
  cases x with
  | non => cases rx; exact SeqAt.EqAt.bool_none a
  | bl b => cases rx; exact SeqAt.EqAt.bool_bool a b
  | int b => obtain ⟨t, rfl⟩ := rx; exact SeqAt.EqAt.bool_int a b t
  | str b => obtain ⟨t, rfl⟩ := rx; exact SeqAt.EqAt.bool_str a b t
  | _ => exact absurd (show false = true from fx) Bool.false_ne_true
 | int a =>
  obtain ⟨t', rfl⟩ := ry
  cases x with
  | non => cases rx; exact SeqAt.EqAt.int_none a t'
  | bl b => cases rx; exact SeqAt.EqAt.int_bool a t' b
  | int b => obtain ⟨t, rfl⟩ := rx; exact SeqAt.EqAt.int_int a t' b t
  | str b => obtain ⟨t, rfl⟩ := rx; exact SeqAt.EqAt.int_str a t' b t
  | _ => exact absurd (show false = true from fx) Bool.false_ne_true
 | str a =>
  obtain ⟨t', rfl⟩ := ry
  cases x with
  | non => cases rx; exact SeqAt.EqAt.str_none a t'
  | bl b => cases rx; exact SeqAt.EqAt.str_bool a t' b
  | int b => obtain ⟨t, rfl⟩ := rx; exact SeqAt.EqAt.str_int a t' b t
  | str b => obtain ⟨t, rfl⟩ := rx; exact SeqAt.EqAt.str_str a t' b t
  | _ => exact absurd (show false = true from fx) Bool.false_ne_true
 | _ => exact absurd (show false = true from fy) Bool.false_ne_true
def eqU (x : V) (u : Value) : Bool := match u with
 | .none => eqV .non x
 | .bool b => eqV (.bl b) x
 | .int i _ => eqV (.int i) x
 | .str z _ => eqV (.str z) x
 | _ => false
theorem k6i {x y : V} {u : Value} (r : RelV y u) (f : j5e y = true) : eqU x u = eqV y x := by
 cases y with
 | non => cases r; rfl
 | bl b => cases r; rfl
 | int i => obtain ⟨t, rfl⟩ := r; rfl
 | str z => obtain ⟨t, rfl⟩ := r; rfl
 | _ => exact absurd (show false = true from f) Bool.false_ne_true
theorem j48 {x : V} : ∀ {xs : List V} {us : List Value}, Vals xs us → xs.all j5e = true → us.any (eqU x) = xs.any fun y => eqV y x
 | _, _, .nil, _ => rfl
 | y :: xs, u :: us, .cons r t, f => by
  rw [List.all_cons, Bool.and_eq_true] at f
  rw [List.any_cons, List.any_cons, k6i r f.1, j48 t f.2]
theorem j37 {A : Around} {s : Shared} {x : V} {v : Value} (rx : RelV x v) (fx : j5e x = true) : ∀ {xs : List V} {us : List Value}, Vals xs us → xs.all j5e = true → ∀ u ∈ us, SeqAt.EqAt A s u v (eqU x u)
 | _, _, .nil, _ => fun u hu => by cases hu
 | y :: xs, u :: us, .cons r t, f => fun u' hu => by
  rw [List.all_cons, Bool.and_eq_true] at f
  rcases List.mem_cons.mp hu with rfl | hu
  ·rw [k6i r f.1]; exact k6t r rx f.1 fx
  ·exact j37 rx fx t f.2 u' hu
def inV (x : V) (xs : List V) : Bool := xs.any fun y => eqV y x
def rIn (K : PySem.W.Frag) (neg : Bool) : R2 := fun x y H Q => ∃ p xs, y = .ref p ∧ (SqL K H p xs ∨ SqT K H p xs) ∧ j5e x = true ∧ xs.all j5e = true ∧ Q (.bl (if neg then !inV x xs else inV x xs)) H
theorem j2p : OpR X (compareOp .In) (rIn X.K false) := by
 intro pins s σ H x y v u Q I rx ry h
 obtain ⟨p, xs, rfl, hq, fx, fs, q⟩ := h
 cases ry
 rcases hq with hq | hq
 ·obtain ⟨its, r, pl, hz⟩ := I.list hq
  refine SeqAt.in_listAt (eqU x) pl.isList (fun w hw => j37 rx fx r fs w (by simpa using hw)) ⟨.bl _, H, I, rfl, ?_⟩
  rw [show its.toArray.any (eqU x) = its.any (eqU x) by simp, j48 r fs]
  exact q
 ·obtain ⟨its, r, pl, hz⟩ := I.tuple hq
  refine SeqAt.in_tupleAt (eqU x) pl (fun w hw => j37 rx fx r fs w (by simpa using hw)) ⟨.bl _, H, I, rfl, ?_⟩
  rw [show its.toArray.any (eqU x) = its.any (eqU x) by simp, j48 r fs]
  exact q
theorem j4q : OpR X (compareOp .NotIn) (rIn X.K true) := by
 intro pins s σ H x y v u Q I rx ry h
 obtain ⟨p, xs, rfl, hq, fx, fs, q⟩ := h
 cases ry
 rcases hq with hq | hq
 ·obtain ⟨its, r, pl, hz⟩ := I.list hq
  refine SeqAt.notIn_listAt (eqU x) pl.isList (fun w hw => j37 rx fx r fs w (by simpa using hw)) ⟨.bl _, H, I, rfl, ?_⟩
  rw [show its.toArray.any (eqU x) = its.any (eqU x) by simp, j48 r fs]
  exact q
 ·obtain ⟨its, r, pl, hz⟩ := I.tuple hq
  refine SeqAt.notIn_tupleAt (eqU x) pl (fun w hw => j37 rx fx r fs w (by simpa using hw)) ⟨.bl _, H, I, rfl, ?_⟩
  rw [show its.toArray.any (eqU x) = its.any (eqU x) by simp, j48 r fs]
  exact q
theorem j0m : j3z X (.builtin "len") (fun xs H Q => ∃ p ys, xs = [.ref p] ∧ (SqL X.K H p ys ∨ SqT X.K H p ys) ∧ Q (.int ys.length) H) := by
 intro pins s σ H xs us Q I r h
 obtain ⟨p, ys, rfl, hq, q⟩ := h
 obtain ⟨u, rfl, rx⟩ := vals1 r
 cases rx
 have hn := j71
 rcases hq with hq | hq
 ·obtain ⟨its, r', pl, hz⟩ := I.list hq
  have hlen := r'.length
  exact Calls.call_len_list pl.isList (by simp only [List.size_toArray] <;> omega) ⟨.int ys.length, H, I.tok _, ⟨s.toks + 1, by rw [List.size_toArray, hlen]⟩, q⟩
 ·obtain ⟨its, r', pl, hz⟩ := I.tuple hq
  have hlen := r'.length
  exact len_tuple pl (by simp only [List.size_toArray] <;> omega) ⟨.int ys.length, H, I.tok _, ⟨s.toks + 1, by rw [List.size_toArray, hlen]⟩, q⟩
theorem j4s : j3z X (.type "list") (fun xs H Q => ∃ p ys, xs = [.ref p] ∧ (SqL X.K H p ys ∨ SqT X.K H p ys) ∧ ∀ l, H l = none → Q (.ref l) (upd H l (.lst ys))) := by
 intro pins s σ H xs us Q I r h
 obtain ⟨p, ys, rfl, hq, q⟩ := h
 obtain ⟨u, rfl, rx⟩ := vals1 r
 cases rx
 have fin : ∀ (its : List Value), Vals ys its → ys.length ≤ sizeLine → ∀ (h' : Heap) (c' : Nat), (∀ b o', s.heap.get? b = some o' → h'.get? b = some o') →
   h'.get? s.heap.objs.size = some { cls := .type "list", dict := none, data := .seq its.toArray c', slots := #[] } → EP X pins σ Q (.ref s.heap.objs.size) { s with heap := h' } := fun its r' hz h' c' kp e =>
  ⟨.ref s.heap.objs.size, _, I.laid (t' := s.toks) kp (Nat.le_refl _) (show ObjOk X.prog X.w _ h' _ (.lst ys) from ⟨hz, its, c', r', e⟩), rfl, q _ (I.hok.fresh (Nat.le_refl _))⟩
 rcases hq with hq | hq
 ·obtain ⟨its, r', pl, hz⟩ := I.list hq
  have hlen := r'.length
  obtain ⟨o, ho, hc, n, hd⟩ := pl.isList
  exact call_list_seq p (.inl rfl) ho hc hd (fun h' c' kp e => fin its r' hz h' c' kp e) (by simp only [List.size_toArray] <;> omega)
 ·obtain ⟨its, r', pl, hz⟩ := I.tuple hq
  have hlen := r'.length
  obtain ⟨o, ho, hc, n, hd⟩ := pl
  exact call_list_seq p (.inr rfl) ho hc hd (fun h' c' kp e => fin its r' hz h' c' kp e) (by simp only [List.size_toArray] <;> omega)
def tyV (K : PySem.W.Frag) (T : String) (x : V) (H : Hp) : Prop := match x with
 | .str _ => T = "str"
 | .int _ => T = "int"
 | .ref p => (T = "list" ∧ ∃ xs, SqL K H p xs) ∨ (T = "tuple" ∧ ∃ o, K.lookup p = some o ∧ o.cls = .type "tuple" ∧ o.dict = none) ∨
   (T = "dict" ∧ ((∃ kvs, H p = some (.dK kvs)) ∨ ∃ kvs, H p = some (.dT kvs))) ∨ (T = "set" ∧ ∃ S n, H p = some (.set S n))
 | _ => False
theorem k6q {pins : List (Addr × Obj)} {σ : St} {H : Hp} {s : Shared} {T : String} {x : V} {v : Value} (I : Inv X pins σ H s) (r : RelV x v) (ty : tyV X.K T x H) :
  s.TypeIs v T ∧ ∀ a, v = .ref a → ∃ ob, s.heap.get? a = some ob ∧ ob.dict = none := by
 cases x with
 | str z =>
  obtain ⟨t, rfl⟩ := r
  cases (show T = "str" from ty)
  exact ⟨typeIs_str s z t, fun _ e => nomatch e⟩
 | int i =>
  obtain ⟨t, rfl⟩ := r
  cases (show T = "int" from ty)
  exact ⟨typeIs_int s i t, fun _ e => nomatch e⟩
 | ref p =>
  cases r
  rcases ty with ⟨rfl, xs, hq⟩ | ⟨rfl, o, hk, hc, hd⟩ | ⟨rfl, hk⟩ | ⟨rfl, S, n, hk⟩
  ·obtain ⟨its, _, pl, _⟩ := I.list hq
   refine ⟨pl.isList.typeIs, fun a e => ?_⟩
   cases e
   obtain ⟨o, n, e, c, hd, _⟩ := pl
   exact ⟨o, e, hd⟩
  ·refine ⟨⟨o, I.kIn p o hk, hc⟩, fun a e => ?_⟩
   cases e
   exact ⟨o, I.kIn _ o hk, hd⟩
  ·have z : ∃ o, s.heap.get? p = some o ∧ o.ExactDict := by
    rcases hk with ⟨kvs, hk⟩ | ⟨kvs, hk⟩
    ·obtain ⟨_, _, _, _, o, _, _, e, ex, _⟩ := I.hok p _ hk
     exact ⟨o, e, ex⟩
    ·obtain ⟨_, _, _, _, o, _, _, e, ex, _⟩ := I.hok p _ hk
     exact ⟨o, e, ex⟩
   obtain ⟨o, e, ex⟩ := z
   refine ⟨⟨o, e, ex.1⟩, fun a e2 => ?_⟩
   cases e2
   exact ⟨o, e, ex.2.1⟩
  ·obtain ⟨o, _, _, _, e, ex, _⟩ := I.hok p _ hk
   refine ⟨⟨o, e, ex.1⟩, fun a e2 => ?_⟩
   cases e2
   exact ⟨o, e, ex.2.1⟩
 | _ => exact False.elim ty
def tBM0 (K : PySem.W.Frag) (T : String) (r : V → List V → Hp → VK → Prop) (to : TE) : TE := fun σ H Q => to σ H fun x H1 => tyV K T x H1 ∧ r x [] H1 Q
def tBM (K : PySem.W.Frag) (T : String) (r : V → List V → Hp → VK → Prop) (to : TE) (t : TA) : TE := fun σ H Q => to σ H fun x H1 => tyV K T x H1 ∧ t σ H1 fun xs H2 => r x xs H2 Q
variable {o e : Expr} {es : List Expr} {to : TE} {t : TA} {name : Str} {apos cpos : Pos} {T id : String} {r : V → List V → Hp → VK → Prop}
theorem q0a (pa : PlainAttrs T) (slot : Slot T name id) (hty : typeOf (.builtin id) = pure (.type "method_descriptor")) (hm : MtR X id r) (ho : PE X o to)
  (hbase : attributeBase o name X.env (eval o X.env) = eval o X.env := by rfl) (hline : (apos.endLine == cpos.line) = true := by rfl) : PE X (.Call (.Attribute o name apos) [] [] cpos) (tBM0 X.K T r to) := by
 intro pins s σ H Q I h
 refine wpAny_Call_method0_late hbase hline (thn (ho pins s σ H _ I h) fun v s1 ⟨x, H1, I1, r1, ty, q1⟩ => ?_)
 obtain ⟨h1, h2⟩ := k6q I1 r1 ty
 exact ⟨T, id, pa, slot, hty, h1, h2, Calls.callWith_builtin rfl (PySem.evalArgs_none (hm pins s1 σ H1 x [] v [] Q I1 r1 .nil q1))⟩
theorem k7t (pa : PlainAttrs T) (slot : Slot T name id) (hty : typeOf (.builtin id) = pure (.type "method_descriptor")) (hm : MtR X id r) (ho : PE X o to) (ha : PA X (e :: es) t)
  (hbase : attributeBase o name X.env (eval o X.env) = eval o X.env := by rfl)
  (hfew : ((backTo cpos (starEach (e :: es) X.env)).all (fun x => !x.1) && (backToKw cpos (keywordEach [] X.env)).all (fun x => x.1.isSome)
   && decide ((e :: es).length + ([] : List Keyword).length + (if ([] : List Keyword).isEmpty then 0 else 1) < 30)) = true := by rfl)
  (hline : (apos.endLine == cpos.line) = true := by rfl) (hs : starEach (e :: es) X.env = (false, eval e X.env) :: starEach es X.env := by rfl) (hplain : (backTo cpos (starEach es X.env)).any (·.1) = false := by rfl) :
  PE X (.Call (.Attribute o name apos) (e :: es) [] cpos) (tBM X.K T r to t) := by
 intro pins s σ H Q I h
 refine wpAny_Call_method_late hbase hfew hline rfl (thn (ho pins s σ H _ I h) fun v s1 ⟨x, H1, I1, r1, ty, q1⟩ => ?_)
 obtain ⟨h1, h2⟩ := k6q I1 r1 ty
 refine ⟨T, id, pa, slot, hty, h1, h2, ?_⟩
 have hA := ha cpos pins s1 σ H1 _ I1 q1
 rw [hs] at hA ⊢
 refine Calls.callWith_builtin (by show (false || (backTo cpos (starEach es X.env)).any (·.1)) = false; rw [hplain] <;> rfl) (Calls.evalArgs_plain ?_)
 exact thn hA fun us s2 ⟨vs, H2, I2, r2, q2⟩ => hm pins s2 σ H2 x vs v us Q I2 r1 r2 q2
end
end L2
namespace L2
open PySem PySem.Spec PyProof.Rows
def MtM (X : Cx) (id : String) (r : V → List V → Hp → VK → Prop) : Prop :=
 ∀ (pins : List (Addr × Obj)) (s : Shared) (σ : St) (H : Hp) (x : V) (xs : List V) (v : Value) (us : List Value) (Q : VK), Inv X pins σ H s → RelV x v → Vals xs us → r x xs H Q →
  wpAny (model X.prog X.w) X.A (call (.builtin id) (v :: us)) (EP X pins σ Q) X.xe s
theorem Vals.hd {x : V} {xs : List V} {us : List Value} (h : Vals (x :: xs) us) : ∃ u vs, us = u :: vs ∧ RelV x u ∧ Vals xs vs := by
 cases h with
 | cons r t => exact ⟨_, _, rfl, r, t⟩
theorem Vals.nl {us : List Value} (h : Vals [] us) : us = [] := by
 cases h
 rfl
theorem Vals.one {x : V} {us : List Value} (h : Vals [x] us) : ∃ u, us = [u] ∧ RelV x u := by
 obtain ⟨u, vs, rfl, r, t⟩ := h.hd
 rw [t.nl]
 exact ⟨u, rfl, r⟩
theorem Vals.two {x y : V} {us : List Value} (h : Vals [x, y] us) : ∃ u v, us = [u, v] ∧ RelV x u ∧ RelV y v := by
 obtain ⟨u, vs, rfl, r, t⟩ := h.hd
 obtain ⟨v, ws, rfl, q, t⟩ := t.hd
 rw [t.nl]
 exact ⟨u, v, rfl, r, q⟩
theorem Vals.zero : ∀ {us : List Value}, Vals [] us → us = []
 | _, .nil => rfl
theorem Vals.dropLast {xs : List V} {us : List Value} (h : Vals xs us) : Vals xs.dropLast us.dropLast := by
 induction h with
 | nil => exact .nil
 | cons r t ih =>
  cases t with
  | nil => exact .nil
  | cons q t' => exact .cons r ih
theorem Vals.eraseIdx : ∀ {xs : List V} {us : List Value} (i : Nat), Vals xs us → Vals (xs.eraseIdx i) (us.eraseIdx i)
 | _, _, _, .nil => .nil
 | _, _, 0, .cons _ t => t
 | _, _, i + 1, .cons r t => .cons r (Vals.eraseIdx i t)
theorem k08 {α : Type} (l : List α) : l.eraseIdx (l.length - 1) = l.dropLast := by
 induction l with
 | nil => rfl
 | cons a r ih =>
  cases r with
  | nil => rfl
  | cons b r =>
   have e : (a :: b :: r).length - 1 = ((b :: r).length - 1) + 1 := by
    have h1 : (a :: b :: r).length = r.length + 2 := rfl
    have h2 : (b :: r).length = r.length + 1 := rfl
    omega
   rw [e, List.eraseIdx_cons_succ, ih]
   all_goals rfl
theorem j63 {α : Type} : ∀ (l : List α) (i : Nat), (l.eraseIdx i).length ≤ l.length
 | [], _ => Nat.le_refl _
 | _ :: _, 0 => Nat.le_succ _
 | _ :: r, i + 1 => Nat.succ_le_succ (j63 r i)
section
variable {X : Cx} {pins : List (Addr × Obj)} {σ : St} {H : Hp} {s : Shared} {l b : Addr} {xs ys zs : List V}
theorem Inv.lset {its its' : List Value} {n : Nat} {f : Array Value → Array Value} {t' : Nat} (I : Inv X pins σ H s) (hH : H l = some (.lst xs))
  (e : s.heap.get? l = some { cls := .type "list", data := .seq its.toArray n }) (hf : f its.toArray = its'.toArray) (hv : Vals ys its') (hz : ys.length ≤ sizeLine) :
  Inv X pins σ (upd H l (.lst ys)) { s with heap := s.heap.update l (Obj.mapSeq f), toks := t' } := by
 have q := PySem.IsL.update e f
 rw [hf] at q
 refine I.write (x := l) (e := l) (by rw [hH]; exact trivial) (.inl rfl) (fun b' u hb hu => (Heap.get?_update_other s.heap (Obj.mapSeq f) (Ne.symm hb)).trans hu) ⟨_, q⟩ ?_
 exact ⟨hz, its', _, hv, q⟩
theorem Inv.lnew {its : List Value} {t' : Nat} (I : Inv X pins σ H s) (hv : Vals ys its) (hz : ys.length ≤ sizeLine) :
  Inv X pins σ (upd H s.heap.objs.size (.lst ys)) { s with heap := s.heap.push { cls := .type "list", data := .seq its.toArray }, toks := t' } :=
 I.laid (fun _ _ q => Heap.get?_push_of_some _ q) (Nat.le_refl _) ⟨hz, its, 0, hv, Heap.get?_push_size _ rfl⟩
theorem Inv.fresh (I : Inv X pins σ H s) : H s.heap.objs.size = none := I.hok.fresh (Nat.le_refl _)
theorem Inv.lstM (I : Inv X pins σ H s) (hH : H l = some (.lst xs)) : xs.length ≤ sizeLine ∧ ∃ (its : List Value) (n : Nat), Vals xs its ∧ xs.length = its.length ∧ s.heap.get? l = some { cls := .type "list", data := .seq its.toArray n } := by
 obtain ⟨z, its, n, r, e⟩ := I.hok l _ hH
 exact ⟨z, its, n, r, r.length, e⟩
theorem k49 {n : Nat} (h : n ≤ sizeLine) : Builtin.List.listTooLong n = false := by
 unfold Builtin.List.listTooLong
 exact decide_eq_false (by omega)
end
section
variable {X : Cx}
def k8g : V → List V → Hp → VK → Prop := fun x vs H Q => ∃ l xs y, x = .ref l ∧ vs = [y] ∧ H l = some (.lst xs) ∧ xs.length < sizeLine ∧ Q .non (upd H l (.lst (xs ++ [y])))
theorem j4a : MtM X "list.append" k8g := by
 intro pins s σ H x vs v us Q I rx rv h
 obtain ⟨l, xs, y, rfl, rfl, hH, hz, q⟩ := h
 cases rx
 obtain ⟨u, rfl, ru⟩ := rv.one
 obtain ⟨z, its, n, r, hl, e⟩ := I.lstM hH
 refine call_meets F.slot_list_append ⟨_, e, rfl⟩ F.entry_list_append (F.args_list_append_2 _ _) (PySem.list_append l its.toArray n u (by rw [List.size_toArray]; omega)) ⟨e, ?_⟩
 refine ⟨.non, _, I.lset (its' := its ++ [u]) hH e (by simp) (r.append (.cons ru .nil)) ?_, rfl, q⟩
 rw [List.length_append, List.length_singleton]
 omega
def k85 : V → List V → Hp → VK → Prop := fun x vs H Q => ∃ l b xs zs, x = .ref l ∧ vs = [.ref b] ∧ H l = some (.lst xs) ∧ H b = some (.lst zs) ∧ xs.length + zs.length ≤ sizeLine ∧ Q .non (upd H l (.lst (xs ++ zs)))
theorem k16 : MtM X "list.extend" k85 := by
 intro pins s σ H x vs v us Q I rx rv h
 obtain ⟨l, b, xs, zs, rfl, rfl, hH, hB, hz, q⟩ := h
 cases rx
 obtain ⟨u, rfl, ru⟩ := rv.one
 cases ru
 obtain ⟨z, its, n, r, hl, e⟩ := I.lstM hH
 obtain ⟨z2, its2, n2, r2, hl2, e2⟩ := I.lstM hB
 have hsz : its.toArray.size + its2.toArray.size ≤ sizeLine := by rw [List.size_toArray, List.size_toArray]; omega
 have hlong : ¬ (!its.toArray.isEmpty && Builtin.List.listTooLong (its.toArray.size + its2.toArray.size)) = true := by
  rw [k49 hsz, Bool.and_false]
  exact Bool.false_ne_true
 refine call_meets F.slot_list_extend ⟨_, e, rfl⟩ F.entry_list_extend (F.args_list_extend_2 _ _)
  (AutoSeq1.list_extend_list_list_0 l its.toArray n b its2.toArray n2 hlong (by rw [List.size_toArray]; omega) (by omega)) ⟨e, e2, ?_⟩
 refine ⟨.non, _, I.lset (its' := its ++ its2) hH e (by simp) (r.append r2) ?_, rfl, q⟩
 rw [List.length_append]
 omega
def rPop : V → List V → Hp → VK → Prop := fun x vs H Q => ∃ l xs y, x = .ref l ∧ vs = [] ∧ H l = some (.lst xs) ∧ xs[xs.length - 1]? = some y ∧ Q y (upd H l (.lst xs.dropLast))
theorem k93 : MtM X "list.pop" rPop := by
 intro pins s σ H x vs v us Q I rx rv h
 obtain ⟨l, xs, y, rfl, rfl, hH, hy, q⟩ := h
 cases rx
 have hus := rv.zero
 subst hus
 obtain ⟨z, its, n, r, hl, e⟩ := I.lstM hH
 obtain ⟨u, hu, ru⟩ := r.get hy
 have hy' : its.toArray[its.toArray.size - 1]? = some u := by
  show its.toArray[its.length - 1]? = some u
  rw [← Array.getElem?_toList, ← hl]
  exact hu
 refine call_meets F.slot_list_pop ⟨_, e, rfl⟩ F.entry_list_pop (F.args_list_pop_1 _) (MeetsSeq.list_pop_last l its.toArray n u hy' (by rw [List.size_toArray]; omega)) ⟨e, ?_⟩
 refine ⟨y, _, I.lset (its' := its.dropLast) hH e ?_ r.dropLast ?_, ru, q⟩
 ·show its.toArray.eraseIdxIfInBounds (its.toArray.size - 1) = its.dropLast.toArray
  rw [List.size_toArray, List.eraseIdxIfInBounds_toArray, k08]
 ·rw [List.length_dropLast]
  omega
def q1n : V → List V → Hp → VK → Prop := fun x vs H Q => ∃ l xs i k y, x = .ref l ∧ vs = [.int i] ∧ H l = some (.lst xs) ∧ -(2 ^ 63) ≤ i ∧ i < 2 ^ 63 ∧ seqIndex? i xs.length = some k ∧ xs[k]? = some y ∧ Q y (upd H l (.lst (xs.eraseIdx k)))
theorem k55 : MtM X "list.pop" q1n := by
 intro pins s σ H x vs v us Q I rx rv h
 obtain ⟨l, xs, i, k, y, rfl, rfl, hH, h1, h2, hk, hy, q⟩ := h
 cases rx
 obtain ⟨u, rfl, ru⟩ := rv.one
 obtain ⟨t, rfl⟩ := ru
 obtain ⟨z, its, n, r, hl, e⟩ := I.lstM hH
 obtain ⟨w, hw, rw'⟩ := r.get hy
 refine call_meets F.slot_list_pop ⟨_, e, rfl⟩ F.entry_list_pop (F.args_list_pop_2 _ _)
  (MeetsSeq.list_pop_at l its.toArray n i t k w (fitsIndex_both h1 h2) (by rw [List.size_toArray, ← hl]; exact hk) (by rw [← Array.getElem?_toList]; exact hw) (by rw [List.size_toArray]; omega)) ⟨e, ?_⟩
 refine ⟨y, _, I.lset (its' := its.eraseIdx k) hH e ?_ (r.eraseIdx k) ?_, rw', q⟩
 ·show its.toArray.eraseIdxIfInBounds k = (its.eraseIdx k).toArray
  rw [List.eraseIdxIfInBounds_toArray]
 ·have := j63 xs k
  omega
def rCat : R2 := fun x y H Q => ∃ l b xs zs, x = .ref l ∧ y = .ref b ∧ H l = some (.lst xs) ∧ H b = some (.lst zs) ∧ xs.length + zs.length ≤ sizeLine ∧ ∀ p, H p = none → Q (.ref p) (upd H p (.lst (xs ++ zs)))
theorem k3b : OpR X (binaryOp .Add) rCat := by
 intro pins s σ H x y v u Q I rx ry h
 obtain ⟨l, b, xs, zs, rfl, rfl, hH, hB, hz, q⟩ := h
 cases rx
 cases ry
 obtain ⟨z, its, n, r, hl, e⟩ := I.lstM hH
 obtain ⟨z2, its2, n2, r2, hl2, e2⟩ := I.lstM hB
 refine PySem.P.add_list e e2 ?_ (by rw [List.size_toArray, List.size_toArray]; omega)
 have ea : its.toArray ++ its2.toArray = (its ++ its2).toArray := by simp
 rw [ea]
 exact ⟨.ref _, _, I.lnew (t' := s.toks) (r.append r2) (by rw [List.length_append]; omega), rfl, q _ I.fresh⟩
end
section
variable {prog : Program} {w : World} {A : Around} {E : Value → Shared → Prop} {s : Shared}
end
section
variable {X : Cx}
end
end L2
namespace Att
open PySem PySem.W PySem.Calls PyProof.Rows
theorem j43 {P : Params} {h : Heap} : ∀ (ns : List Int) (vs : List Value), WellAll P h vs (ns.map WData.int) → IntsAre vs ns := by
 intro ns
 induction ns with
 | nil =>
  intro vs w
  rw [List.map_nil] at w
  cases w
  exact .nil
 | cons n ns ih =>
  intro vs w
  rw [List.map_cons] at w
  cases w with
  | cons a b =>
   cases a
   exact .cons _ _ (ih _ b)
theorem k2a {l : OpenLaw} {n : Nat} (hn : l.most = some n) {P : Params} {h : Heap} {args : List WData} {vals : List Value}
  (hpre : l.row.toRowW.claim.pre args = true) (hwl : WellAll P h vals args) :
  ∃ a vs ns, vals = [Value.ref a] ∧ args = [WData.list (ns.map WData.int)] ∧ h.get? a = some { cls := .type "list", data := .seq vs.toArray } ∧ IntsAre vs ns ∧ ns.length ≤ n := by
 have hsh : WShape.hasAll [] args [.list .int] = true := (pre_splitW hpre).1
 have hc : l.pre.holds [] { args := args } = true := (pre_splitW hpre).2
 obtain ⟨d, r, rfl, h1, h2⟩ := hasAllW_cons hsh
 obtain rfl := hasAllW_nil h2
 obtain ⟨xs, rfl, h3⟩ := hasW_list h1
 obtain ⟨ns, rfl⟩ := items_int h3
 have hlen : ns.length ≤ n := by
  unfold OpenLaw.pre at hc
  have h4 : (WTm.not (.lt (.lit (.int (n : Int))) (.len (.arg 0)))).holds [] { args := [.list (ns.map .int)] } = true := by
   have h4 := (holds_andW hc).1
   rw [hn] at h4
   exact h4
  have h5 := condW_of h4 (w_not (w_lt w_lit (w_len_list (w_arg rfl))))
  rw [List.length_map] at h5
  refine Nat.le_of_not_lt fun q => ?_
  have q' : (n : Int) < ((ns.length : Nat) : Int) := by omega
  first
   | (rw [decide_eq_true q'] at h5; exact absurd h5 (by decide))
   | (simp at h5; omega)
 cases hwl with
 | cons w1 w2 =>
  cases w2
  cases w1 with
  | list ho hall => exact ⟨_, _, ns, rfl, rfl, ho, j43 ns _ hall, hlen⟩
theorem k1n (l : OpenLaw) (args : List WData) : l.row.toRowW.claim.post args (.bool true) args = true :=
 postW_of (r := l.row.toRowW) (X := (true == true))
  (show WShape.has [] (.bool true) .bool = true by first | rfl | decide | simp [WShape.has, WShape.arms, WShape.armsAll])
  (show (WTm.eq .res (.lit (.bool true))).value [] { args := args, res := some (.bool true), after := args } = some (.bool (true == true)) from w_eq_bool (w_res rfl) w_lit) rfl
theorem attach_call {l : OpenLaw} {n : Nat} {q : Program} {loose : List Str} {XP : (Str → Option Value) → Heap → Prop} {YP : World → Heap → Prop} {d : DefRec}
  (hn : l.most = some n) (hdf : d.params.defaults = [])
  (call : ∀ (w : World) (s₀ s₁ : Shared) (mg mb : Str → Option Value) (fa : Addr) (o : Obj) (pm cd doc : Value) (a : Addr) (vs : List Value) (ns : List Int),
   Ground q loose [] XP w s₀ mg mb s₁.heap → YP w s₁.heap →
   s₁.heap.get? fa = some o → o.data = .func (docDef d.name d.params d.body d.scope pm cd doc) → s₁.heap.CodeRec cd d.name → mg d.name = some (.ref fa) →
   s₁.heap.get? a = some { cls := .type "list", data := .seq vs.toArray } → IntsAre vs ns → ns.length ≤ n → s₁.gens = #[] →
   codeAny (model l.prog w) callerA (.call (.ref fa) ⟨[.ref a], []⟩) (fun r s' => r = .ok (.ret (.bool true)) ∧ OldK s₁.heap s'.heap ∧ s'.os = s₁.os ∧ AllBare s'.gens) s₁) :
  WalkO q loose XP YP l.row.toRowW d [] (fun f vs => PySem.call f vs) := by
 intro w s₀ s₁ mg mb G Y fa o pm cd doc dV kV ho hd hcd hD hmg hg args vals as hpre hlay hrd hwl hlo
 obtain rfl : dV = .none := Dflts.none hD hdf
 obtain rfl : kV = .none := Dflts.noKw hD
 obtain ⟨a, vs, ns, rfl, rfl, hobj, hints, hlen⟩ := k2a hn hpre hwl
 refine enter_call (codeAny_mono (call w s₀ s₁ mg mb fa o pm cd doc a vs ns G Y ho (fd_plain hd) hcd hmg hobj hints hlen hg) fun r s' hq => ?_)
 obtain ⟨rfl, h2, h3, h4⟩ := hq
 exact ⟨.inl ⟨.bool true, .bool true, [], rfl, fun _ => rfl, .bool true, k1n l _, fun _ => ⟨List.Pairwise.nil, fun _ hm => (nomatch hm)⟩⟩, h2, h3, h4⟩
section
variable {prog : Program} {w : World} {A : Around} {E : Value → Shared → Prop} {s : Shared} {K : Frag}
end
end Att
namespace L2
open PySem PySem.Spec PyProof.Rows
theorem j8g : ∀ {vs : List Value} {ns : List Int}, IntsAre vs ns → Vals (ns.map V.int) vs
 | _, _, .nil => .nil
 | _, _, .cons n t h => .cons ⟨t, rfl⟩ (j8g h)
def Only (H : Hp) : Prop := ∀ b, H b = none ∨ ∃ o xs, H b = some (.frz o (.lst xs))
theorem k5h {P : Program} {w : World} {K : PySem.W.Frag} {mg mb : Str → Option Value} {CX : CXT} {k : Nat} {fa a : Addr} {fd : FuncData} {x : Str} {sp : Sp} {s₁ : Shared} {vs : List Value} {ns : List Int}
  (KX : K.In s₁.heap) (hns : s₁.heap.Ns mainGlobals mg) (hb : s₁.heap.Ns builtinsNs mb) (hbb : ∀ x : Str, x ≠ "__name__" → mb x = bootBuiltins x) (hlim : s₁.heap.NoLimit) (hg : s₁.gens = #[])
  (ha : s₁.heap.get? a = some { cls := .type "list", data := .seq vs.toArray }) (hi : IntsAre vs ns) (hl : ns.length ≤ sizeLine) (hr : Room k callerA)
  (F : ∀ base : Heap, K.In base → base.Ns mainGlobals mg → FnOk P w K mg base CX k fa fd [x] sp) (hbind : ∀ (s : Shared) (u : Value), BindsTo s fd ⟨[u], []⟩ [(x, u)])
  (hsp : ∀ H : Hp, Only H → SqL K H a (ns.map V.int) → sp [.ref a] H (fun v _ => v = .bl true) fun _ _ _ => False)
  (hCX : ∀ H e s', CX [] H s₁ (fun _ _ _ => False) e s' → False) :
  codeAny (model P w) callerA (.call (.ref fa) ⟨[.ref a], []⟩) (fun r s' => r = .ok (.ret (.bool true)) ∧ OldK s₁.heap s'.heap ∧ s'.os = s₁.os ∧ AllBare s'.gens) s₁ := by
 have rv := j8g hi
 have lenV := hi.length
 have core : ∀ H : Hp, Only H → SqL K H a (ns.map V.int) → HOk P w H s₁.heap → (∀ b, H b ≠ none → b = a) → (H a ≠ none → K.lookup a = none) →
   codeAny (model P w) callerA (.call (.ref fa) ⟨[.ref a], []⟩) (fun r s' => r = .ok (.ret (.bool true)) ∧ OldK s₁.heap s'.heap ∧ s'.os = s₁.os ∧ AllBare s'.gens) s₁ := by
  intro H hO hS hok hA hK
  have base_of : ∀ {b : Addr} {o : Obj}, s₁.heap.get? b = some o → H b = none → (hidT s₁.heap H).get? b = some o := fun e n => k42 e n
  have noA : ∀ {b : Addr} {o : Obj} {es : Array DictEntry} {ep : Nat}, s₁.heap.get? b = some o → o.data = .dict es ep → H b = none := fun {b o es ep} e d => by
   cases q : H b with
   | none => rfl
   | some u =>
    have e' : b = a := hA b (by rw [q]; simp)
    subst e'
    rw [ha] at e; cases e
    have d' : Data.seq vs.toArray _ = Data.dict es ep := d
    cases d'
  have nsK : ∀ {b : Addr} {m : Str → Option Value}, s₁.heap.Ns b m → (hidT s₁.heap H).Ns b m := fun {b m} ⟨o, es, ep, e, d, r⟩ => ⟨o, es, ep, base_of e (noA e d), d, r⟩
  have hKb : K.In (hidT s₁.heap H) := fun b o e => base_of (KX b o e) (by
   cases q : H b with
   | none => rfl
   | some u =>
    have e' : b = a := hA b (by rw [q]; simp)
    subst e'
    rw [hK (by rw [q]; simp)] at e; cases e)
  have hM : Mod K mg (hidT s₁.heap H) := ⟨hKb, nsK hns, ⟨mb, nsK hb, hbb⟩, let ⟨mc, h1, h2⟩ := hlim; ⟨mc, nsK h1, h2⟩⟩
  have e0 : Env0 P w K mg (hidT s₁.heap H) callerA [] s₁ H := ⟨rfl, hM, fun b o e => k8x e, Nat.le_of_eq (k3h _ _), trivial, fun b hb => absurd (show b ∈ ([] : List Addr) from hb) (by simp), hok, .of_eq hg⟩
  refine codeAny_mono ((F _ hKb (nsK hns)).run callerA [] s₁ H ⟨[.ref a], []⟩ [.ref a] [.ref a] _ _ hr e0 (hbind s₁ (.ref a)) (.cons rfl .nil) (hsp H hO hS)) fun r s' h => ?_
  cases r with
  | error e => exact (hCX H e s' h).elim
  | ok fl =>
   cases fl with
   | next => exact False.elim h
   | brk => exact False.elim h
   | cont => exact False.elim h
   | ret u =>
    obtain ⟨v, H', os, bare, un, hok', r', q⟩ := h
    have q' : v = .bl true := q
    subst q'
    obtain rfl : u = Value.bool true := r'
    refine ⟨rfl, OldK.of_keep fun b o e => ?_, os, bare⟩
    cases q : H b with
    | none => exact un.keep b o e q (by intro z; exact absurd (show b ∈ ([] : List Addr) from z) (by simp)) (by simp)
    | some u =>
     rcases hO b with z | ⟨ob, xs, z⟩
     ·rw [q] at z; cases z
     ·have z2 := un.frzs b ob _ z
      obtain ⟨e1, _⟩ := hok b _ z
      obtain ⟨e2, _⟩ := hok' b _ z2
      rw [e] at e1; cases e1
      exact e2
 cases hk : K.lookup a with
 | some o =>
  have e := KX a o hk
  rw [ha] at e
  cases e
  refine core (fun _ => none) (fun _ => .inl rfl) (.inr ⟨_, vs.toArray, _, hk, rfl, rfl, rfl, by rw [List.size_toArray, lenV]; exact hl, by simpa using rv⟩) (fun b u z => by have z' : (none : Option HO) = some u := z; cases z') (fun b z => absurd rfl z) fun z => absurd rfl z
 | none =>
  refine core (fun b => if b = a then some (.frz { cls := .type "list", data := .seq vs.toArray } (.lst (ns.map V.int))) else none) (fun b => ?_) (.inl (.inr ⟨{ cls := .type "list", data := .seq vs.toArray }, if_pos rfl⟩)) (fun b u z => ?_) (fun b z => ?_) fun _ => hk
  ·by_cases hb : b = a
   ·exact .inr ⟨_, _, if_pos hb⟩
   ·exact .inl (if_neg hb)
  ·by_cases hb : b = a
   ·have z' := (if_pos hb).symm.trans z
    cases z'
    subst hb
    exact ⟨ha, by rw [List.length_map]; exact hl, vs, _, rv, ha⟩
   ·have z' := (if_neg hb).symm.trans z
    cases z'
  ·by_cases hb : b = a
   ·exact hb
   ·exact absurd (if_neg hb) z
end L2
namespace L2
open PySem PySem.Spec PyProof.Rows
theorem walk_of {l : PySem.W.OpenLaw} {n k : Nat} {q : Program} {loose : List Str} {XP : (Str → Option Value) → Heap → Prop} {YP : World → Heap → Prop} {d : DefRec} {K : Params → PySem.W.Frag} {CX : World → CXT} {sp : World → Sp} {x : Str}
  (hn : l.most = some n) (hn2 : n ≤ sizeLine) (hdf : d.params.defaults = []) (hr : Room k callerA)
  (hY : ∀ (w : World) (h : Heap), YP w h → (K w.params).In h)
  (F : ∀ (w : World) (mg : Str → Option Value) (fa : Addr) (h : Heap), (K w.params).In h → h.Ns mainGlobals mg → mg d.name = some (.ref fa) →
   ∃ fd : FuncData, (∀ (s : Shared) (u : Value), BindsTo s fd ⟨[u], []⟩ [(x, u)]) ∧
    ∀ base : Heap, (K w.params).In base → base.Ns mainGlobals mg → FnOk l.prog w (K w.params) mg base (CX w) k fa fd [x] (sp w))
  (hsp : ∀ (w : World) (H : Hp) (a : Addr) (ns : List Int), ns.length ≤ n → Only H → SqL (K w.params) H a (ns.map V.int) → sp w [.ref a] H (fun v _ => v = .bl true) fun _ _ _ => False)
  (hCX : ∀ (w : World) (H : Hp) (s : Shared) (e : Value) (s' : Shared), CX w [] H s (fun _ _ _ => False) e s' → False) :
  PySem.W.WalkO q loose XP YP l.row.toRowW d [] (fun f vs => PySem.call f vs) := by
 refine Att.attach_call hn hdf fun w s₀ s₁ mg mb fa o pm cd doc a vs ns G Y ho hd hcd hmg hobj hints hlen hg => ?_
 have KX := hY w _ Y
 obtain ⟨fd, hb, hF⟩ := F w mg fa _ KX G.T.g hmg
 exact k5h KX G.T.g G.T.b G.T.builtins G.T.nolimit hg hobj hints (Nat.le_trans hlen hn2) hr hF hb (fun H hO hS => hsp w H a ns hlen hO hS) fun H e s' => hCX w H s₁ e s'
end L2
namespace L2
open PySem PySem.Spec PyProof.Rows
def j3t (s : Stmt) : Arguments := match s with
 | .FunctionDef _ a _ _ _ _ _ _ _ _ => a
 | _ => { posonlyargs := [], args := [], vararg := none, kwonlyargs := [], kw_defaults := [], kwarg := none, defaults := [] }
def j2c (s : Stmt) : List Stmt := match s with
 | .FunctionDef _ _ b _ _ _ _ _ _ _ => b
 | _ => []
def j0h (s : Stmt) : Scope := match s with
 | .FunctionDef _ _ _ _ _ _ sc _ _ _ => sc
 | _ => { kind := .function, names := [], isGenerator := false, isCoroutine := false }
abbrev CX0 : CXT := fun _ _ _ _ _ _ => False
abbrev E0 : XK := fun _ _ _ => False
theorem q1y {X : Cx} : j8c CX0 X E0 := fun _ _ _ _ _ _ _ h => h.elim
structure Fun (K : PySem.W.Frag) (x qual : Str) (st : Stmt) (f : Addr) (fd : FuncData) : Prop where
 ex : ∃ (oc : Value) (od : Option Addr) (kV doc pm : Value) (an : Option Addr) (cdv ct : Value) (osl : Array (Option Value)),
  fd = PySem.W.fnOf x qual (j3t st) (j2c st) (j0h st) .none kV doc pm an cdv ct ∧ K.lookup f = some ⟨oc, od, .func fd, osl⟩ ∧ PySem.W.codeIn K cdv qual = true
 kp : PySem.W.keepIn K (.ref f) = true
section
variable {P : Program} {w : World} {K : PySem.W.Frag} {mg : Str → Option Value} {base : Heap}
theorem Fun.ok {x qual : Str} {st : Stmt} {f : Addr} {fd : FuncData} {N ps : List Str} {k : Nat} {sp : Sp} (F : Fun K x qual st f fd) (S : FnScope N ps (j0h st)) (len : ∀ vs H Q E, sp vs H Q E → vs.length = ps.length)
  (hbody : ∀ (cdv : Value) (A : Around) (outer : List Env) (s : Shared) (H : Hp) (vs : List V) (Q : VK) (E : XK), Room k (A.deeper (envOfC qual (j0h st) s.heap.objs.size f cdv)) → sp vs H Q E →
   ∃ t, PSs (cxOf CX0 P w K mg base N qual (j0h st) f cdv A outer s H E).nox (j2c st) t ∧ t { nx := fun _ H' => Q .non H', rt := Q } (start N vs) H) : FnOk P w K mg base CX0 (k + 1) f fd ps sp := by
 obtain ⟨oc, od, kV, doc, pm, an, cdv, ct, osl, rfl, lk, hcd⟩ := F.ex
 refine q2b lk hcd S len fun A outer s H vs Q E hr hsp => ?_
 obtain ⟨t, h, q⟩ := hbody cdv A outer s H vs Q E hr hsp
 exact ⟨t, h.nox, q⟩
theorem Fun.binds {x qual : Str} {st : Stmt} {f : Addr} {fd : FuncData} {ps : List Str} (F : Fun K x qual st f fd)
  (h : ∀ (kV doc pm : Value) (an : Option Addr) (cdv ct : Value) (us : List Value), us.length = ps.length → bindArgs (PySem.W.fnOf x qual (j3t st) (j2c st) (j0h st) .none kV doc pm an cdv ct) ⟨us, []⟩ = pure (ps.zip us)) : Binds K fd ps [] := by
 obtain ⟨oc, od, kV, doc, pm, an, cdv, ct, osl, rfl, lk, hcd⟩ := F.ex
 exact .all (h kV doc pm an cdv ct)
theorem q0t {x qual : Str} {st : Stmt} {f : Addr} {oc : Value} {od an : Option Addr} {osl : Array (Option Value)} {kV doc pm cdv ct : Value} (l : K.lookup f = some ⟨oc, od, .func (PySem.W.fnOf x qual (j3t st) (j2c st) (j0h st) .none kV doc pm an cdv ct), osl⟩)
  (c : PySem.W.codeIn K cdv qual = true) (k : PySem.W.keepIn K (.ref f) = true) : Fun K x qual st f (PySem.W.fnOf x qual (j3t st) (j2c st) (j0h st) .none kV doc pm an cdv ct) := ⟨⟨oc, od, kV, doc, pm, an, cdv, ct, osl, rfl, l, c⟩, k⟩
end
section
variable {X : Cx}
end
theorem iteF {A B : Prop} (h : B) : if false = true then A else B := by
 rw [if_neg Bool.false_ne_true]
 exact h
theorem iteT {A B : Prop} (h : A) : if true = true then A else B := by
 rw [if_pos rfl]
 exact h
theorem ite2 {c A B : Prop} [Decidable c] (h1 : c → A) (h2 : ¬ c → B) : if c then A else B := by
 by_cases h : c
 ·rw [if_pos h]
  exact h1 h
 ·rw [if_neg h]
  exact h2 h
def Same (H H' : Hp) : Prop := ∀ b o, H b = some o → H' b = some o
theorem Same.refl (H : Hp) : Same H H := fun _ _ h => h
theorem Same.trans {H H1 H2 : Hp} (a : Same H H1) (b : Same H1 H2) : Same H H2 := fun c o h => b c o (a c o h)
theorem Same.free {H H' : Hp} (e : Same H H') {l : Addr} (h : H' l = Option.none) : H l = Option.none := by
 cases q : H l with
 | none => rfl
 | some o =>
  rw [e l o q] at h
  cases h
theorem Same.seq {K : PySem.W.Frag} {H H' : Hp} {a : Addr} {xs : List V} (e : Same H H') (h : SqL K H a xs) : SqL K H' a xs := by
 rcases h with (h | ⟨o, h⟩) | h
 ·exact .inl (.inl (e _ _ h))
 ·exact .inl (.inr ⟨o, e _ _ h⟩)
 ·exact .inr h
end L2
namespace L2
open PySem PySem.Spec PyProof.Rows
section
variable {κ : Type} [DecidableEq κ]
def valV (kvs : List (κ × V)) (k : κ) : Option V := (kvs.find? fun kv => decide (kv.1 = k)).map (·.2)
def putK (kvs : List (κ × V)) (k : κ) (v : V) : List (κ × V) :=
 if (kvs.any fun kv => decide (kv.1 = k)) = true then kvs.map (fun kv => if kv.1 = k then (kv.1, v) else kv) else kvs ++ [(k, v)]
theorem j1g {p : κ × V} {r : List (κ × V)} {k : κ} (e : p.1 = k) : valV (p :: r) k = some p.2 := by simp [valV, List.find?_cons, e]
theorem j1f {p : κ × V} {r : List (κ × V)} {k : κ} (e : ¬ p.1 = k) : valV (p :: r) k = valV r k := by simp [valV, List.find?_cons, e]
theorem j3m (k : κ) : ∀ kvs : List (κ × V), (kvs.any fun kv => decide (kv.1 = k)) = (valV kvs k).isSome
 | [] => rfl
 | p :: r => by
  rw [List.any_cons]
  by_cases e : p.1 = k
  ·simp only [j1g e, decide_eq_true e, Bool.true_or, Option.isSome_some]
  ·rw [j1f e, decide_eq_false e, Bool.false_or]; exact j3m k r
theorem j9i (k j : κ) (y : V) : ∀ kvs : List (κ × V), valV (kvs.map fun kv => if kv.1 = k then (kv.1, y) else kv) j = (valV kvs j).map fun x => if j = k then y else x
 | [] => rfl
 | p :: r => by
  have ih := j9i k j y r
  rw [List.map_cons]
  by_cases h : p.1 = k
  ·rw [if_pos h]
   by_cases e : p.1 = j
   ·rw [j1g (p := (p.1, y)) e, j1g e, Option.map_some, if_pos (e.symm.trans h)]
   ·rw [j1f (p := (p.1, y)) e, j1f e, ih]
  ·rw [if_neg h]
   by_cases e : p.1 = j
   ·rw [j1g (p := p) e, j1g e, Option.map_some, if_neg (fun z => h (e.trans z))]
   ·rw [j1f (p := p) e, j1f e, ih]
theorem j7x (k j : κ) (y : V) : ∀ kvs : List (κ × V), valV kvs k = none → valV (kvs ++ [(k, y)]) j = if j = k then some y else valV kvs j
 | [], _ => by
  by_cases e : k = j
  ·rw [if_pos e.symm]; exact j1g (p := (k, y)) e
  ·rw [if_neg (fun z => e z.symm)]; exact j1f (p := (k, y)) e
 | p :: r, hn => by
  rw [List.cons_append]
  have hk : ¬ p.1 = k := fun z => by rw [j1g z] at hn; cases hn
  rw [j1f hk] at hn
  have ih := j7x k j y r hn
  by_cases e : p.1 = j
  ·rw [j1g e, j1g e, if_neg (fun z => hk (e.trans z))]
  ·rw [j1f e, j1f e, ih]
theorem j0q (kvs : List (κ × V)) (k j : κ) (y : V) : valV (putK kvs k y) j = if j = k then some y else valV kvs j := by
 unfold putK
 by_cases a : (kvs.any fun kv => decide (kv.1 = k)) = true
 ·rw [if_pos a, j9i]
  rw [j3m] at a
  by_cases e : j = k
  ·obtain ⟨x, hx⟩ := Option.isSome_iff_exists.mp a
   rw [if_pos e, e, hx, Option.map_some, if_pos rfl]
  ·rw [if_neg e]
   cases valV kvs j with
   | none => rfl
   | some x => rw [Option.map_some, if_neg e]
 ·rw [if_neg a]
  refine j7x k j y kvs ?_
  rw [j3m] at a
  cases q : valV kvs k with
  | none => rfl
  | some x => rw [q] at a; exact (a rfl).elim
theorem j0y (kvs : List (κ × V)) (k : κ) (v : V) : (putK kvs k v).length ≤ kvs.length + 1 := by
 unfold putK
 split
 ·rw [List.length_map]; omega
 ·rw [List.length_append, List.length_cons, List.length_nil]; omega
theorem j98 {kvs : List (κ × V)} {k : κ} (v : V) (h : valV kvs k = none) : putK kvs k v = kvs ++ [(k, v)] := by
 unfold putK
 rw [j3m, h]
 exact if_neg (by decide)
theorem RelO.isSome_eq {o : Option V} {u : Option Value} (r : RelO o u) : o.isSome = u.isSome := by
 cases o with
 | none => cases u with
  | none => rfl
  | some _ => exact (show False from r).elim
 | some _ => cases u with
  | none => exact (show False from r).elim
  | some _ => rfl
theorem KV.val {kvs : List (κ × V)} {vs : List (κ × Value)} (r : KV kvs vs) (k : κ) : RelO (valV kvs k) (valueAt vs k) := by
 unfold KV at r
 induction r with
 | nil => exact True.intro
 | @cons p q ps qs h t ih =>
  obtain ⟨h1, h2⟩ := h
  by_cases e : p.1 = k
  ·have e' : q.1 = k := h1.symm.trans e
   have b : valueAt (q :: qs) k = some q.2 := by simp [valueAt, List.find?_cons, e']
   rw [j1g e, b]; exact h2
  ·have e' : ¬ q.1 = k := fun z => e (h1.trans z)
   have b : valueAt (q :: qs) k = valueAt qs k := by simp [valueAt, List.find?_cons, e']
   rw [j1f e, b]; exact ih
theorem KV.any {kvs : List (κ × V)} {vs : List (κ × Value)} (r : KV kvs vs) (k : κ) : (kvs.any fun kv => decide (kv.1 = k)) = vs.any fun kv => decide (kv.1 = k) := by
 unfold KV at r
 induction r with
 | nil => rfl
 | cons h t ih => rw [List.any_cons, List.any_cons, ih, h.1]
theorem KV.repl {kvs : List (κ × V)} {vs : List (κ × Value)} (r : KV kvs vs) (k : κ) {y : V} {u : Value} (ry : RelV y u) :
  KV (kvs.map fun kv => if kv.1 = k then (kv.1, y) else kv) (vs.map fun kv => if kv.1 = k then (kv.1, u) else kv) := by
 unfold KV at r ⊢
 induction r with
 | nil => exact .nil
 | @cons p q ps qs h t ih =>
  rw [List.map_cons, List.map_cons]
  refine .cons ?_ ih
  obtain ⟨h1, h2⟩ := h
  by_cases e : p.1 = k
  ·rw [if_pos e, if_pos (h1.symm.trans e)]; exact ⟨h1, ry⟩
  ·rw [if_neg e, if_neg (fun z => e (h1.trans z))]; exact ⟨h1, h2⟩
theorem KV.put {kvs : List (κ × V)} {vs : List (κ × Value)} (r : KV kvs vs) (k : κ) {y : V} {u : Value} (ry : RelV y u) : KV (putK kvs k y) (stored vs k u) := by
 unfold putK stored
 rw [r.any k]
 by_cases e : (vs.any fun kv => decide (kv.1 = k)) = true
 ·rw [if_pos e, if_pos e]; exact r.repl k ry
 ·rw [if_neg e, if_neg e]; exact Paired.snoc r ⟨rfl, ry⟩
theorem KV.keys {kvs : List (κ × V)} {vs : List (κ × Value)} (r : KV kvs vs) : kvs.map (·.1) = vs.map (·.1) := by
 unfold KV at r
 induction r with
 | nil => rfl
 | cons h t ih => rw [List.map_cons, List.map_cons, ih, h.1]
theorem KV.length {kvs : List (κ × V)} {vs : List (κ × Value)} (r : KV kvs vs) : kvs.length = vs.length := Paired.length r
end
theorem j7v {P : Program} {w : World} {k : Key} {u : Value} (r : RelV (kV k) u) : (j03 P w).is k u = true := by
 cases k with
 | inl i => obtain ⟨t, e⟩ := (show ∃ t, u = Value.int i t from r); subst e; exact j8r P w i t
 | inr x => obtain ⟨t, e⟩ := (show ∃ t, u = Value.str x t from r); subst e; exact j9b P w x t
theorem j65 {P : Program} {w : World} : ∀ {ks : List Key} {us : List Value}, Vals (ks.map kV) us → ItemsAre (j03 P w) ks us
 | [], _, r => by rw [List.map_nil] at r; cases r; exact .nil
 | k :: ks, _, r => by
  rw [List.map_cons] at r
  cases r with
  | cons h t => exact .cons (j7v h) (j65 t)
abbrev KT (H : Hp) : List (List Key × V) → List (List Key × Addr × Value) → Prop := Paired fun p q => p.1 = q.1 ∧ H q.2.1 = some (.tup (p.1.map kV)) ∧ RelV p.2 q.2.2
theorem KT.val {H : Hp} {kvs : List (List Key × V)} {xs : List (List Key × Addr × Value)} (r : KT H kvs xs) (k : List Key) : RelO (valV kvs k) ((atKey xs k).map (·.2)) := by
 induction r with
 | nil => exact True.intro
 | @cons p q ps qs h t ih =>
  obtain ⟨h1, _, h2⟩ := h
  by_cases e : p.1 = k
  ·have e' : q.1 = k := h1.symm.trans e
   have b : atKey (q :: qs) k = some q.2 := by simp [atKey, List.find?_cons, e']
   rw [j1g e, b]; exact h2
  ·have e' : ¬ q.1 = k := fun z => e (h1.trans z)
   have b : atKey (q :: qs) k = atKey qs k := by simp [atKey, List.find?_cons, e']
   rw [j1f e, b]; exact ih
theorem KT.repl {H : Hp} {kvs : List (List Key × V)} {xs : List (List Key × Addr × Value)} (r : KT H kvs xs) (k : List Key) {y : V} {u : Value} (ry : RelV y u) :
  KT H (kvs.map fun kv => if kv.1 = k then (kv.1, y) else kv) (xs.map (putAt k u)) := by
 induction r with
 | nil => exact .nil
 | @cons p q ps qs h t ih =>
  rw [List.map_cons, List.map_cons]
  refine .cons ?_ ih
  obtain ⟨h1, h2, h3⟩ := h
  unfold putAt
  by_cases e : p.1 = k
  ·rw [if_pos e, if_pos (h1.symm.trans e)]; exact ⟨h1, h2, ry⟩
  ·rw [if_neg e, if_neg (fun z => e (h1.trans z))]; exact ⟨h1, h2, h3⟩
theorem KT.put {H : Hp} {kvs : List (List Key × V)} {xs : List (List Key × Addr × Value)} (r : KT H kvs xs) (k : List Key) {b : Addr} {y : V} {u : Value} (hb : H b = some (.tup (k.map kV))) (ry : RelV y u) :
  KT H (putK kvs k y) (storedH xs k b u) := by
 have e : (kvs.any fun kv => decide (kv.1 = k)) = (atKey xs k).isSome := by
  rw [j3m, (r.val k).isSome_eq, Option.isSome_map]
 unfold putK storedH
 rw [e]
 by_cases q : (atKey xs k).isSome = true
 ·rw [if_pos q, if_pos q]; exact r.repl k ry
 ·rw [if_neg q, if_neg q]; exact Paired.snoc r ⟨rfl, hb, ry⟩
theorem KT.keeps {H H' : Hp} {kvs : List (List Key × V)} {xs : List (List Key × Addr × Value)} (r : KT H kvs xs) (ht : ∀ b ys, H b = some (.tup ys) → H' b = some (.tup ys)) : KT H' kvs xs :=
 Paired.mapP r fun _ _ z => ⟨z.1, ht _ _ z.2.1, z.2.2⟩
section
variable {P : Program} {w : World} {H : Hp} {h : Heap} {a : Addr}
theorem q1o {u : HO} (ok : HOk P w H h) (e : Rd H a u) : ObjOk P w H h a u := e.ok ok
theorem k01 {kvs : List (Key × V)} (ok : HOk P w H h) (e : Rd H a (.dK kvs)) : kvs.length ≤ sizeLine ∧ (a == sysModules) = false ∧ ∃ vs, KV kvs vs ∧ h.DictOf (j03 P w) a vs :=
 show ObjOk P w H h a (.dK kvs) from q1o ok e
theorem k1i {kvs : List (Key × V)} (ok : HOk P w H h) (e : H a = some (.dK kvs)) : kvs.length ≤ sizeLine ∧ (a == sysModules) = false ∧ ∃ vs, KV kvs vs ∧ h.DictOf (j03 P w) a vs := k01 ok (.inl e)
theorem j53 {ks : List Key} (ok : HOk P w H h) (e : H a = some (.tup (ks.map kV))) : (tupleKind (j03 P w)).is h ks a := by
 obtain ⟨_, its, r, o, h1, h2, n, h3⟩ := (show ObjOk P w H h a (.tup (ks.map kV)) from ok a _ e)
 exact ⟨o, its.toArray, n, h1, h2, h3, by simpa using j65 r⟩
theorem k29 {kvs : List (List Key × V)} (ok : HOk P w H h) (e : Rd H a (.dT kvs)) : kvs.length ≤ sizeLine ∧ (a == sysModules) = false ∧
  ∃ xs, KT H kvs xs ∧ h.DictOfH (tupleKind (j03 P w)) a xs := by
 obtain ⟨z, y, xs, r, o, es, ep, h1, h2, h3, h4, h5⟩ := (show ObjOk P w H h a (.dT kvs) from q1o ok e)
 refine ⟨z, y, xs, r, o, es, ep, h1, h2, h3, h4, fun x hx => ?_, h5⟩
 have all : ∀ {l : List (List Key × V)} {m : List (List Key × Addr × Value)}, KT H l m → ∀ x ∈ m, (tupleKind (j03 P w)).is h x.1 x.2.1 := by
  intro l m q
  induction q with
  | nil => intro x hx; exact nomatch hx
  | @cons p q ps qs hq t ih =>
   intro x hx
   rcases List.mem_cons.mp hx with e | hx
   ·subst e
    exact j53 ok (by rw [← hq.1]; exact hq.2.1)
   ·exact ih x hx
 exact all r x hx
theorem k9w {kvs : List (List Key × V)} (ok : HOk P w H h) (e : H a = some (.dT kvs)) : kvs.length ≤ sizeLine ∧ (a == sysModules) = false ∧
  ∃ xs, KT H kvs xs ∧ h.DictOfH (tupleKind (j03 P w)) a xs := k29 ok (.inl e)
end
def DGet (H : Hp) (a : Addr) (y : V) (r : Option V) : Prop :=
 (∃ kvs k, Rd H a (.dK kvs) ∧ y = kV k ∧ r = valV kvs k) ∨ ∃ kvs k b, Rd H a (.dT kvs) ∧ y = .ref b ∧ H b = some (.tup (k.map kV)) ∧ r = valV kvs k
def DPut (H : Hp) (a : Addr) (y v : V) (H' : Hp) : Prop :=
 (∃ kvs k, H a = some (.dK kvs) ∧ y = kV k ∧ kvs.length < sizeLine ∧ H' = upd H a (.dK (putK kvs k v))) ∨
 ∃ kvs k b, H a = some (.dT kvs) ∧ y = .ref b ∧ H b = some (.tup (k.map kV)) ∧ kvs.length < sizeLine ∧ H' = upd H a (.dT (putK kvs k v))
theorem DGet.k {H : Hp} {a : Addr} {kvs : List (Key × V)} {k : Key} (e : H a = some (.dK kvs)) : DGet H a (kV k) (valV kvs k) := .inl ⟨kvs, k, .inl e, rfl, rfl⟩
theorem DGet.t {H : Hp} {a b : Addr} {kvs : List (List Key × V)} {k : List Key} (e : H a = some (.dT kvs)) (eb : H b = some (.tup (k.map kV))) : DGet H a (.ref b) (valV kvs k) := .inr ⟨kvs, k, b, .inl e, rfl, eb, rfl⟩
theorem DPut.k {H : Hp} {a : Addr} {kvs : List (Key × V)} {k : Key} {v : V} (e : H a = some (.dK kvs)) (hl : kvs.length < sizeLine) : DPut H a (kV k) v (upd H a (.dK (putK kvs k v))) := .inl ⟨kvs, k, e, rfl, hl, rfl⟩
theorem DPut.t {H : Hp} {a b : Addr} {kvs : List (List Key × V)} {k : List Key} {v : V} (e : H a = some (.dT kvs)) (eb : H b = some (.tup (k.map kV))) (hl : kvs.length < sizeLine) :
  DPut H a (.ref b) v (upd H a (.dT (putK kvs k v))) := .inr ⟨kvs, k, b, e, rfl, eb, hl, rfl⟩
section
variable {X : Cx} {pins : List (Addr × Obj)} {σ : St} {H : Hp} {s : Shared} {a : Addr} {y v : V} {u r : Value} {o : Option V} {A : Around} {E : Value → Shared → Prop}
theorem Inv.big (I : Inv X pins σ H s) : sysModules < s.heap.objs.size := by
 have h : mainGlobals < s.heap.objs.size := (I.mod.glob.keeps I.bk).lt
 exact Nat.lt_trans (by decide) h
theorem k1f {Q : Value → Shared → Prop} (hu : A.units + 1 < cLine) (I : Inv X pins σ H s) (g : DGet H a y (some v)) (ry : RelV y u) (h : ∀ w' s', Inv X pins σ H s' → RelV v w' → Q w' s') :
  wpAny (model X.prog X.w) A (getItem (.ref a) u) Q E s := by
 rcases g with ⟨kvs, k, e, ey, l⟩ | ⟨kvs, k, b, e, ey, eb, l⟩
 ·subst ey
  obtain ⟨z, hd, vs, rel, dd⟩ := k01 I.hok e
  obtain ⟨w', hw, rw'⟩ := RelO.some_of (v := v) (o := valueAt vs k) (by rw [l]; exact rel.val k)
  exact wpAny_getItem_of (j7v ry) dd.mapOf hw (h w' _ (I.tok _) rw')
 ·subst ey
  cases (show u = Value.ref b from ry)
  obtain ⟨z, hd, xs, rel, dd⟩ := k29 I.hok e
  obtain ⟨w', hw, rw'⟩ := RelO.some_of (v := v) (o := (atKey xs k).map (·.2)) (by rw [l]; exact rel.val k)
  obtain ⟨p, hp, hp2⟩ := Option.map_eq_some_iff.mp hw
  refine wpAny_getItem_heap (tupleKind_room_in1 hu) (j53 I.hok eb) dd hp ?_
  rw [hp2]
  exact h w' _ (I.tok _) rw'
theorem d_in {Q : Value → Shared → Prop} (hu : A.units + 1 < cLine) (I : Inv X pins σ H s) (g : DGet H a y o) (ry : RelV y u) (h : ∀ s', Inv X pins σ H s' → Q (.bool o.isSome) s') :
  wpAny (model X.prog X.w) A (compareOp .In u (.ref a)) Q E s := by
 rcases g with ⟨kvs, k, e, ey, l⟩ | ⟨kvs, k, b, e, ey, eb, l⟩
 ·subst ey
  obtain ⟨z, hd, vs, rel, dd⟩ := k01 I.hok e
  refine wpAny_in_of (j7v ry) hd dd.mapOf ?_
  rw [← (rel.val k).isSome_eq, ← l]
  exact h _ (I.tok _)
 ·subst ey
  cases (show u = Value.ref b from ry)
  obtain ⟨z, hd, xs, rel, dd⟩ := k29 I.hok e
  refine wpAny_in_heap (tupleKind_room_in1 hu) (j53 I.hok eb) hd dd ?_
  have q := (rel.val k).isSome_eq
  rw [Option.isSome_map] at q
  rw [← q, ← l]
  exact h _ (I.tok _)
theorem k80 {Q : Value → Shared → Prop} (hu : A.units + 1 < cLine) (I : Inv X pins σ H s) (g : DGet H a y o) (ry : RelV y u) (h : ∀ s', Inv X pins σ H s' → Q (.bool (!o.isSome)) s') :
  wpAny (model X.prog X.w) A (compareOp .NotIn u (.ref a)) Q E s := by
 rcases g with ⟨kvs, k, e, ey, l⟩ | ⟨kvs, k, b, e, ey, eb, l⟩
 ·subst ey
  obtain ⟨z, hd, vs, rel, dd⟩ := k01 I.hok e
  refine wpAny_notIn_of (j7v ry) hd dd.mapOf ?_
  rw [← (rel.val k).isSome_eq, ← l]
  exact h _ (I.tok _)
 ·subst ey
  cases (show u = Value.ref b from ry)
  obtain ⟨z, hd, xs, rel, dd⟩ := k29 I.hok e
  refine wpAny_notIn_heap (tupleKind_room_in1 hu) (j53 I.hok eb) hd dd ?_
  have q := (rel.val k).isSome_eq
  rw [Option.isSome_map] at q
  rw [← q, ← l]
  exact h _ (I.tok _)
theorem j3a {h' : Heap} {t' : Nat} {ob : HO} (I : Inv X pins σ H s) (mu : Mut (H a)) (hs : Heap.SameBut a s.heap h') (he : ∃ q, h'.get? a = some q) (new : ObjOk X.prog X.w (upd H a ob) h' a ob) :
  Inv X pins σ (upd H a ob) { s with heap := h', toks := t' } :=
 I.write (x := a) (e := a) mu (.inl rfl) (fun b q hb z => (hs.2 b hb).trans z) he new
theorem k3u {P : Program} {w : World} {H' : Hp} {h' : Heap} {kvs : List (Key × V)} {vs : List (Key × Value)} (z : kvs.length ≤ sizeLine) (hd : (a == sysModules) = false) (rel : KV kvs vs) (dd : h'.DictOf (j03 P w) a vs) :
  ObjOk P w H' h' a (.dK kvs) := ⟨z, hd, vs, rel, dd⟩
theorem k2r {H' : Hp} {Q : Unit → Shared → Prop} (hu : A.units + 1 < cLine) (I : Inv X pins σ H s) (g : DPut H a y v H') (ry : RelV y u) (rv : RelV v r) (h : ∀ s', Inv X pins σ H' s' → Q () s') :
  wpAny (model X.prog X.w) A (setItem (.ref a) u r) Q E s := by
 rcases g with ⟨kvs, k, e, ey, l, eH⟩ | ⟨kvs, k, b, e, ey, eb, l, eH⟩
 ·subst ey eH
  obtain ⟨z, hd, vs, rel, dd⟩ := k1i I.hok e
  have hz : vs.length ≤ sizeLine := by rw [← rel.length]; exact z
  have hl : (putK kvs k v).length ≤ sizeLine := by have := j0y kvs k v; omega
  refine wpAny_setItem_pairs (hsz := hz) (j7v ry) dd fun h' dd' hs => h _ ?_
  have he : ∃ q, h'.get? a = some q := let ⟨q, _, _, hq, _⟩ := dd'; ⟨q, hq⟩
  exact j3a I (by rw [e]; exact True.intro) hs he (k3u hl hd (rel.put k rv) dd')
 ·subst ey eH
  cases (show u = Value.ref b from ry)
  obtain ⟨z, hd, xs, rel, dd⟩ := k9w I.hok e
  have hz : xs.length ≤ sizeLine := by rw [← Paired.length rel]; exact z
  have hl : (putK kvs k v).length ≤ sizeLine := by have := j0y kvs k v; omega
  refine wpAny_setItem_heap (hsz := hz) (tupleKind_room_in1 hu) (j53 I.hok eb) dd fun h' dd' hs => h _ ?_
  obtain ⟨q, es, ep, hq, h2, h3, h4, _, h5⟩ := dd'
  refine j3a I (by rw [e]; exact True.intro) hs ⟨q, hq⟩ ⟨hl, hd, _, (rel.put k eb rv).keeps fun c ys ec => ?_, q, es, ep, hq, h2, h3, h4, h5⟩
  rw [j0c (j1j ec e (fun z => nomatch z))]
  exact ec
end
section
variable {X : Cx} {pins : List (Addr × Obj)} {σ : St} {H : Hp} {s : Shared} {a : Addr} {kvs : List (Key × V)} {k : Key} {u : Value} {A : Around} {E : Value → Shared → Prop}
end
def NoSl (i : Expr) : Prop := ∀ ov iv, subscripted i false ov iv = operate [ov, iv] (getItem ov iv)
theorem k88 {prog : Program} {w : World} {A : Around} {E : Value → Shared → Prop} {s : Shared} {env : Env} {value slice : Expr} {pos : Pos} {T id : String} {Q : Value → Shared → Prop}
  (hl : typeLookup (.type T) "__getitem__" = pure (some (.builtin id))) (hs : NoSl slice)
  (h : wpAny (model prog w) A (eval value env) (fun o s₁ => wpAny (model prog w) A (eval slice env) (fun i s₂ => s₂.TypeIs o T ∧ wpAny (model prog w) A (getItem o i) Q E s₂) E s₁) E s) :
  wpAny (model prog w) A (eval (.Subscript value slice pos) env) Q E s := by
 refine Subscript_ (wpAny_mono h (fun o s₁ h₁ => wpAny_mono h₁ (fun i s₂ h₂ => ?_) fun _ _ x => x) fun _ _ x => x)
 obtain ⟨hT, h₂⟩ := h₂
 unfold subscriptTail
 refine wpAny_bind ?_
 rw [getitemInPython_of_ne hT.not_modules]
 refine wpAny_bind (wpAny_specialOf hT hl ?_)
 have fin : wpAny (model prog w) A (subscripted slice false o i) (fun r s₃ => wpAny (model prog w) A (letTemporaryGo value o r >>= fun _ => pure r) Q E s₃) E s₂ := by
  rw [hs o i]
  exact wpAny_operating (wpAny_mono h₂ (fun r s₃ h₃ => wpAny_bind (wpAny_letTemporaryGo (wpAny_pure h₃))) fun _ _ x => x)
 first
  | exact wpAny_pure (wpAny_bind fin)
  | exact wpAny_bind (wpAny_pure (wpAny_bind fin))
  | exact wpAny_bind fin
theorem j8p {X : Cx} {pins : List (Addr × Obj)} {σ : St} {H : Hp} {s : Shared} {a : Addr} {y : V} {o : Option V} (I : Inv X pins σ H s) (g : DGet H a y o) : s.TypeIs (.ref a) "dict" := by
 rcases g with ⟨kvs, k, e, _, _⟩ | ⟨kvs, k, b, e, _, _, _⟩
 ·obtain ⟨_, _, vs, _, dd⟩ := k01 I.hok e
  exact dd.typeIs
 ·obtain ⟨_, _, xs, _, dd⟩ := k29 I.hok e
  exact dd.typeIs
def q2p (td ty : TE) : TE := fun σ H Q => td σ H fun x H1 => ty σ H1 fun y H2 => ∃ a v, x = .ref a ∧ DGet H2 a y (some v) ∧ Q v H2
def tDIn (ty td : TE) : TE := fun σ H Q => ty σ H fun y H1 => td σ H1 fun x H2 => ∃ a o, x = .ref a ∧ DGet H2 a y o ∧ Q (.bl o.isSome) H2
def k66 (ty td : TE) : TE := fun σ H Q => ty σ H fun y H1 => td σ H1 fun x H2 => ∃ a o, x = .ref a ∧ DGet H2 a y o ∧ Q (.bl (!o.isSome)) H2
def q15 (td ty tv : TE) : TS := fun D σ H => tv σ H fun v H1 => td σ H1 fun x H2 => ty σ H2 fun y H3 => ∃ a H4, x = .ref a ∧ DPut H3 a y v H4 ∧ D.nx σ H4
section
variable {X : Cx} {o i e value : Expr} {pos pos' tpos : Pos} {td ty tv : TE}
theorem k7k (hu : X.A.units + 1 < cLine) (ho : PE X o td) (hi : PE X i ty) (hs : NoSl i) : PE X (.Subscript o i pos) (q2p td ty) := by
 intro pins s σ H Q I h
 refine k88 PySem.F.slot_dict_getitem.lookup hs (thn (ho pins s σ H _ I h) fun u s1 ⟨x, H1, I1, rx, q1⟩ => thn (hi pins s1 σ H1 _ I1 q1) fun iv s2 ⟨y, H2, I2, ry, a, v, ex, g, q2⟩ => ?_)
 subst ex
 obtain rfl : u = Value.ref a := rx
 exact ⟨j8p I2 g, k1f hu I2 g ry fun w' s3 I3 rw' => ⟨v, H2, I3, rw', q2⟩⟩
theorem q0y (hu : X.A.units + 1 < cLine) (hi : PE X i ty) (ho : PE X o td) : PC X .In i o (tDIn ty td) := by
 intro pins s σ H Q I h
 refine thn (hi pins s σ H _ I h) fun iv s1 ⟨y, H1, I1, ry, q1⟩ => thn (ho pins s1 σ H1 _ I1 q1) fun u s2 ⟨x, H2, I2, rx, a, ov, ex, g, q2⟩ => ?_
 subst ex
 obtain rfl : u = Value.ref a := rx
 exact d_in hu I2 g ry fun s3 I3 => ⟨.bl ov.isSome, H2, I3, rfl, q2⟩
theorem k17 (hu : X.A.units + 1 < cLine) (hi : PE X i ty) (ho : PE X o td) : PC X .NotIn i o (k66 ty td) := by
 intro pins s σ H Q I h
 refine thn (hi pins s σ H _ I h) fun iv s1 ⟨y, H1, I1, ry, q1⟩ => thn (ho pins s1 σ H1 _ I1 q1) fun u s2 ⟨x, H2, I2, rx, a, ov, ex, g, q2⟩ => ?_
 subst ex
 obtain rfl : u = Value.ref a := rx
 exact k80 hu I2 g ry fun s3 I3 => ⟨.bl (!ov.isSome), H2, I3, rfl, q2⟩
theorem k8h (hu : X.A.units + 1 < cLine) (ho : PE X o td) (hi : PE X i ty) (hv : PE X value tv) (hs : swapsWith value (some (.Subscript o i pos')) pos.line X.env = pure false) :
  PS X (.Assign [.Subscript o i pos'] value pos) (q15 td ty tv) := by
 intro pins s σ H D I h
 refine wpAny_Assign_Subscript (thn (hv pins s σ H _ I h) fun r s1 ⟨v, H1, I1, rv, q1⟩ => thn (ho pins s1 σ H1 _ I1 q1) fun u s2 ⟨x, H2, I2, rx, q2⟩ => thn (hi pins s2 σ H2 _ I2 q2) fun iv s3 ⟨y, H3, I3, ry, a, H4, ex, g, q3⟩ => ?_) hs
 subst ex
 obtain rfl : u = Value.ref a := rx
 exact k2r hu I3 g ry rv fun s4 I4 => ⟨σ, H4, I4, q3⟩
end
theorem j96 {P : Program} {w : World} {H : Hp} (h : Heap) (hb : sysModules < h.objs.size) : ObjOk P w H (h.push { cls := .type "dict", data := .dict #[] }) h.objs.size (.dK []) :=
 ⟨Nat.zero_le _, beq_eq_false_iff_ne.mpr (Ne.symm (Nat.ne_of_lt hb)), [], .nil, Heap.DictOf.new h⟩
theorem j6n {P : Program} {w : World} {H : Hp} (h : Heap) (hb : sysModules < h.objs.size) : ObjOk P w H (h.push { cls := .type "dict", data := .dict #[] }) h.objs.size (.dT []) :=
 ⟨Nat.zero_le _, beq_eq_false_iff_ne.mpr (Ne.symm (Nat.ne_of_lt hb)), [], .nil, _, #[], 0, Heap.get?_push_size _ rfl, ⟨rfl, rfl, rfl⟩, rfl, rfl, List.nodup_nil⟩
def q1u : TE := fun _ H Q => ∀ p, H p = none → Q (.ref p) (upd H p (.dK []))
def k9i : TE := fun _ H Q => ∀ p, H p = none → Q (.ref p) (upd H p (.dT []))
section
variable {X : Cx} {pos : Pos}
theorem k4n : PE X (.Dict [] [] pos) q1u := fun pins s σ H Q I h =>
 wpAny_Dict_empty ⟨.ref s.heap.objs.size, _, I.laid (a := s.heap.objs.size) (o := .dK []) (t' := s.toks) (fun _ _ q => Heap.get?_push_of_some _ q) (Nat.le_refl _) (j96 s.heap I.big), rfl, h _ (I.hok.fresh (Nat.le_refl _))⟩
theorem k5r : PE X (.Dict [] [] pos) k9i := fun pins s σ H Q I h =>
 wpAny_Dict_empty ⟨.ref s.heap.objs.size, _, I.laid (a := s.heap.objs.size) (o := .dT []) (t' := s.toks) (fun _ _ q => Heap.get?_push_of_some _ q) (Nat.le_refl _) (j6n s.heap I.big), rfl, h _ (I.hok.fresh (Nat.le_refl _))⟩
end
section
variable {X : Cx} {pins : List (Addr × Obj)} {σ : St} {H : Hp} {s : Shared} {a : Addr} {y d : V} {u r : Value} {o : Option V} {A : Around} {E : Value → Shared → Prop}
end
section
variable {X : Cx} {o e f : Expr} {apos cpos : Pos} {td ty tx : TE}
end
section
variable {X : Cx} {pins : List (Addr × Obj)} {σ : St} {H : Hp} {s : Shared} {a : Addr} {kvs : List (Key × V)} {A : Around} {E : Value → Shared → Prop}
end
section
variable {X : Cx} {pins : List (Addr × Obj)} {σ : St} {H : Hp} {s : Shared} {a : Addr} {y : V} {u : Value} {A : Around} {E : Value → Shared → Prop}
end
end L2
namespace L2
open PySem PySem.Spec PyProof.Rows
section
variable {X : Cx}
end
section
variable {κ : Type} [DecidableEq κ]
theorem j8n {kvs : List (κ × V)} {k : κ} {v : V} (h : valV kvs k = some v) : k ∈ kvs.map (·.1) := by
 have q : (kvs.any fun kv => decide (kv.1 = k)) = true := by
  rw [j3m, h]
  all_goals rfl
 obtain ⟨p, hp, e⟩ := List.any_eq_true.mp q
 exact List.mem_map.mpr ⟨p, hp, of_decide_eq_true e⟩
theorem j23 : ∀ {l : List κ} {k : κ}, l.Nodup → ¬ k ∈ l → (l ++ [k]).Nodup
 | [], k, _, _ => by simp
 | a :: r, k, h, hk => by
  obtain ⟨h1, h2⟩ := List.nodup_cons.mp h
  show (a :: (r ++ [k])).Nodup
  refine List.nodup_cons.mpr ⟨fun m => ?_, j23 h2 fun m => hk (List.mem_cons.mpr (Or.inr m))⟩
  rcases List.mem_append.mp m with q | q
  ·exact h1 q
  ·exact hk (List.mem_cons.mpr (Or.inl (List.mem_singleton.mp q).symm))
end
end L2
set_option maxHeartbeats 4000000
namespace L2
open PySem PySem.Spec PyProof.Rows
section
variable {X : Cx} {tg : Expr}
end
theorem j08 {env : Env} : ∀ {names : List (Str × NameKind)} {x : Str} {k' : NameKind},
  (names.map fun (n, k) => if (k == NameKind.free && env.scope.kind == .function && env.kindOf n == some .cell) then (n, NameKind.cell) else (n, k)).lookup x = some k' →
  ∃ k, names.lookup x = some k ∧ (k' = k ∨ (k = .free ∧ k' = .cell))
 | [], _, _, h => by simp at h
 | (n, k) :: r, x, k', h => by
  have ih := @j08 env r x k'
  change List.lookup x ((if (k == NameKind.free && env.scope.kind == .function && env.kindOf n == some .cell) = true then (n, NameKind.cell) else (n, k)) :: _) = _ at h
  cases hx : x == n with
  | true =>
   by_cases hc : (k == NameKind.free && env.scope.kind == .function && env.kindOf n == some .cell) = true
   ·rw [if_pos hc] at h
    simp only [List.lookup_cons, hx] at h
    cases h
    have hk : k = .free := by
     have := (Bool.and_eq_true _ _ ▸ (Bool.and_eq_true _ _ ▸ hc).1).1
     cases k <;> first | rfl | (exact absurd this (by decide))
    exact ⟨k, by simp [List.lookup_cons, hx], .inr ⟨hk, rfl⟩⟩
   ·rw [if_neg hc] at h
    simp only [List.lookup_cons, hx] at h
    cases h
    exact ⟨k, by simp [List.lookup_cons, hx], .inl rfl⟩
  | false =>
   have h2 : ∃ k, r.lookup x = some k ∧ (k' = k ∨ (k = .free ∧ k' = .cell)) := by
    by_cases hc : (k == NameKind.free && env.scope.kind == .function && env.kindOf n == some .cell) = true
    ·rw [if_pos hc] at h
     simp only [List.lookup_cons, hx] at h
     exact ih h
    ·rw [if_neg hc] at h
     simp only [List.lookup_cons, hx] at h
     exact ih h
   obtain ⟨k2, e2, r2⟩ := h2
   exact ⟨k2, by simp [List.lookup_cons, hx, e2], r2⟩
def j0v (names : List (Str × NameKind)) (cells : List (Str × Addr)) (acc : List (Str × Addr)) : List (Str × Addr) :=
 names.foldl (fun a x => if x.2 == .free then (match cells.lookup x.1 with | some c => (x.1, c) :: a | none => a) else a) acc
theorem j2j {scope : Scope} {env : Env} (h : ∀ x ∈ scope.names, x.2 = .free → ∃ c, env.cells.lookup x.1 = some c) : closureFor scope env = pure (j0v scope.names env.cells []) := by
 have all : ∀ (l : List (Str × NameKind)) (acc : List (Str × Addr)), (∀ x ∈ l, x.2 = .free → ∃ c, env.cells.lookup x.1 = some c) →
   (forIn l acc fun (x : Str × NameKind) (cs : List (Str × Addr)) => (if x.2 == .free then (do let c ← cellOf env x.1; pure (ForInStep.yield ((x.1, c) :: cs))) else pure (ForInStep.yield cs) : Sem _)) = pure (j0v l env.cells acc) := by
  intro l
  induction l with
  | nil => intro acc _; rfl
  | cons x r ih =>
   intro acc hl
   rw [List.forIn_cons]
   have hr : ∀ y ∈ r, y.2 = .free → ∃ c, env.cells.lookup y.1 = some c := fun y hy => hl y (List.mem_cons_of_mem _ hy)
   cases hk : x.2 == .free with
   | true =>
    have hkk : x.2 = .free := by
     revert hk
     cases x.2 <;> intro hk <;> first | rfl | (exact absurd hk (by decide))
    obtain ⟨c, hc⟩ := hl x List.mem_cons_self hkk
    simp only [if_true, cellOf, hc]
    rw [show j0v (x :: r) env.cells acc = j0v r env.cells ((x.1, c) :: acc) by unfold j0v; rw [List.foldl_cons]; simp [hk, hc]]
    exact ih _ hr
   | false =>
    simp only [Bool.false_eq_true, if_false]
    rw [show j0v (x :: r) env.cells acc = j0v r env.cells acc by unfold j0v; rw [List.foldl_cons]; simp [hk]]
    exact ih _ hr
 have q := all scope.names [] h
 simp only [closureFor]
 exact (congrArg (· >>= fun r => pure r) q).trans rfl
end L2
namespace L2
open PySem PySem.Spec PyProof.Rows
theorem j2k : ∀ (names : List (Str × NameKind)) (cells acc : List (Str × Addr)), (∀ x c, (x, c) ∈ acc → cells.lookup x = some c) → ∀ x c, (x, c) ∈ j0v names cells acc → cells.lookup x = some c
 | [], _, _, h => h
 | y :: r, cells, acc, h => by
  have e : j0v (y :: r) cells acc = j0v r cells (if y.2 == .free then (match cells.lookup y.1 with | some c => (y.1, c) :: acc | none => acc) else acc) := rfl
  rw [e]
  refine j2k r cells _ ?_
  cases hk : y.2 == .free with
  | false => simpa using h
  | true =>
   cases hc : cells.lookup y.1 with
   | none => simpa using h
   | some c =>
    intro x d hx
    simp only [if_true] at hx
    rcases List.mem_cons.mp hx with e | hx
    ·cases e; exact hc
    ·exact h x d hx
theorem j5p : ∀ (names : List (Str × NameKind)) (cells acc : List (Str × Addr)) (x : Str) (c : Addr), (x, c) ∈ acc → (x, c) ∈ j0v names cells acc
 | [], _, _, _, _, h => h
 | y :: r, cells, acc, x, c, h => by
  have e : j0v (y :: r) cells acc = j0v r cells (if y.2 == .free then (match cells.lookup y.1 with | some c => (y.1, c) :: acc | none => acc) else acc) := rfl
  rw [e]
  refine j5p r cells _ x c ?_
  cases hk : y.2 == .free with
  | false => simpa using h
  | true =>
   cases hc : cells.lookup y.1 with
   | none => simpa using h
   | some d => simp only [if_true]; exact List.mem_cons_of_mem _ h
theorem j2w : ∀ (names : List (Str × NameKind)) (cells acc : List (Str × Addr)) (x : Str) (c : Addr), (x, NameKind.free) ∈ names → cells.lookup x = some c → (x, c) ∈ j0v names cells acc
 | [], _, _, _, _, h, _ => by cases h
 | y :: r, cells, acc, x, c, h, hc => by
  have e : j0v (y :: r) cells acc = j0v r cells (if y.2 == .free then (match cells.lookup y.1 with | some c => (y.1, c) :: acc | none => acc) else acc) := rfl
  rw [e]
  rcases List.mem_cons.mp h with e2 | h
  ·subst e2
   refine j5p r cells _ x c ?_
   have : (NameKind.free == NameKind.free) = true := rfl
   simp only [hc, this, if_true]
   exact List.mem_cons_self
  ·exact j2w r cells _ x c h hc
theorem j09 {α : Type} : ∀ {l : List (Str × α)} {x : Str} {c : α}, (x, c) ∈ l → ∃ d, l.lookup x = some d
 | [], _, _, h => by cases h
 | (n, d) :: r, x, c, h => by
  cases hx : x == n with
  | true => exact ⟨d, by simp [List.lookup_cons, hx]⟩
  | false =>
   rcases List.mem_cons.mp h with e | h
   ·cases e; simp at hx
   ·obtain ⟨d', e⟩ := j09 h
    exact ⟨d', by simp [List.lookup_cons, hx, e]⟩
section
variable {prog : Program} {w : World} {A : Around} {R : Result → Shared → Prop} {s : Shared}
theorem j2d {elt target iter : Expr} {ifs : List Expr} {scope : Scope} {pos : Pos} {it acc : Value} {env : Env} (I : Nat → Shared → Prop)
  (turn : ∀ n s, I n s → wpAny (model prog w) A (pyNext it) (fun r s₁ => match r with
   | none => R (.ok .next) s₁
   | some v => wpAny (model prog w) A (letOwnedTupleGo target it v) (fun _ s₁' => wpAny (model prog w) A (assign target env v) (fun _ s₂ =>
     wpAny (model prog w) A (forIn ifs true fun c r => if r = true then do let ok ← isTrue c env (eval c env); pure (ForInStep.yield ok) else pure (ForInStep.yield r)) (fun ok s₃ =>
      if ok = true then wpAny (model prog w) A (eval elt env) (fun x s₄ =>
       wpAny (model prog w) A (call (.builtin "list.append") [acc, x]) (fun _ s₅ => ∃ m, m < n ∧ I m s₅) (notedBy (model prog w) A env fun e s' => R (.error e) s') s₄) (notedBy (model prog w) A env fun e s' => R (.error e) s') s₃
      else ∃ m, m < n ∧ I m s₃) (notedBy (model prog w) A env fun e s' => R (.error e) s') s₂) (notedBy (model prog w) A env fun e s' => R (.error e) s') s₁') (notedBy (model prog w) A env fun e s' => R (.error e) s') s₁) (notedBy (model prog w) A env fun e s' => R (.error e) s') s)
  (n : Nat) (h : I n s) :
  codeAny (model prog w) A (.compLoop (.ListComp elt [⟨target, iter, ifs, 0⟩] scope pos) 0 it acc env) R s := by
 refine codeAny_loop rfl I (fun n s hI => ?_) n h
 show wpAny _ A ((compTurn (.ListComp elt [⟨target, iter, ifs, 0⟩] scope pos) 0 it acc env).onRaise (fun x => do noteFrame x env; theTreesLotGoes x)) _ _ s
 refine wpAny_noted ?_
 rw [compTurn_list]
 refine wpAny_bind (wpAny_standAt (wpAny_bind (wpAny_mono (turn n s hI) (fun r s₁ h₁ => ?_) fun _ _ h' => h')))
 cases r with
 | none => exact wpAny_pure h₁
 | some v =>
  refine wpAny_bind (wpAny_mono h₁ (fun _ s₁' h₁' => ?_) fun _ _ h' => h')
  refine wpAny_bind (wpAny_mono h₁' (fun _ s₂ h₂ => wpAny_bind (wpAny_mono h₂ (fun ok s₃ h₃ => ?_) fun _ _ h' => h')) fun _ _ h' => h')
  cases ok with
  | false => exact wpAny_pure ⟨rfl, h₃⟩
  | true =>
   exact wpAny_bind (wpAny_bind (wpAny_mono h₃ (fun x s₄ h₄ => wpAny_bind (wpAny_mono h₄ (fun _ s₅ h₅ => wpAny_pure (wpAny_pure ⟨rfl, h₅⟩)) fun _ _ h' => h')) fun _ _ h' => h'))
end
def PIf (X : Cx) (ifs : List Expr) (t : TT) : Prop :=
 ∀ (pins : List (Addr × Obj)) (s : Shared) (σ : St) (H : Hp) (Q : Bool → Hp → Prop), Inv X pins σ H s → t σ H Q →
  wpAny (model X.prog X.w) X.A (forIn ifs true fun c r => if r = true then do let ok ← isTrue c X.env (eval c X.env); pure (ForInStep.yield ok) else pure (ForInStep.yield r)) (TP X pins σ Q) X.xe s
def tYes : TT := fun _ H Q => Q true H
theorem k8i {X : Cx} : PIf X [] tYes := fun _ _ _ H _ I h => wpAny_tests_nil ⟨H, I, h⟩
theorem k8j {X : Cx} {c : Expr} {t : TT} (h : PT X c t) : PIf X [c] t := fun pins s σ H Q I hq => wpAny_tests_one (h pins s σ H Q I hq)
def j1a (X : Cx) (N' : List Str) (scope : Scope) (cl : List (Str × Addr)) (C : Addr) (s₀ : Shared) (H₀ : Hp) (ex : List Addr) : Cx :=
 { prog := X.prog, w := X.w, K := X.K, mg := X.mg, base := X.base, A := X.A, N := N', s₀ := s₀, H₀ := H₀, env := compEnvC scope cl C X.env, outer := X.stack, stack := X.stack, ex := ex, fn := fun _ => false, calm := X.calm, pn := [], xe := fun _ _ => False }
def j36 (sc scope : Scope) (N N' : List Str) : Bool :=
 (match scope.kind with | .function => true | _ => false) &&
 scope.names.all (fun y => match y.2 with
  | .cell => false
  | .local => (match scope.names.lookup y.1 with | some .local => true | _ => false)
  | .free => (match sc.names.lookup y.1 with | some .cell => true | some .free => true | _ => false)
  | _ => true) &&
 (List.range N'.length).all fun i => match N'[i]? with
  | none => true
  | some x => match scope.names.lookup x with
   | some .local => decide (N.length ≤ i)
   | some .free => decide (N[i]? = some x)
   | _ => true
structure CompOk (sc scope : Scope) (N N' : List Str) : Prop where
 kind : scope.kind = .function
 cell : ∀ y ∈ scope.names, y.2 ≠ .cell
 names : ∀ y ∈ scope.names, y.2 = .local → scope.names.lookup y.1 = some .local
 free : ∀ y ∈ scope.names, y.2 = .free → sc.names.lookup y.1 = some .cell ∨ sc.names.lookup y.1 = some .free
 own : ∀ (i : Nat) x, N'[i]? = some x → scope.names.lookup x = some .local → N.length ≤ i
 out : ∀ (i : Nat) x, N'[i]? = some x → scope.names.lookup x = some .free → N[i]? = some x
theorem CompOk.of {sc scope : Scope} {N N' : List Str} (h : j36 sc scope N N' = true) : CompOk sc scope N N' := by
 unfold j36 at h
 rw [Bool.and_eq_true, Bool.and_eq_true] at h
 obtain ⟨⟨h1, h2⟩, h3⟩ := h
 have h2' := List.all_eq_true.mp h2
 have h3' := List.all_eq_true.mp h3
 refine ⟨?_, fun y hy e => ?_, fun y hy e => ?_, fun y hy e => ?_, fun i x hi e => ?_, fun i x hi e => ?_⟩
 ·revert h1; cases scope.kind <;> intro h1 <;> first | rfl | cases h1
 ·have q := h2' y hy
  rw [e] at q
  cases q
 ·have q := h2' y hy
  rw [e] at q
  simp only at q
  split at q
  ·assumption
  ·cases q
 ·have q := h2' y hy
  rw [e] at q
  simp only at q
  split at q
  ·exact .inl (by assumption)
  ·exact .inr (by assumption)
  ·cases q
 ·have q := h3' i (List.mem_range.mpr (List.getElem?_eq_some_iff.mp hi).1)
  rw [hi] at q
  simp only [e] at q
  exact of_decide_eq_true q
 ·have q := h3' i (List.mem_range.mpr (List.getElem?_eq_some_iff.mp hi).1)
  rw [hi] at q
  simp only [e] at q
  exact of_decide_eq_true q
section
variable {X : Cx} {pins : List (Addr × Obj)} {σ : St} {H : Hp} {s : Shared}
theorem j90 {N' : List Str} {scope : Scope} {n : Nat} {fp : List Addr} {h₁ : Heap} {t' : Nat} {m : Str → Option Value} (I : Inv X pins σ H s) (ck : CompOk X.env.scope scope X.N N') (hl : N'.length = X.N.length + n)
  (hns : h₁.Ns s.heap.objs.size m) (old : ∀ b o, s.heap.get? b = some o → h₁.get? b = some o) (hfp : ∀ b ∈ fp, FpOk X pins H b ∧ b < s.heap.objs.size) :
  Inv (j1a X N' scope (j0v scope.names X.env.cells []) s.heap.objs.size s H fp) [] (σ ++ List.replicate n none) H { s with heap := h₁, toks := t' } := by
 have sub : ∀ x c, (j0v scope.names X.env.cells []).lookup x = some c → X.env.cells.lookup x = some c := fun x c e => j2k _ _ _ (fun _ _ z => by simp at z) x c (PySem.mem_of_lookup e)
 have fre : H s.heap.objs.size = none := I.hok.fresh (Nat.le_refl _)
 have ok' : (j1a X N' scope (j0v scope.names X.env.cells []) s.heap.objs.size s H fp).Ok := by
  refine ⟨I.ok.mod, ck.kind, I.ok.glob, I.ok.blt, Nat.le_refl _, fun x y c e1 e2 => I.ok.inj x y c (sub x c e1) (sub y c e2), fun x hx => ?_, fun x c hf _ => ?_, I.ok.hd, I.ok.frames, .inl rfl, fun b hb => ⟨Nat.ne_of_lt (hfp b hb).2, fun x c e => (hfp b hb).1.2.2.2.2.1 x c (sub x c e)⟩,
   I.bs, Nat.le_trans I.ok.bsz I.sz, fun b o e hb => ?_, fun b hb hf => ?_, I.stack, I.stkFree⟩
  ·have hx' : (relabel scope X.env).names.lookup x = some .cell ∨ (relabel scope X.env).names.lookup x = some .free := hx
   have : ∃ k, scope.names.lookup x = some k ∧ k = .free := by
    rcases hx' with z | z
    ·obtain ⟨k, e, r⟩ := j08 z
     rcases r with r | ⟨r, _⟩
     ·exact absurd (r.symm ▸ rfl : k = .cell) (ck.cell (x, k) (PySem.mem_of_lookup e))
     ·exact ⟨k, e, r⟩
    ·obtain ⟨k, e, r⟩ := j08 z
     rcases r with r | ⟨r, _⟩
     ·exact ⟨k, e, r.symm⟩
     ·exact ⟨k, e, r⟩
   obtain ⟨k, e, rfl⟩ := this
   have hm := PySem.mem_of_lookup e
   obtain ⟨c, hc⟩ := I.ok.has x (ck.free _ hm rfl)
   exact j09 (j2w scope.names X.env.cells [] x c hm hc)
  ·cases hf
  ·have := (hfp b hb).1.2.2.2.1
   rcases this with z | z
   ·exact I.ok.noex b o e z
   ·exact absurd (Nat.lt_of_lt_of_le (Heap.lt_size e) (Nat.le_trans I.ok.bsz z)) (Nat.lt_irrefl _)
  ·rcases List.mem_cons.mp (I.stkSub b hf) with z | z
   ·exact (hfp b hb).1.2.1 z
   ·exact (hfp b hb).1.2.2.1 z
 refine ⟨ok', rfl, I.bare, Un.kept old, ⟨m, hns, fun i x v e1 e2 e3 => ?_⟩, fun x c e => ?_, fre, fun x c e => I.freeC x c (sub x c e), fun p hp => absurd hp (by simp [j1a]), I.hok.kept old, ?_⟩
 ·have hi : i < σ.length := by
   by_cases hi : i < σ.length
   ·exact hi
   ·rw [List.getElem?_append_right (by omega), List.getElem?_replicate] at e2
    split at e2 <;> cases e2
  rw [List.getElem?_append_left hi] at e2
  have e1' : N'[i]? = some x := e1
  have vis : ∃ k', (relabel scope X.env).names.lookup x = some k' ∧ (k' = .local ∨ k' = .cell ∨ k' = .free) := by
   rcases e3 with z | z | z
   ·exact ⟨_, z, .inl rfl⟩
   ·exact ⟨_, z, .inr (.inl rfl)⟩
   ·exact ⟨_, z, .inr (.inr rfl)⟩
  obtain ⟨k', ek', hk'⟩ := vis
  obtain ⟨k, ek, r⟩ := j08 ek'
  have kf : k = .free := by
   rcases r with r | ⟨r, _⟩
   ·subst r
    rcases hk' with z | z | z
    ·subst z
     have := ck.own i x e1' ek
     rw [I.len] at hi
     omega
    ·subst z
     exact absurd rfl (ck.cell _ (PySem.mem_of_lookup ek))
    ·exact z
   ·exact r
  subst kf
  have hm := PySem.mem_of_lookup ek
  have hxN := ck.out i x e1' ek
  obtain ⟨m0, hn0, hl0⟩ := I.loc
  have kx := ck.free _ hm rfl
  obtain ⟨u, ru, lk⟩ := hl0 i x v hxN e2 (by rcases kx with z | z; exact .inr (.inl z); exact .inr (.inr z))
  refine ⟨u, ru, .inr ⟨?_, ?_⟩⟩
  ·rcases r with r | ⟨_, r⟩
   ·subst r
    exact .inr ek'
   ·subst r
    exact .inl ek'
  ·rcases lk with ⟨k1, _⟩ | ⟨_, c, hc, hcell⟩
   ·have k1' : X.env.scope.names.lookup x = some .local := k1
    rcases kx with z | z
    ·rw [k1'] at z; cases z
    ·rw [k1'] at z; cases z
   ·have hin := j2w scope.names X.env.cells [] x c hm hc
    obtain ⟨d, hd⟩ := j09 hin
    have : d = c := Option.some.inj ((sub x d hd).symm.trans hc)
    subst this
    obtain ⟨o, ho, hdat⟩ := hcell
    exact ⟨d, hd, o, old _ _ ho, hdat⟩
 ·obtain ⟨v, o, ho, hdat⟩ := I.cell x c (sub x c e)
  exact ⟨v, o, old _ _ ho, hdat⟩
 ·rw [List.length_append, List.length_replicate, I.len]
  exact hl.symm
end
def k68 (n : Nat) (wi : TI) (g : TG) (tc : TT) (te : TE) : TE := fun σ H Q => wi σ H fun J H1 => ∀ D, H1 D = none → ∃ W : Nat → Nat → St → Hp → Prop, (∃ m, W 0 m (σ ++ List.replicate n none) (upd H1 D (.lst []))) ∧ ∀ i m σ' H', W i m σ' H' →
 (J.stop i H' ∧ Q (.ref D) H') ∨ (J.go i H' ∧ ∃ N : St → Hp → Prop, (∀ σ' H', N σ' H' → ∃ m', m' < m ∧ W (i + 1) m' σ' H') ∧ ∀ x H2, J.yld i H' x H2 → g x σ' H2 fun σ2 H3 => tc σ2 H3 fun b H4 =>
  if b = true then te σ2 H4 fun v H5 => ∃ ys, H5 D = some (.lst ys) ∧ ys.length < sizeLine ∧ N σ2 (upd H5 D (.lst (ys ++ [v]))) else N σ2 H4)
theorem thnF {α : Type} {t : Sem α} {Q Q' : α → Shared → Prop} {M : Model} {A : Around} {E : Value → Shared → Prop} {s : Shared} (h : wpAny M A t Q (fun _ _ => False) s) (hQ : ∀ a s, Q a s → Q' a s) : wpAny M A t Q' E s := wpAny_mono h hQ fun _ _ z => z.elim
section
variable {X : Cx} {elt tg iter : Expr} {ifs : List Expr} {scope : Scope} {pos : Pos} {N' : List Str} {n : Nat} {wi : TI} {g : TG} {tc : TT} {te : TE}
theorem j72 {pins : List (Addr × Obj)} {σ : St} {H2 : Hp} {s2 : Shared} {E : Value → Shared → Prop} {RR : Value → Addr → Result → Shared → Prop} {it : Addr} {fp : List Addr} {tn : Nat → Heap → Prop} {J : It} {Q : VK}
  (hc : X.calm = true) (ck : CompOk X.env.scope scope X.N N') (hl : N'.length = X.N.length + n)
  (hg : ∀ cl C s₀ H₀ ex, PG (j1a X N' scope cl C s₀ H₀ ex) tg g) (hif : ∀ cl C s₀ H₀ ex, PIf (j1a X N' scope cl C s₀ H₀ ex) ifs tc) (he : ∀ cl C s₀ H₀ ex, PE (j1a X N' scope cl C s₀ H₀ ex) elt te)
  (I2 : Inv X pins σ H2 s2) (T : Turn X.prog X.w X.K tg J fp it tn) (st2 : tn 0 s2.heap) (f2 : ∀ b ∈ fp, FpOk X pins H2 b)
  (q : ∀ D, H2 D = none → ∃ W : Nat → Nat → St → Hp → Prop, (∃ m, W 0 m (σ ++ List.replicate n none) (upd H2 D (.lst []))) ∧ ∀ i m σ' H', W i m σ' H' →
   (J.stop i H' ∧ Q (.ref D) H') ∨ (J.go i H' ∧ ∃ N : St → Hp → Prop, (∀ σ' H', N σ' H' → ∃ m', m' < m ∧ W (i + 1) m' σ' H') ∧ ∀ x H2, J.yld i H' x H2 → g x σ' H2 fun σ2 H3 => tc σ2 H3 fun b H4 =>
    if b = true then te σ2 H4 fun v H5 => ∃ ys, H5 D = some (.lst ys) ∧ ys.length < sizeLine ∧ N σ2 (upd H5 D (.lst (ys ++ [v]))) else N σ2 H4))
  (hRR : ∀ D C H' s' m, Inv X pins σ H' s' → s'.heap.Ns C m → H' C = none → C ≠ X.env.locals → X.s₀.heap.objs.size ≤ C → (∀ x c, X.env.cells.lookup x = some c → c ≠ C) → (∀ p ∈ X.pn ++ pins, p.1 ≠ C) → Q (.ref D) H' → RR (.ref D) C (.ok .next) s') :
  wpAny (model X.prog X.w) X.A (newList []) (fun acc s₃ => wpAny (model X.prog X.w) X.A (newFunctionEnv scope X.env.globals (j0v scope.names X.env.cells []) [] X.env.qual none .none (some X.env)) (fun cenv s₄ =>
   codeAny (model X.prog X.w) X.A (.compStart (.ListComp elt [⟨tg, iter, ifs, 0⟩] scope pos) 0 (.ref it) acc { cenv with scope := relabel scope X.env }) (RR acc cenv.locals) s₄) E s₃) E s2 := by
 refine wpAny_newObj_type (wpAny_newFunctionEnv ck.cell (by intro y hy; simp at hy) (fun h₁ hns₁ hsb₁ => ?_) ck.kind) (by show (0 : Nat) ≤ sizeLine; exact Nat.zero_le _)
 have hD : H2 s2.heap.objs.size = none := I2.hok.fresh (Nat.le_refl _)
 obtain ⟨W, ⟨m0, w0⟩, turn⟩ := q s2.heap.objs.size hD
 have fl : ∀ b ∈ fp, b < s2.heap.objs.size := fun b hb => by
  obtain ⟨o, e, _⟩ := T.obj 0 _ st2 b hb
  exact Heap.lt_size e
 have I3 : Inv X pins σ (upd H2 s2.heap.objs.size (.lst [])) { s2 with heap := s2.heap.push { cls := .type "list", dict := none, data := .seq ([] : List Value).toArray } } :=
  I2.laid (t' := s2.toks) (fun b o e => Heap.get?_push_of_some _ e) (Nat.le_refl _) (show ObjOk X.prog X.w _ _ _ (.lst []) from ⟨Nat.zero_le _, [], 0, .nil, Heap.get?_push_size _ rfl⟩)
 generalize hs3 : ({ s2 with heap := s2.heap.push { cls := .type "list", dict := none, data := .seq ([] : List Value).toArray } } : Shared) = s3 at I3 hns₁ hsb₁ ⊢
 have hz3 : s3.heap.objs.size = s2.heap.objs.size + 1 := by rw [← hs3]; exact Heap.size_push ..
 have old2 : ∀ b o, s2.heap.get? b = some o → s3.heap.get? b = some o := fun b o e => by rw [← hs3]; exact Heap.get?_push_of_some _ e
 have old : ∀ b o, s3.heap.get? b = some o → h₁.get? b = some o := fun b o e =>
  hsb₁.extBut b o (Nat.ne_of_lt (Heap.lt_size e)) (Heap.get?_push_of_some _ e)
 have f3 : ∀ b ∈ fp, FpOk X pins (upd H2 s2.heap.objs.size (.lst [])) b ∧ b < s3.heap.objs.size := fun b hb => by
  refine ⟨⟨?_, (f2 b hb).2⟩, by rw [hz3]; exact Nat.lt_succ_of_lt (fl b hb)⟩
  rw [j0c (Nat.ne_of_lt (fl b hb))]
  exact (f2 b hb).1
 have I4 := fun (t' : Nat) => j90 (N' := N') (scope := scope) (n := n) (fp := fp) (h₁ := h₁) (t' := t') I3 ck hl hns₁ old f3
 generalize hX : j1a X N' scope (j0v scope.names X.env.cells []) s3.heap.objs.size s3 (upd H2 s2.heap.objs.size (.lst [])) fp = X' at I4
 have eP : X'.prog = X.prog := by rw [← hX]; rfl
 have ew : X'.w = X.w := by rw [← hX]; rfl
 have eK : X'.K = X.K := by rw [← hX]; rfl
 have eA : X'.A = X.A := by rw [← hX]; rfl
 have eE : X'.env = compEnvC scope (j0v scope.names X.env.cells []) s3.heap.objs.size X.env := by rw [← hX]; rfl
 have ec : X'.calm = true := by rw [← hX]; exact hc
 have ex' : X'.xe = fun _ _ => False := by rw [← hX]; rfl
 have hg' : PG X' tg g := by rw [← hX]; exact hg _ _ _ _ _
 have hif' : PIf X' ifs tc := by rw [← hX]; exact hif _ _ _ _ _
 have he' : PE X' elt te := by rw [← hX]; exact he _ _ _ _ _
 have stat : ∀ {H' : Hp}, (∀ b ∈ fp, H' b = none) → ∀ b ∈ fp, FpOk X' [] H' b := fun hn b hb => by
  refine ⟨hn b hb, ?_, ?_, ?_, ?_, ?_⟩
  ·rw [eE]; exact Nat.ne_of_lt (f3 b hb).2
  ·rw [← hX]
   intro hf
   rcases List.mem_cons.mp (I3.stkSub b hf) with z | z
   ·exact (f3 b hb).1.2.1 z
   ·exact (f3 b hb).1.2.2.1 z
  ·rw [← hX]; exact .inl hb
  ·rw [eE]
   intro x c e
   exact (f3 b hb).1.2.2.2.2.1 x c (j2k _ _ _ (fun _ _ z => by simp at z) x c (PySem.mem_of_lookup e))
  ·rw [← hX]; intro p hp; exact absurd hp (by simp [j1a])
 have fin : ∀ {σ' : St} {H' : Hp} {s' : Shared}, Inv X' [] σ' H' s' → Q (.ref s2.heap.objs.size) H' → RR (.ref s2.heap.objs.size) s3.heap.objs.size (.ok .next) s' := fun {σ' H' s'} I' q' => by
  obtain ⟨m', hn', _⟩ := id I'.loc
  rw [eE] at hn'
  have hos : s'.os = s3.os := by have := I'.os; rw [← hX] at this; exact this
  have hun : Un (frs X.stack) fp (upd H2 s2.heap.objs.size (.lst [])) H' s3.heap s'.heap := by have := I'.base; rw [← hX] at this; exact this
  have hok : HOk X.prog X.w H' s'.heap := by have := I'.hok; rw [eP, ew] at this; exact this
  have IX : Inv X pins σ H' s' := I3.call' (ch := fp) hos hun hok I'.bare fun b hb => ⟨(f3 b hb).1.2.2.2.1, (f3 b hb).1.2.1, (f3 b hb).1.2.2.2.2.1, (f3 b hb).1.2.2.2.2.2⟩
  have hfr := I'.free
  rw [eE] at hfr
  refine hRR _ _ H' s' m' IX hn' hfr (Nat.ne_of_gt I3.lt) I3.sz (fun x c e z => ?_) (fun p hp z => ?_) q'
  ·obtain ⟨v, o, ho, _⟩ := I3.cell x c e
   exact absurd (Heap.lt_size ho) (by rw [z]; exact Nat.lt_irrefl _)
  ·exact absurd (Heap.lt_size (I3.pin p hp).1) (by rw [z]; exact Nat.lt_irrefl _)
 have loop : ∀ t', codeAny (model X.prog X.w) X.A (.compLoop (.ListComp elt [⟨tg, iter, ifs, 0⟩] scope pos) 0 (.ref it) (.ref s2.heap.objs.size) (compEnvC scope (j0v scope.names X.env.cells []) s3.heap.objs.size X.env)) (RR (.ref s2.heap.objs.size) s3.heap.objs.size) { s3 with heap := h₁, toks := t' } := fun t' => by
  refine j2d (fun k s' => ∃ i σ' H', Inv X' [] σ' H' s' ∧ tn i s'.heap ∧ (∀ b ∈ fp, H' b = none) ∧ W i k σ' H') ?_ m0
   ⟨0, _, _, I4 t', T.keep 0 _ _ st2 fun b _ o e => old b o (old2 b o e), fun b hb => (f3 b hb).1.1, w0⟩
  rintro k s4 ⟨i, σ4, H4, J4, st4, fr4, w4⟩
  rw [← eP, ← ew, ← eA, ← eE]
  rcases turn i k σ4 H4 w4 with ⟨stop, qn⟩ | ⟨go, N, hN, step⟩
  ·have d1 := T.done X' eP ew eK ec i [] s4 σ4 H4 (fun _ _ => False) J4 (stat fr4) st4 stop
   rw [← eP, ← ew] at d1
   refine thnF d1 fun r s5 ⟨hr, I5⟩ => ?_
   subst hr
   exact fin I5 qn
  ·have d1 := T.item X' eP ew eK ec i [] s4 σ4 H4 (fun _ _ => False) J4 (stat fr4) st4 go
   rw [← eP, ← ew] at d1
   refine thnF d1 fun r s5 ⟨u, hr, h5⟩ => ?_
   subst hr
   refine thnF h5 fun _ s6 ⟨x, H6, I6, r6, y6, st6, fr6⟩ => ?_
   have I6' := I6.pinned (stat fr6) (T.obj _ _ st6)
   have again : ∀ {σ7 : St} {H7 : Hp} {s7 : Shared}, Inv X' ([] ++ j45 fp s6.heap) σ7 H7 s7 → N σ7 H7 → ∃ m, m < k ∧ ∃ i σ' H', Inv X' [] σ' H' s7 ∧ tn i s7.heap ∧ (∀ b ∈ fp, H' b = none) ∧ W i m σ' H' := fun {σ7 H7 s7} I7 n7 => by
    obtain ⟨m', hm, w7⟩ := hN σ7 H7 n7
    refine ⟨m', hm, i + 1, σ7, H7, I7.unpinned, T.keep _ _ _ st6 fun b hb o e => (I7.pin (b, o) (List.mem_append_right _ (List.mem_append_right _ (j1u hb e)))).1, fun b hb => ?_, w7⟩
    obtain ⟨o, e, d⟩ := T.obj _ _ st6 b hb
    exact (I7.pin (b, o) (List.mem_append_right _ (List.mem_append_right _ (j1u hb e)))).2.1
   have a1 := hg' _ s6 σ4 H6 x u _ I6' r6 (step x H6 y6)
   rw [ex'] at a1
   refine thnF a1 fun _ s7 ⟨σ7, H7, I7, q7⟩ => ?_
   have a2 := hif' _ s7 σ7 H7 _ I7 q7
   rw [ex'] at a2
   refine thnF a2 fun ok s8 ⟨H8, I8, q8⟩ => ?_
   cases ok with
   | false =>
    rw [if_neg Bool.false_ne_true] at q8 ⊢
    exact again I8 q8
   | true =>
    rw [if_pos rfl] at q8 ⊢
    have a3 := he' _ s8 σ7 H8 _ I8 q8
    rw [ex'] at a3
    refine thnF a3 fun v s9 ⟨vv, H9, I9, r9, ys, hy, hz, q9⟩ => ?_
    have a4 := j4a (X := X') _ s9 σ7 H9 (.ref s2.heap.objs.size) [vv] (.ref s2.heap.objs.size) [v] (fun _ H' => N σ7 H') I9 rfl (.cons r9 .nil) ⟨_, ys, vv, rfl, rfl, hy, hz, q9⟩
    rw [ex'] at a4
    exact thnF a4 fun _ s10 ⟨_, H10, I10, _, q10⟩ => again I10 q10
 refine codeAny_compStart_list (loop _) (T.self _ 0 _ _ _ ?_ (loop _))
 exact T.keep 0 _ _ st2 fun b _ o e => old b o (old2 b o e)
theorem k7c (sc : Scope) (N N' : List Str) (n : Nat) (hi : PI X tg iter wi)
  (hg : ∀ cl C s₀ H₀ ex, PG (j1a X N' scope cl C s₀ H₀ ex) tg g) (hif : ∀ cl C s₀ H₀ ex, PIf (j1a X N' scope cl C s₀ H₀ ex) ifs tc) (he : ∀ cl C s₀ H₀ ex, PE (j1a X N' scope cl C s₀ H₀ ex) elt te)
  (hc : X.calm = true := by rfl) (hsc : X.env.scope = sc := by rfl) (hN : X.N = N := by rfl) (hk : j36 sc scope N N' = true := by decide +kernel) (hl : N'.length = N.length + n := by rfl)
  (hs : ∀ x, foldedSetIterable iter X.env x = pure x := by intro _; rfl) : PE X (.ListComp elt [⟨tg, iter, ifs, 0⟩] scope pos) (k68 n wi g tc te) := by
 intro pins s σ H Q I h
 subst hsc hN
 have ck := CompOk.of hk
 rw [eval_ListComp]
 refine wpAny_comprehension_free (use := none) rfl hs (j2j fun x hx hf => I.ok.has x.1 (ck.free x hx hf)) ck.kind ck.names (thn (hi pins s σ H _ I h) fun v s1 h1 => thn h1 fun itv s2 h2 => ?_)
 obtain ⟨it, fp, tn, J, H2, e, I2, T, st2, f2, q⟩ := h2
 subst e
 refine j72 (RR := fun acc C => compPost (model X.prog X.w) X.A X.xe none (EP X pins σ Q) acc C) hc ck hl hg hif he I2 T st2 f2 q ?_
 intro D C H' s' m IX hn hC c1 c2 c3 c4 qq
 exact ⟨m, hn, fun h' hs' => ⟨.ref D, H', IX.turned (t' := s'.toks) (fun b o hb e => hs'.extBut b o hb e) hC (Ne.symm (Ne.symm c1)) (.inr c2) c3 c4, rfl, qq⟩⟩
theorem k7r {y : Str} {py spos : Pos} {i : Nat} (sc : Scope) (N N' : List Str) (n : Nat) (hnd : X.N.Nodup) (hiN : X.N[i]? = some y) (hy : Loc X.env.scope y) (hi : PI X tg iter wi)
  (hg : ∀ cl C s₀ H₀ ex, PG (j1a X N' scope cl C s₀ H₀ ex) tg g) (hif : ∀ cl C s₀ H₀ ex, PIf (j1a X N' scope cl C s₀ H₀ ex) ifs tc) (he : ∀ cl C s₀ H₀ ex, PE (j1a X N' scope cl C s₀ H₀ ex) elt te)
  (hsw : swapsWith (.ListComp elt [⟨tg, iter, ifs, 0⟩] scope pos) (some (.Name y py)) spos.line X.env = pure true := by rfl)
  (hc : X.calm = true := by rfl) (hsc : X.env.scope = sc := by rfl) (hN : X.N = N := by rfl) (hk : j36 sc scope N N' = true := by decide +kernel) (hl : N'.length = N.length + n := by rfl)
  (hs : ∀ x, foldedSetIterable iter X.env x = pure x := by intro _; rfl) (hf : X.fn y = true ∨ X.env.scope.names.lookup y = some .local := by first | exact .inl rfl | exact .inr rfl | assumption) :
  PS X (.Assign [.Name y py] (.ListComp elt [⟨tg, iter, ifs, 0⟩] scope pos) spos) (tAsg (k68 n wi g tc te) (k4b i)) := by
 intro pins s σ H D I h
 subst hsc hN
 have ck := CompOk.of hk
 rw [exec_Assign_Name_used _ _ _ _ hsw]
 refine wpAny_bind (wpAny_standAt (wpAny_bind ?_))
 show wpAny _ X.A (do let _ ← comprehension (.ListComp elt [⟨tg, iter, ifs, 0⟩] scope pos) scope X.env _ (newList []) false (eval iter X.env) (some (assign (.Name y py) X.env))) _ _ s
 refine wpAny_bind (wpAny_mono (wpAny_comprehension_free (use := some (assign (.Name y py) X.env)) (Q := fun _ s' => SP X pins D .next s') rfl hs (j2j fun x hx hf => I.ok.has x.1 (ck.free x hx hf)) ck.kind ck.names
  (thn (hi pins s σ H _ I h) fun v s1 h1 => thn h1 fun itv s2 h2 => ?_)) (fun _ s' hq => wpAny_pure (wpAny_pure hq)) fun _ _ e => e)
 obtain ⟨it, fp, tn, J, H2, e, I2, T, st2, f2, q⟩ := h2
 subst e
 refine j72 (Q := fun x H1 => k4b i x σ H1 D.nx) (RR := fun acc C => compPost (model X.prog X.w) X.A X.xe (some (assign (.Name y py) X.env)) (fun _ s' => SP X pins D .next s') acc C) hc ck hl hg hif he I2 T st2 f2 q ?_
 intro D' C H' s' m IX hn hC c1 c2 c3 c4 qq
 show wpAny _ X.A (assign (.Name y py) X.env (.ref D')) _ _ _
 refine wpAny_assign_Name (j7l IX hnd hiN hy (v := .ref D') rfl (fun s'' I'' hsb => ?_) hf)
 obtain ⟨a, hsb, ha⟩ := hsb
 have hCa : C ≠ a := by
  rcases ha with ha | ha
  ·rw [ha]; exact c1
  ·exact Ne.symm (c3 _ _ ha)
 refine ⟨m, hn.sameBut hsb hCa, fun h' hs' => ⟨_, H', I''.turned (t' := s''.toks) (fun b o hb e => hs'.extBut b o hb e) hC c1 (.inr c2) c3 c4, qq⟩⟩
end
end L2
namespace L2
open PySem PySem.Spec PyProof.Rows
section
variable {X : Cx}
theorem k5d : j3z X (.builtin "isinstance") (fun xs H Q => ∃ x t T b, xs = [x, .ty T] ∧ TyOf X.K H x t ∧ PySem.W.kitOne X.K t (.type T) = some b ∧ Q (.bl b) H) := by
 intro pins s σ H xs us Q I r h
 obtain ⟨x, t, T, b, rfl, ty, e, q⟩ := h
 obtain ⟨u, w', rfl, ru, rw'⟩ := vals2 r
 cases (show w' = Value.type T from rw')
 exact k2p I ru ty e fun tk => ⟨.bl b, H, I.tok tk, rfl, q⟩
theorem k62 : OpR X (binaryOp .Mult) (fun x y H Q => ∃ z i, x = .str z ∧ y = .int i ∧ 0 ≤ i ∧ i ≤ 100000 ∧ z.length * i.toNat ≤ 100000 ∧ Q (.str (Txt.mul z i)) H) := by
 intro pins s σ H x y v u Q I rx ry h
 obtain ⟨z, i, rfl, rfl, h0, h1, h2, q⟩ := h
 obtain ⟨t, rfl⟩ := rx
 obtain ⟨t', rfl⟩ := ry
 have hsz : sizeLine = 16777216 := sizeLine_eq
 refine SB.mul ⟨?_, fun h3 h4 => ?_, fun h3 h4 => ?_⟩ fun t' k => ⟨.str _, H, I.tok k, ⟨_, rfl⟩, q⟩
 ·rw [decide_eq_false (by omega), decide_eq_false (by omega)]; rfl
 ·have h5 : (z.length : Int) ≤ 100000 := by
   have h6 : z.length * 1 ≤ z.length * i.toNat := Nat.mul_le_mul_left _ (by omega)
   omega
  have h7 : (100000 : Int) ≤ (2 ^ 63 - 1) / i := by
   rw [Int.le_ediv_iff_mul_le (by omega)]
   have : (100000 : Int) * i ≤ 100000 * 100000 := Int.mul_le_mul_of_nonneg_left h1 (by decide)
   have e : (2 : Int) ^ 63 - 1 = 9223372036854775807 := by decide
   omega
  omega
 ·unfold Builtin.Str.tooLong
  rw [hsz]
  exact decide_eq_false (by omega)
end
end L2
namespace L2
open PySem PySem.Spec PyProof.Rows
def isStar : Expr → Bool
 | .Starred _ _ => true
 | _ => false
def noStar (es : List Expr) : Bool := es.all fun e => !isStar e
theorem j20 (e : Expr) (es : List Expr) (env : Env) (h : isStar e = false) : starEach (e :: es) env = (false, eval e env) :: starEach es env := by
 cases e <;> first | rfl | (exact absurd h (by simp [isStar]))
theorem j41 (pos : Pos) (env : Env) : ∀ es : List Expr, noStar es = true → (backTo pos (starEach es env)).any (·.1) = false
 | [], _ => rfl
 | e :: es, h => by
  have h' : (!isStar e) = true ∧ noStar es = true := by
   have := h
   unfold noStar at this ⊢
   rw [List.all_cons, Bool.and_eq_true] at this
   exact this
  have hs : isStar e = false := by
   have := h'.1
   cases q : isStar e with
   | true => rw [q] at this; cases this
   | false => rfl
  rw [j20 e es env hs]
  show (false || (backTo pos (starEach es env)).any (·.1)) = false
  rw [j41 pos env es h'.2]; rfl
theorem j14 {e : Expr} {es : List Expr} (h : noStar (e :: es) = true) : isStar e = false ∧ noStar es = true := by
 unfold noStar at h ⊢
 rw [List.all_cons, Bool.and_eq_true] at h
 refine ⟨?_, h.2⟩
 cases q : isStar e with
 | true => rw [q] at h; cases h.1
 | false => rfl
section
variable {X : Cx} {CX : CXT} {k : Nat} {f C : Addr} {fd : FuncData} {ps : List Str} {sp : Sp} {dvs : List V} {ds : List Value} {E : XK} {x m : Str} {p pos apos : Pos} {e o : Expr} {es : List Expr} {ta te : TE} {t : TA} {id T : String} {r : List V → Hp → VK → Prop}
theorem pac (ha : PE X e te) (hr : PA X es t) (hs : isStar e = false := by rfl) : PA X (e :: es) (q1p te t) := k6w ha hr (j20 _ _ _ hs)
theorem q11 (F : FnOk X.prog X.w X.K X.mg X.base CX k f fd ps sp) (hr : Room k X.A) (hm : X.mg x = some (.ref f)) (hk : PySem.W.keepIn X.K (.ref f) = true) (hb : Binds X.K fd ps []) (hx : j8c CX X E)
  (ha : PA X (e :: es) t) (hg : Gl X x := by rfl) (hdb : (x == ("__debug__" : Str)) = false := by decide) (hs : noStar (e :: es) = true := by rfl) : PE X (.Call (.Name x p) (e :: es) [] pos) (q0e sp [] E t) :=
 k82 F hr hg hm hk hb .nil hx ha hdb (j20 _ _ _ (j14 hs).1) (j41 _ _ _ (j14 hs).2)
theorem pblt (hc : j3z X (.builtin id) r) (hm : X.mg x = none) (hv : bootBuiltins x = some (.builtin id)) (ha : PA X (e :: es) t) (hg : Gl X x := by rfl) (hn : x ≠ "__name__" := by decide) (hdb : (x == ("__debug__" : Str)) = false := by decide)
  (hs : noStar (e :: es) = true := by rfl) : PE X (.Call (.Name x p) (e :: es) [] pos) (tCB r t) :=
 k5j hc hg hm hv ha hn hdb (j20 _ _ _ (j14 hs).1) (j41 _ _ _ (j14 hs).2)
theorem ptyp (hc : j3z X (.type T) r) (hm : X.mg x = none) (hv : bootBuiltins x = some (.type T)) (ha : PA X (e :: es) t) (hg : Gl X x := by rfl) (hn : x ≠ "__name__" := by decide) (hdb : (x == ("__debug__" : Str)) = false := by decide)
  (hs : noStar (e :: es) = true := by rfl) : PE X (.Call (.Name x p) (e :: es) [] pos) (tCB r t) :=
 k3k hc hg hm hv ha hn hdb (j20 _ _ _ (j14 hs).1) (j41 _ _ _ (j14 hs).2)
end
end L2
namespace L2
open PySem PySem.Spec PyProof.Rows
structure Ev (X : Cx) (e : Expr) (σ : St) (H : Hp) (Q : VK) : Prop where
 run : ∀ (pins : List (Addr × Obj)) (s : Shared), Inv X pins σ H s → wpAny (model X.prog X.w) X.A (eval e X.env) (EP X pins σ Q) X.xe s
structure Et (X : Cx) (e : Expr) (σ : St) (H : Hp) (Q : Bool → Hp → Prop) : Prop where
 run : ∀ (pins : List (Addr × Obj)) (s : Shared), Inv X pins σ H s → wpAny (model X.prog X.w) X.A (isTrue e X.env (eval e X.env)) (TP X pins σ Q) X.xe s
structure Ew (X : Cx) (e : Expr) (σ : St) (H : Hp) (Q : Bool → Hp → Prop) : Prop where
 run : ∀ (whole : Sem Value) (pins : List (Addr × Obj)) (s : Shared), Inv X pins σ H s → wpAny (model X.prog X.w) X.A (isTrue e X.env whole) (TP X pins σ Q) X.xe s
structure Ea (X : Cx) (es : List Expr) (σ : St) (H : Hp) (Q : List V → Hp → Prop) : Prop where
 run : ∀ (pos : Pos) (pins : List (Addr × Obj)) (s : Shared), Inv X pins σ H s → wpAny (model X.prog X.w) X.A (spliced (backTo pos (starEach es X.env))) (AP X pins σ Q) X.xe s
structure Eo (X : Cx) (e : Option Expr) (σ : St) (H : Hp) (Q : Option Int → Hp → Prop) : Prop where
 run : ∀ (pins : List (Addr × Obj)) (s : Shared), Inv X pins σ H s → wpAny (model X.prog X.w) X.A (evalPart e X.env) (fun u s' => ∃ o H', Inv X pins σ H' s' ∧ IsPart u o ∧ Q o H') X.xe s
structure Eg (X : Cx) (e : Expr) (v : V) (σ : St) (H : Hp) (Q : St → Hp → Prop) : Prop where
 run : ∀ (pins : List (Addr × Obj)) (s : Shared) (u : Value), Inv X pins σ H s → RelV v u → wpAny (model X.prog X.w) X.A (assign e X.env u) (fun _ s' => ∃ σ' H', Inv X pins σ' H' s' ∧ Q σ' H') X.xe s
structure Run (X : Cx) (l : List Stmt) (D : Ends) (σ : St) (H : Hp) : Prop where
 run : ∀ (pins : List (Addr × Obj)) (s : Shared), Inv X pins σ H s → wpAny (model X.prog X.w) X.A (execs l X.env) (SP X pins D) X.xe s
def tEv (X : Cx) (e : Expr) : TE := fun σ H Q => Ev X e σ H Q
def tEt (X : Cx) (e : Expr) : TT := fun σ H Q => Et X e σ H Q
def tEw (X : Cx) (e : Expr) : TT := fun σ H Q => Ew X e σ H Q
def tEa (X : Cx) (es : List Expr) : TA := fun σ H Q => Ea X es σ H Q
def tEo (X : Cx) (e : Option Expr) : TO := fun σ H Q => Eo X e σ H Q
def tEg (X : Cx) (e : Expr) : TG := fun v σ H Q => Eg X e v σ H Q
def tRun (X : Cx) (l : List Stmt) : TS := fun D σ H => Run X l D σ H
section
variable {X : Cx} {e a b c o : Expr} {es : List Expr} {st : Stmt} {rest body els : List Stmt} {σ : St} {H : Hp} {Q : VK} {T : Bool → Hp → Prop} {L : List V → Hp → Prop} {D : Ends} {pos p p2 : Pos}
theorem j00 : PE X e (tEv X e) := fun pins s _ _ _ I h => h.run pins s I
theorem j6h : PT X e (tEt X e) := fun pins s _ _ _ I h => h.run pins s I
theorem q01 : PW X e (tEw X e) := fun wh pins s _ _ _ I h => h.run wh pins s I
theorem j28 : PA X es (tEa X es) := fun pos pins s _ _ _ I h => h.run pos pins s I
theorem q1t {e : Option Expr} : PO X e (tEo X e) := fun pins s _ _ _ I h => h.run pins s I
theorem j87 : PG X e (tEg X e) := fun pins s _ _ _ u _ I r h => h.run pins s u I r
theorem j4h {l : List Stmt} : PSs X l (tRun X l) := fun pins s _ _ _ I h => h.run pins s I
theorem j12 {t : TE} (h1 : PE X e t) (h2 : t σ H Q) : Ev X e σ H Q := ⟨fun pins s I => h1 pins s σ H Q I h2⟩
theorem k0r {t : TT} (h1 : PT X e t) (h2 : t σ H T) : Et X e σ H T := ⟨fun pins s I => h1 pins s σ H T I h2⟩
theorem k54 {t : TT} (h1 : PW X e t) (h2 : t σ H T) : Ew X e σ H T := ⟨fun wh pins s I => h1 wh pins s σ H T I h2⟩
theorem k9g {t : TA} (h1 : PA X es t) (h2 : t σ H L) : Ea X es σ H L := ⟨fun pos pins s I => h1 pos pins s σ H L I h2⟩
theorem q06 {e : Option Expr} {t : TO} {R : Option Int → Hp → Prop} (h1 : PO X e t) (h2 : t σ H R) : Eo X e σ H R := ⟨fun pins s I => h1 pins s σ H R I h2⟩
theorem k7d {t : TG} {v : V} {R : St → Hp → Prop} (h1 : PG X e t) (h2 : t v σ H R) : Eg X e v σ H R := ⟨fun pins s u I r => h1 pins s σ H v u R I r h2⟩
theorem j15 {t : TS} (h1 : PS X st t) (h2 : t { D with nx := fun σ' H' => Run X rest D σ' H' } σ H) : Run X (st :: rest) D σ H := ⟨fun pins s I => k4s h1 j4h pins s σ H D I h2⟩
theorem j0l (h : D.nx σ H) : Run X [] D σ H := ⟨fun pins s I => k74 pins s σ H D I h⟩
theorem Ev.mono {Q' : VK} (h : Ev X e σ H Q) (f : ∀ v H', Q v H' → Q' v H') : Ev X e σ H Q' := ⟨fun pins s I => thn (h.run pins s I) fun _ _ ⟨v, H', I', r, q⟩ => ⟨v, H', I', r, f v H' q⟩⟩
theorem Et.mono {T' : Bool → Hp → Prop} (h : Et X e σ H T) (f : ∀ v H', T v H' → T' v H') : Et X e σ H T' := ⟨fun pins s I => thn (h.run pins s I) fun v _ ⟨H', I', q⟩ => ⟨H', I', f v H' q⟩⟩
theorem Ea.mono {L' : List V → Hp → Prop} (h : Ea X es σ H L) (f : ∀ v H', L v H' → L' v H') : Ea X es σ H L' := ⟨fun pos pins s I => thn (h.run pos pins s I) fun _ _ ⟨v, H', I', r, q⟩ => ⟨v, H', I', r, f v H' q⟩⟩
theorem ev_v (i : Nat) {x : Str} {v : V} (h : Q v H) (hv : σ[i]? = some (some v) := by rfl) (hN : X.N[i]? = some x := by rfl) (hs : Vis X.env.scope x := by first | exact Or.inl rfl | exact Or.inr (Or.inl rfl) | exact Or.inr (Or.inr rfl)) (hd : (x == ("__debug__" : Str)) = false := by decide)
  (hcd : (x == ("__classdict__" : Str)) = false := by decide) : Ev X (.Name x p) σ H Q := j12 (q0x (i := i) hN hs hd hcd) ⟨v, hv, h⟩
theorem j0f {i : Int} {j : Nat} (h : Q (.int i) H) : Ev X (.Constant (.int i) j p) σ H Q := j12 (q0z) h
theorem k0m {i : Bool} {j : Nat} (h : Q (.bl i) H) : Ev X (.Constant (.bool i) j p) σ H Q := j12 (q2s) h
theorem j54 {j : Nat} (h : Q .non H) : Ev X (.Constant .none j p) σ H Q := j12 (k97) h
theorem k6g {i : Str} {j : Nat} (h : Q (.str i) H) : Ev X (.Constant (.str i) j p) σ H Q := j12 (q1h) h
theorem k8f {x : Str} (v : V) {u : Value} (hm : X.mg x = none) (hv : bootBuiltins x = some u) (r : RelV v u) (h : Q v H) (hg : Gl X x := by rfl) (hn : x ≠ "__name__" := by decide) (hd : (x == ("__debug__" : Str)) = false := by decide) : Ev X (.Name x p) σ H Q := j12 (k65 hg hm hv r hn hd) h
theorem j0o {op : Operator} {r : R2} (ho : OpR X (binaryOp op) r) (h : Ev X a σ H fun x H1 => Ev X b σ H1 fun y H2 => r x y H2 Q) : Ev X (.BinOp a op b pos) σ H Q := j12 (q2w ho j00 j00) h
theorem q0i {op : UnaryOp} {r : V → Hp → VK → Prop} (ho : UnR X (unaryOp op) r) (h : Ev X a σ H fun x H1 => r x H1 Q) : Ev X (.UnaryOp op a pos) σ H Q := j12 (q2o ho j00) h
theorem j21 {op : CmpOp} {r : R2} (ho : OpR X (compareOp op) r) (h : Ev X a σ H fun x H1 => Ev X b σ H1 fun y H2 => r x y H2 Q) (hm : behindInMarks op b = false := by with_unfolding_all rfl) : Ev X (.Compare a [op] [b] pos) σ H Q := j12 (k8y ho j00 j00 hm) h
theorem k6h (h : Ev X a σ H fun x H1 => ∃ k, x = .bl k ∧ if k = true then Ev X (.BoolOp .And (b :: es) pos) σ H1 Q else Q (.bl false) H1) : Ev X (.BoolOp .And (a :: b :: es) pos) σ H Q := j12 (q0o j00 j00) h
theorem k1r {op : BoolOp} (h : Ev X a σ H Q) : Ev X (.BoolOp op [a] pos) σ H Q := j12 (k9p j00) h
theorem k4c (h : Et X c σ H fun k H1 => if k = true then Ev X a σ H1 Q else Ev X b σ H1 Q) : Ev X (.IfExp c a b pos) σ H Q := j12 (k56 j6h j00 j00) h
theorem j0r {r : R2} (hr : IxR X r) (h : Ev X a σ H fun x H1 => Ev X b σ H1 fun y H2 => r x y H2 Q) (hs : k2i b := by intro _ _; rfl) : Ev X (.Subscript a b pos) σ H Q := j12 (q2m hr j00 j00 hs) h
theorem j35 {r : V → Option Int → Option Int → Hp → VK → Prop} {lo hi : Option Expr} (hr : SlR X r) (h : Ev X a σ H fun x H1 => Eo X lo σ H1 fun l H2 => Eo X hi σ H2 fun u H3 => r x l u H3 Q) : Ev X (.Subscript a (.Slice lo hi none p2) pos) σ H Q := j12 (k39 hr j00 q1t q1t) h
theorem j46 {R : Option Int → Hp → Prop} (h : R none H) : Eo X none σ H R := q06 (k63) h
theorem j5h {R : Option Int → Hp → Prop} (h : Ev X a σ H fun x H1 => ∃ i, x = .int i ∧ R (some i) H1) : Eo X (some a) σ H R := q06 (k8a j00) h
theorem j0g (h : L [] H) : Ea X [] σ H L := k9g (q0v) h
theorem j0a (h : Ev X e σ H fun x H1 => Ea X es σ H1 fun xs H2 => L (x :: xs) H2) (hs : isStar e = false := by rfl) : Ea X (e :: es) σ H L := k9g (pac j00 j28 hs) h
theorem j13 {k : Nat} (h : Ea X es σ H fun xs H1 => xs.length ≤ sizeLine ∧ ∀ p, H1 p = none → Q (.ref p) (upd H1 p (.tup xs))) : Ev X (.Tuple es k pos) σ H Q := j12 (k98 j28) h
theorem j1p (h : Ea X es σ H fun xs H1 => xs.length ≤ sizeLine ∧ ∀ p, H1 p = none → Q (.ref p) (upd H1 p (.lst xs))) : Ev X (.List es pos) σ H Q := j12 (k99 j28) h
theorem k8k {CX : CXT} {k : Nat} {f : Addr} {fd : FuncData} {ps : List Str} {sp : Sp} {E : XK} {x : Str} (F : FnOk X.prog X.w X.K X.mg X.base CX k f fd ps sp) (hr : Room k X.A) (hm : X.mg x = some (.ref f)) (hk : PySem.W.keepIn X.K (.ref f) = true) (hb : Binds X.K fd ps []) (hx : j8c CX X E)
  (h : Ea X (e :: es) σ H fun vs H1 => sp vs H1 Q E) (hg : Gl X x := by rfl) (hdb : (x == ("__debug__" : Str)) = false := by decide) (hs : noStar (e :: es) = true := by rfl) : Ev X (.Call (.Name x p) (e :: es) [] pos) σ H Q :=
 j12 (q11 F hr hm hk hb hx j28 hg hdb hs) (show Ea X (e :: es) σ H _ from h.mono fun vs H1 q => by rw [List.append_nil]; exact q)
theorem j06 {id : String} {r : List V → Hp → VK → Prop} {x : Str} (hc : j3z X (.builtin id) r) (hm : X.mg x = none) (hv : bootBuiltins x = some (.builtin id)) (h : Ea X (e :: es) σ H fun vs H1 => r vs H1 Q) (hg : Gl X x := by rfl) (hn : x ≠ "__name__" := by decide) (hdb : (x == ("__debug__" : Str)) = false := by decide)
  (hs : noStar (e :: es) = true := by rfl) : Ev X (.Call (.Name x p) (e :: es) [] pos) σ H Q := j12 (pblt hc hm hv j28 hg hn hdb hs) h
theorem j5c {T : String} {r : List V → Hp → VK → Prop} {x : Str} (hc : j3z X (.type T) r) (hm : X.mg x = none) (hv : bootBuiltins x = some (.type T)) (h : Ea X (e :: es) σ H fun vs H1 => r vs H1 Q) (hg : Gl X x := by rfl) (hn : x ≠ "__name__" := by decide) (hdb : (x == ("__debug__" : Str)) = false := by decide)
  (hs : noStar (e :: es) = true := by rfl) : Ev X (.Call (.Name x p) (e :: es) [] pos) σ H Q := j12 (ptyp hc hm hv j28 hg hn hdb hs) h
theorem j1e {op : CmpOp} {r : R2} (ho : OpR X (compareOp op) r) (h : Ev X a σ H fun x H1 => Ev X b σ H1 fun y H2 => r x y H2 fun z H3 => ∃ k, z = .bl k ∧ T k H3) (hm : behindInMarks op b = false := by with_unfolding_all rfl) : Et X (.Compare a [op] [b] pos) σ H T := k0r (k8p ho j00 j00 hm) h
theorem k9r (h : Et X a σ H fun k H1 => T (!k) H1) : Et X (.UnaryOp .Not a pos) σ H T := k0r (q0b j6h) h
theorem k2g (h : Ev X e σ H fun x H1 => ∃ k, x = .bl k ∧ T k H1) (he : ∀ whole, isTrue e X.env whole = (do let v ← whole; standAt e.pos; holding [v] (truthy v)) := by intro _; rfl) : Et X e σ H T := k0r (k9s j00 he) h
theorem k4k (h : Ev X e σ H fun x H1 => ∃ k, TruV X.K x H1 k ∧ T k H1) (he : ∀ whole, isTrue e X.env whole = (do let v ← whole; standAt e.pos; holding [v] (truthy v)) := by intro _; rfl) : Et X e σ H T := k0r (k44 j00 he) h
theorem j47 (h : Ew X e σ H T) : Et X e σ H T := ⟨fun pins s I => h.run _ pins s I⟩
theorem j93 (h : Et X a σ H fun k H1 => if k = true then Ew X (.BoolOp .And (b :: es) pos) σ H1 T else T false H1) : Ew X (.BoolOp .And (a :: b :: es) pos) σ H T := k54 (k9t j6h q01) h
theorem k9v (h : Et X a σ H fun k H1 => if k = true then T true H1 else Ew X (.BoolOp .Or (b :: es) pos) σ H1 T) : Ew X (.BoolOp .Or (a :: b :: es) pos) σ H T := k54 (q2e j6h q01) h
theorem j6f (h : Et X a σ H T) : Ew X (.BoolOp .And [a] pos) σ H T := k54 (k6y j6h) h
theorem q1a (h : Et X a σ H T) : Ew X (.BoolOp .Or [a] pos) σ H T := k54 (q0s j6h) h
theorem j0j (i : Nat) {x : Str} {v : V} {R : St → Hp → Prop} (hN : X.N.Nodup) (h : R (σ.set i (some v)) H) (hi : X.N[i]? = some x := by rfl) (hx : Loc X.env.scope x := by first | exact Or.inl rfl | exact Or.inr rfl) (hf : X.fn x = true ∨ X.env.scope.names.lookup x = some .local := by first | exact .inl rfl | exact .inr rfl | assumption) : Eg X (.Name x p) v σ H R := k7d (k7g hN hi hx hf) h
theorem j0i (i : Nat) {x : Str} {pos' : Pos} (hN : X.N.Nodup) (h : Ev X e σ H fun v H1 => Run X rest D (σ.set i (some v)) H1) (hi : X.N[i]? = some x := by rfl) (hx : Loc X.env.scope x := by first | exact Or.inl rfl | exact Or.inr rfl) (hs : swapsWith e (some (.Name x pos')) pos.line X.env = pure false := by rfl)
  (hf : X.fn x = true ∨ X.env.scope.names.lookup x = some .local := by first | exact .inl rfl | exact .inr rfl | assumption) : Run X (.Assign [.Name x pos'] e pos :: rest) D σ H := j15 (q09 hN hi hx j00 hs hf) h
theorem j4b (h : Et X c σ H fun k H1 => if k = true then Run X body { D with nx := fun σ' H' => Run X rest D σ' H' } σ H1 else Run X els { D with nx := fun σ' H' => Run X rest D σ' H' } σ H1) : Run X (.If c body els pos :: rest) D σ H := j15 (q2j j6h j4h j4h) h
theorem j5u (φ ψ : Prop) (hc : ∀ T : Bool → Hp → Prop, (∀ k : Bool, (k = true → φ) → (k = false → ψ) → T k H) → Et X c σ H T) (ht : φ → Run X body { D with nx := fun σ' H' => Run X rest D σ' H' } σ H) (hu : ψ → Run X els { D with nx := fun σ' H' => Run X rest D σ' H' } σ H) : Run X (.If c body els pos :: rest) D σ H :=
 j4b (hc _ fun k p q => by
  cases k with
  | true => rw [if_pos rfl]; exact ht (p rfl)
  | false => rw [if_neg Bool.false_ne_true]; exact hu (q rfl))
theorem j0p (h : Ev X e σ H D.rt) : Run X (.Return (some e) pos :: rest) D σ H := j15 (q04 j00) h
theorem j1m (h : Ev X e σ H fun _ H1 => Run X rest D σ H1) (hs : swapsWith e none pos.line X.env = pure false := by rfl) : Run X (.Expr e pos :: rest) D σ H := j15 (k9a j00 hs) h
theorem j8y {tg : Expr} (h : Ev X e σ H fun v H1 => Eg X tg v σ H1 fun σ' H' => Run X rest D σ' H') (hs : swapsWithSole [tg] e pos.line X.env = pure false := by rfl) (hw : swappedStores [tg] e X.env = pure none := by rfl)
  (h1 : (assignEach [tg] X.env).map (·.2) = [assign tg X.env] := by rfl) : Run X (.Assign [tg] e pos :: rest) D σ H := j15 (k9u j00 j87 hs hw h1) h
def Loop (X : Cx) (tg : Expr) (body : List Stmt) (J : It) (D : Ends) (after : St → Hp → Prop) (σ : St) (H : Hp) : Prop :=
 ∃ W : Nat → Nat → St → Hp → Prop, (∃ m, W 0 m σ H) ∧ ∀ i m σ H, W i m σ H → (J.stop i H ∧ after σ H) ∨ (J.go i H ∧ ∃ N : St → Hp → Prop, (∀ σ' H', N σ' H' → ∃ m', m' < m ∧ W (i + 1) m' σ' H') ∧
  ∀ x H', J.yld i H x H' → Eg X tg x σ H' fun σ2 H2 => Run X body { D with nx := N, ct := N, bk := after } σ2 H2)
theorem j3u {tg iter : Expr} {wi : TI} (hi : PI X tg iter wi) (h : wi σ H fun J H1 => Loop X tg body J D (fun σ' H' => Run X rest D σ' H') σ H1) (hp : PassesOwn (model X.prog X.w) X.A X.env X.xe := by exact PassesOwn.never) (hc : X.calm = true := by rfl)
  (hs : ∀ x, foldedSetIterable iter X.env x = pure x := by intro _; rfl) : Run X (.For tg iter body [] pos :: rest) D σ H := j15 (q1f hp hc hi j87 j4h hs) h
theorem j17 {tg : Expr} {q : Pos} (hm : X.mg "range" = none) (h : Ev X a σ H fun x H1 => ∃ j : Int, x = .int j ∧ -(2 ^ 62) ≤ j ∧ j < 2 ^ 62 ∧ Loop X tg body (Itr 0 j.toNat) D (fun σ' H' => Run X rest D σ' H') σ H1) (hg : Gl X "range" := by rfl) (hp : PassesOwn (model X.prog X.w) X.A X.env X.xe := by exact PassesOwn.never) (hc : X.calm = true := by rfl) (hs : isStar a = false := by rfl) :
  Run X (.For tg (.Call (.Name "range" q) [a] [] p) body [] pos :: rest) D σ H :=
 j3u (wi := q02 (tEa X [a])) (j39 hg hm j28 (j20 a [] _ hs)) (show Ea X [a] σ H _ from j0a (h.mono fun x H1 ⟨j, e, h1, h2, h3⟩ => j0g ⟨j, by rw [e], h1, h2, h3⟩) hs) hp hc (by intro _; rfl)
theorem k5u {tg iter : Expr} (h : Ev X iter σ H fun x H1 => ∃ a, x = .ref a ∧ (∃ xs, SqT X.K H1 a xs) ∧ Loop X tg body (Itt X.K a) D (fun σ' H' => Run X rest D σ' H') σ H1) (hp : PassesOwn (model X.prog X.w) X.A X.env X.xe := by exact PassesOwn.never) (hc : X.calm = true := by rfl)
  (hs : ∀ x, foldedSetIterable iter X.env x = pure x := by intro _; rfl) : Run X (.For tg iter body [] pos :: rest) D σ H := j3u (k90 j00) h hp hc hs
theorem j2e {tg iter : Expr} (h : Ev X iter σ H fun x H1 => ∃ a, x = .ref a ∧ (∃ xs, SqL X.K H1 a xs) ∧ Loop X tg body (Itl X.K a) D (fun σ' H' => Run X rest D σ' H') σ H1) (hp : PassesOwn (model X.prog X.w) X.A X.env X.xe := by exact PassesOwn.never) (hc : X.calm = true := by rfl)
  (hs : ∀ x, foldedSetIterable iter X.env x = pure x := by intro _; rfl) : Run X (.For tg iter body [] pos :: rest) D σ H := j3u (j1s j00) h hp hc hs
theorem j1v {tg : Expr} {lo : Int} {n : Nat} {after : St → Hp → Prop} (Pv : Nat → St → Hp → Prop) (h0 : Pv 0 σ H)
  (hs : ∀ i σ H, i < n → Pv i σ H → Eg X tg (.int (lo + i)) σ H fun σ2 H2 => Run X body { D with nx := Pv (i + 1), ct := Pv (i + 1), bk := after } σ2 H2) (hd : ∀ σ H, Pv n σ H → after σ H) : Loop X tg body (Itr lo n) D after σ H := by
 refine ⟨fun i m σ H => m = n - i ∧ i ≤ n ∧ Pv i σ H, ⟨n, by simp, Nat.zero_le _, h0⟩, ?_⟩
 rintro i m σ H ⟨rfl, hi, p⟩
 by_cases hlt : i < n
 ·refine .inr ⟨hlt, Pv (i + 1), fun σ' H' p' => ⟨n - (i + 1), by omega, rfl, hlt, p'⟩, fun x H' y => ?_⟩
  obtain ⟨e, y⟩ := y
  subst e y
  exact hs i σ _ hlt p
 ·have e : i = n := by omega
  subst e
  exact .inl ⟨Nat.le_refl _, hd σ H p⟩
theorem k48 {tg : Expr} {at_ : Addr} {xs : List V} {after : St → Hp → Prop} (Pv : Nat → St → Hp → Prop) (h0 : Pv 0 σ H) (hl : ∀ i σ H, i ≤ xs.length → Pv i σ H → SqT X.K H at_ xs)
  (hs : ∀ i x σ H, xs[i]? = some x → Pv i σ H → Eg X tg x σ H fun σ2 H2 => Run X body { D with nx := Pv (i + 1), ct := Pv (i + 1), bk := after } σ2 H2) (hd : ∀ σ H, Pv xs.length σ H → after σ H) : Loop X tg body (Itt X.K at_) D after σ H := by
 refine ⟨fun i m σ H => m = xs.length - i ∧ i ≤ xs.length ∧ Pv i σ H, ⟨xs.length, by simp, Nat.zero_le _, h0⟩, ?_⟩
 rintro i m σ H ⟨rfl, hi, p⟩
 have q := hl i σ H hi p
 by_cases hlt : i < xs.length
 ·refine .inr ⟨⟨xs, xs[i], q, by simp [hlt]⟩, Pv (i + 1), fun σ' H' p' => ⟨xs.length - (i + 1), by omega, rfl, hlt, p'⟩, fun x H' y => ?_⟩
  obtain ⟨e, y⟩ := y
  subst e
  exact hs i x σ _ (y xs q) p
 ·have e : i = xs.length := by omega
  subst e
  exact .inl ⟨⟨xs, q, Nat.le_refl _⟩, hd σ H p⟩
theorem j1x {tg : Expr} {at_ : Addr} {xs : List V} {after : St → Hp → Prop} (Pv : Nat → St → Hp → Prop) (h0 : Pv 0 σ H) (hl : ∀ i σ H, i ≤ xs.length → Pv i σ H → SqL X.K H at_ xs)
  (hs : ∀ i x σ H, xs[i]? = some x → Pv i σ H → Eg X tg x σ H fun σ2 H2 => Run X body { D with nx := Pv (i + 1), ct := Pv (i + 1), bk := after } σ2 H2) (hd : ∀ σ H, Pv xs.length σ H → after σ H) : Loop X tg body (Itl X.K at_) D after σ H := by
 refine ⟨fun i m σ H => m = xs.length - i ∧ i ≤ xs.length ∧ Pv i σ H, ⟨xs.length, by simp, Nat.zero_le _, h0⟩, ?_⟩
 rintro i m σ H ⟨rfl, hi, p⟩
 have q := hl i σ H hi p
 by_cases hlt : i < xs.length
 ·refine .inr ⟨⟨xs, xs[i], q, by simp [hlt]⟩, Pv (i + 1), fun σ' H' p' => ⟨xs.length - (i + 1), by omega, rfl, hlt, p'⟩, fun x H' y => ?_⟩
  obtain ⟨e, y⟩ := y
  subst e
  exact hs i x σ _ (y xs q) p
 ·have e : i = xs.length := by omega
  subst e
  exact .inl ⟨⟨xs, q, Nat.le_refl _⟩, hd σ H p⟩
theorem Fun.go {P : Program} {w : World} {K : PySem.W.Frag} {mg : Str → Option Value} {base : Heap} {x qual : Str} {st : Stmt} {f : Addr} {fd : FuncData} {N ps : List Str} {k : Nat} {sp : Sp} (F : Fun K x qual st f fd) (S : FnScope N ps (j0h st)) (len : ∀ vs H Q E, sp vs H Q E → vs.length = ps.length)
  (hbody : ∀ (cdv : Value) (A : Around) (outer : List Env) (s : Shared) (H : Hp) (vs : List V) (Q : VK) (E : XK), Room k (A.deeper (envOfC qual (j0h st) s.heap.objs.size f cdv)) → sp vs H Q E →
   Run (cxOf CX0 P w K mg base N qual (j0h st) f cdv A outer s H E).nox (j2c st) { nx := fun _ H' => Q .non H', rt := Q } (start N vs) H) : FnOk P w K mg base CX0 (k + 1) f fd ps sp :=
 F.ok S len fun cdv A outer s H vs Q E hr hsp => ⟨_, j4h, hbody cdv A outer s H vs Q E hr hsp⟩
end
end L2
namespace L2
open PySem PySem.Spec PyProof.Rows
structure Ei (X : Cx) (ifs : List Expr) (σ : St) (H : Hp) (Q : Bool → Hp → Prop) : Prop where
 run : ∀ (pins : List (Addr × Obj)) (s : Shared), Inv X pins σ H s →
  wpAny (model X.prog X.w) X.A (forIn ifs true fun c r => if r = true then do let ok ← isTrue c X.env (eval c X.env); pure (ForInStep.yield ok) else pure (ForInStep.yield r)) (TP X pins σ Q) X.xe s
def CEv (X : Cx) (N' : List Str) (scope : Scope) (e : Expr) (σ : St) (H : Hp) (Q : VK) : Prop := ∀ cl C s₀ H₀ ex, Ev (j1a X N' scope cl C s₀ H₀ ex) e σ H Q
def CEg (X : Cx) (N' : List Str) (scope : Scope) (e : Expr) (v : V) (σ : St) (H : Hp) (Q : St → Hp → Prop) : Prop := ∀ cl C s₀ H₀ ex, Eg (j1a X N' scope cl C s₀ H₀ ex) e v σ H Q
def CEi (X : Cx) (N' : List Str) (scope : Scope) (ifs : List Expr) (σ : St) (H : Hp) (Q : Bool → Hp → Prop) : Prop := ∀ cl C s₀ H₀ ex, Ei (j1a X N' scope cl C s₀ H₀ ex) ifs σ H Q
def k1e (X : Cx) (N' : List Str) (scope : Scope) (tg : Expr) (ifs : List Expr) (elt : Expr) (J : It) (D : Addr) (after : Hp → Prop) (σ : St) (H : Hp) : Prop :=
 ∃ W : Nat → Nat → St → Hp → Prop, (∃ m, W 0 m σ H) ∧ ∀ i m σ' H', W i m σ' H' →
  (J.stop i H' ∧ after H') ∨ (J.go i H' ∧ ∃ N : St → Hp → Prop, (∀ σ' H', N σ' H' → ∃ m', m' < m ∧ W (i + 1) m' σ' H') ∧ ∀ x H2, J.yld i H' x H2 → CEg X N' scope tg x σ' H2 fun σ2 H3 => CEi X N' scope ifs σ2 H3 fun b H4 =>
   if b = true then CEv X N' scope elt σ2 H4 fun v H5 => ∃ ys, H5 D = some (.lst ys) ∧ ys.length < sizeLine ∧ N σ2 (upd H5 D (.lst (ys ++ [v]))) else N σ2 H4)
section
variable {X : Cx} {elt tg iter c : Expr} {ifs : List Expr} {scope : Scope} {pos p : Pos} {wi : TI} {σ : St} {H : Hp} {Q : VK} {T : Bool → Hp → Prop} {rest : List Stmt} {D : Ends}
theorem j3q (h : T true H) : Ei X [] σ H T := ⟨fun pins s I => k8i pins s σ H T I h⟩
theorem j3b (h : Et X c σ H T) : Ei X [c] σ H T := ⟨fun pins s I => k8j j6h pins s σ H T I h⟩
theorem j2u (sc : Scope) (N N' : List Str) (n : Nat) (hi : PI X tg iter wi)
  (h : wi σ H fun J H1 => ∀ D, H1 D = none → k1e X N' scope tg ifs elt J D (fun H' => Q (.ref D) H') (σ ++ List.replicate n none) (upd H1 D (.lst [])))
  (hc : X.calm = true := by rfl) (hsc : X.env.scope = sc := by rfl) (hN : X.N = N := by rfl) (hk : j36 sc scope N N' = true := by decide +kernel) (hl : N'.length = N.length + n := by rfl)
  (hs : ∀ x, foldedSetIterable iter X.env x = pure x := by intro _; rfl) : Ev X (.ListComp elt [⟨tg, iter, ifs, 0⟩] scope pos) σ H Q :=
 j12 (k7c (g := fun v σ H Q => CEg X N' scope tg v σ H Q) (tc := fun σ H Q => CEi X N' scope ifs σ H Q) (te := fun σ H Q => CEv X N' scope elt σ H Q) sc N N' n hi
  (fun cl C s₀ H₀ ex pins s σ H v u Q I r h => (h cl C s₀ H₀ ex).run pins s u I r) (fun cl C s₀ H₀ ex pins s σ H Q I h => (h cl C s₀ H₀ ex).run pins s I) (fun cl C s₀ H₀ ex pins s σ H Q I h => (h cl C s₀ H₀ ex).run pins s I) hc hsc hN hk hl hs) h
theorem j42 (i : Nat) {y : Str} {py spos : Pos} (sc : Scope) (N N' : List Str) (n : Nat) (hnd : X.N.Nodup) (hi : PI X tg iter wi)
  (h : wi σ H fun J H1 => ∀ A, H1 A = none → k1e X N' scope tg ifs elt J A (fun H' => Run X rest D (σ.set i (some (.ref A))) H') (σ ++ List.replicate n none) (upd H1 A (.lst [])))
  (hiN : X.N[i]? = some y := by rfl) (hy : Loc X.env.scope y := by first | exact Or.inl rfl | exact Or.inr rfl)
  (hsw : swapsWith (.ListComp elt [⟨tg, iter, ifs, 0⟩] scope pos) (some (.Name y py)) spos.line X.env = pure true := by rfl)
  (hc : X.calm = true := by rfl) (hsc : X.env.scope = sc := by rfl) (hN : X.N = N := by rfl) (hk : j36 sc scope N N' = true := by decide +kernel) (hl : N'.length = N.length + n := by rfl)
  (hs : ∀ x, foldedSetIterable iter X.env x = pure x := by intro _; rfl) (hf : X.fn y = true ∨ X.env.scope.names.lookup y = some .local := by first | exact .inl rfl | exact .inr rfl | assumption) :
  Run X (.Assign [.Name y py] (.ListComp elt [⟨tg, iter, ifs, 0⟩] scope pos) spos :: rest) D σ H :=
 j15 (k7r (g := fun v σ H Q => CEg X N' scope tg v σ H Q) (tc := fun σ H Q => CEi X N' scope ifs σ H Q) (te := fun σ H Q => CEv X N' scope elt σ H Q) sc N N' n hnd hiN hy hi
  (fun cl C s₀ H₀ ex pins s σ H v u Q I r h => (h cl C s₀ H₀ ex).run pins s u I r) (fun cl C s₀ H₀ ex pins s σ H Q I h => (h cl C s₀ H₀ ex).run pins s I) (fun cl C s₀ H₀ ex pins s σ H Q I h => (h cl C s₀ H₀ ex).run pins s I) hsw hc hsc hN hk hl hs hf) h
end
end L2
namespace L2
open PySem PySem.Spec PyProof.Rows
structure Has (P : Program) (w : World) (K : PySem.W.Frag) (mg : Str → Option Value) (base : Heap) (k : Nat) (x : Str) (ps : List Str) (sp : Sp) : Prop where
 ex : ∃ f fd, FnOk P w K mg base CX0 k f fd ps sp ∧ Binds K fd ps [] ∧ PySem.W.keepIn K (.ref f) = true ∧ mg x = some (.ref f)
theorem Has.mono {P : Program} {w : World} {K : PySem.W.Frag} {mg : Str → Option Value} {base : Heap} {j k : Nat} {x : Str} {ps : List Str} {sp : Sp} (h : Has P w K mg base j x ps sp) (le : j ≤ k) : Has P w K mg base k x ps sp :=
 let ⟨f, fd, F, r⟩ := h.ex; ⟨f, fd, F.mono le, r⟩
theorem j0t {X : Cx} {k : Nat} {ps : List Str} {sp : Sp} {x : Str} {e : Expr} {es : List Expr} {σ : St} {H : Hp} {Q : VK} {p pos : Pos} (G : Has X.prog X.w X.K X.mg X.base k x ps sp) (hr : Room k X.A)
  (h : Ea X (e :: es) σ H fun vs H1 => sp vs H1 Q E0) (hg : Gl X x := by rfl) (hdb : (x == ("__debug__" : Str)) = false := by decide) (hs : noStar (e :: es) = true := by rfl) : Ev X (.Call (.Name x p) (e :: es) [] pos) σ H Q :=
 let ⟨_, _, F, b, kp, m⟩ := G.ex; k8k F hr m kp b q1y h hg hdb hs
theorem _root_.L2.Room.u100 {k : Nat} {A : Around} (hr : Room k A) : A.units + 100 < cLine := by have := hr.un; omega
theorem _root_.L2.Room.u1 {k : Nat} {A : Around} (hr : Room k A) : A.units + 1 < cLine := by have := hr.un; omega
def Df (K : PySem.W.Frag) (x : Str) (st : Stmt) : Prop := ∃ (f : Addr) (fd : FuncData), PySem.W.nsIn K mainGlobals x = some (some (.ref f)) ∧ Fun K x x st f fd
theorem df_mk {K : PySem.W.Frag} {x : Str} {st : Stmt} {f : Addr} {oc kV doc pm cdv ct : Value} {od an : Option Addr} {sl : Array (Option Value)} (a : PySem.W.nsIn K mainGlobals x = some (some (.ref f)))
  (l : K.lookup f = some ⟨oc, od, .func (PySem.W.fnOf x x (j3t st) (j2c st) (j0h st) .none kV doc pm an cdv ct), sl⟩) (c : PySem.W.codeIn K cdv x = true) (k : PySem.W.keepIn K (.ref f) = true) : Df K x st := ⟨f, _, a, q0t l c k⟩
structure Bun where
 f : Addr
 cdv : Value
 A : Around
 outer : List Env
 s : Shared
 H : Hp
 E : XK
def cxB (N : List Str) (qual : Str) (scope : Scope) (P : Program) (w : World) (K : PySem.W.Frag) (mg : Str → Option Value) (base : Heap) (b : Bun) : Cx := (cxOf CX0 P w K mg base N qual scope b.f b.cdv b.A b.outer b.s b.H b.E).nox
def En (Q : VK) : Ends := { nx := fun _ H' => Q .non H', rt := Q }
theorem Fun.gb {P : Program} {w : World} {K : PySem.W.Frag} {mg : Str → Option Value} {base : Heap} {x qual : Str} {st : Stmt} {f : Addr} {fd : FuncData} {N ps : List Str} {k : Nat} {sp : Sp} (F : Fun K x qual st f fd) (S : FnScope N ps (j0h st)) (len : ∀ vs H Q E, sp vs H Q E → vs.length = ps.length)
  (hbody : ∀ (b : Bun) (H : Hp) (vs : List V) (Q : VK) (E : XK), Room k (b.A.deeper (envOfC qual (j0h st) b.s.heap.objs.size b.f b.cdv)) → sp vs H Q E → Run (cxB N qual (j0h st) P w K mg base b) (j2c st) (En Q) (start N vs) H) : FnOk P w K mg base CX0 (k + 1) f fd ps sp :=
 F.go S len fun cdv A outer s H vs Q E hr hsp => hbody ⟨f, cdv, A, outer, s, H, E⟩ H vs Q E hr hsp
theorem j5x {us : List Value} {k : Nat} (h : us.length = k + 1) : ∃ a r, us = a :: r ∧ r.length = k := by
 cases us with
 | nil => cases h
 | cons a r => exact ⟨a, r, rfl, Nat.succ.inj h⟩
theorem bd1 {fd : FuncData} {ps : List Str} (f : ∀ a : Value, bindArgs fd ⟨[a], []⟩ = pure (ps.zip [a])) : ∀ us : List Value, us.length = 1 → bindArgs fd ⟨us, []⟩ = pure (ps.zip us) := fun us h => by
 obtain ⟨a, r0, e0, h0⟩ := j5x h
 have z := List.length_eq_zero_iff.mp h0
 subst z e0
 exact f a
theorem bd2 {fd : FuncData} {ps : List Str} (f : ∀ a b : Value, bindArgs fd ⟨[a, b], []⟩ = pure (ps.zip [a, b])) : ∀ us : List Value, us.length = 2 → bindArgs fd ⟨us, []⟩ = pure (ps.zip us) := fun us h => by
 obtain ⟨a, r0, e0, h0⟩ := j5x h
 obtain ⟨b, r1, e1, h1⟩ := j5x h0
 have z := List.length_eq_zero_iff.mp h1
 subst z e1 e0
 exact f a b
theorem bd3 {fd : FuncData} {ps : List Str} (f : ∀ a b c : Value, bindArgs fd ⟨[a, b, c], []⟩ = pure (ps.zip [a, b, c])) : ∀ us : List Value, us.length = 3 → bindArgs fd ⟨us, []⟩ = pure (ps.zip us) := fun us h => by
 obtain ⟨a, r0, e0, h0⟩ := j5x h
 obtain ⟨b, r1, e1, h1⟩ := j5x h0
 obtain ⟨c, r2, e2, h2⟩ := j5x h1
 have z := List.length_eq_zero_iff.mp h2
 subst z e2 e1 e0
 exact f a b c
theorem bd4 {fd : FuncData} {ps : List Str} (f : ∀ a b c d : Value, bindArgs fd ⟨[a, b, c, d], []⟩ = pure (ps.zip [a, b, c, d])) : ∀ us : List Value, us.length = 4 → bindArgs fd ⟨us, []⟩ = pure (ps.zip us) := fun us h => by
 obtain ⟨a, r0, e0, h0⟩ := j5x h
 obtain ⟨b, r1, e1, h1⟩ := j5x h0
 obtain ⟨c, r2, e2, h2⟩ := j5x h1
 obtain ⟨d, r3, e3, h3⟩ := j5x h2
 have z := List.length_eq_zero_iff.mp h3
 subst z e3 e2 e1 e0
 exact f a b c d
theorem Df.has {P : Program} {w : World} {K : PySem.W.Frag} {mg : Str → Option Value} {h base : Heap} {k : Nat} {x : Str} {st : Stmt} {ps : List Str} {sp : Sp} (d : Df K x st) (X : K.In h) (G : h.Ns mainGlobals mg)
  (hb : ∀ (kV doc pm : Value) (an : Option Addr) (cdv ct : Value) (us : List Value), us.length = ps.length → bindArgs (PySem.W.fnOf x x (j3t st) (j2c st) (j0h st) .none kV doc pm an cdv ct) ⟨us, []⟩ = pure (ps.zip us))
  (ok : ∀ {f : Addr} {fd : FuncData}, Fun K x x st f fd → FnOk P w K mg base CX0 k f fd ps sp) : Has P w K mg base k x ps sp :=
 let ⟨f, fd, a, F⟩ := d; ⟨f, fd, ok F, F.binds hb, F.kp, PySem.W.mg_of X G a⟩
theorem Df.law {P : Program} {w : World} {K : PySem.W.Frag} {mg : Str → Option Value} {h : Heap} {k : Nat} {x y : Str} {st : Stmt} {sp : Sp} {fa : Addr} (d : Df K x st) (X : K.In h) (G : h.Ns mainGlobals mg) (hfa : mg x = some (.ref fa))
  (hb : ∀ (kV doc pm : Value) (an : Option Addr) (cdv ct : Value) (s : Shared) (v : Value), BindsTo s (PySem.W.fnOf x x (j3t st) (j2c st) (j0h st) .none kV doc pm an cdv ct) ⟨[v], []⟩ [(y, v)])
  (ok : ∀ (base : Heap) {f : Addr} {fd : FuncData}, Fun K x x st f fd → FnOk P w K mg base CX0 k f fd [y] sp) :
  ∃ fd : FuncData, (∀ (s : Shared) (v : Value), BindsTo s fd ⟨[v], []⟩ [(y, v)]) ∧ ∀ base : Heap, K.In base → base.Ns mainGlobals mg → FnOk P w K mg base CX0 k fa fd [y] sp := by
 obtain ⟨f, fd, a, F⟩ := d
 have e := hfa.symm.trans (PySem.W.mg_of X G a)
 cases e
 obtain ⟨oc, od, kV, doc, pm, an, cdv, ct, osl, rfl, lk, hcd⟩ := id F.ex
 exact ⟨_, hb kV doc pm an cdv ct, fun base _ _ => ok base F⟩
end L2
namespace SetT
open PySem
end SetT
namespace SetT
open PySem
def byTx (w : World) : Bool := w.params.followText "set-order"
def keyOf (e : Int × Value) : Str := match e.2 with
 | .str x _ => x
 | _ => ⟨#[]⟩
section
variable (prog : Program) (w : World)
def Elt (e : Int × Value) : Prop := ∃ z t, e = ((strKind prog w).hash z, Value.str z t)
structure Tab (es : Array (Int × Value)) (t : SetTable) (zs : List Str) : Prop where
 elts : ∀ e ∈ es.toList, Elt prog w e
 keys : (es.toList.map keyOf).Perm zs
 nodup : zs.Nodup
 few : zs.length < 1000
 fits : t.fits es.size = true
 led : t.led = !byTx w
 plain : es = #[] ∨ t.plain = false
def SetAt (h : Heap) (a : Addr) (zs : List Str) : Prop := ∃ o es ep t, h.get? a = some o ∧ o.ExactSet ∧ o.data = .set es ep t ∧ Tab prog w es t zs
end
section
variable {prog : Program} {w : World} {es : Array (Int × Value)} {t : SetTable} {zs : List Str} {h h' : Heap} {a : Addr}
theorem Tab.elems (T : Tab prog w es t zs) : ElemsOf (strKind prog w) es.toList := fun e he => by
 obtain ⟨z, u, rfl⟩ := T.elts e he
 exact ⟨⟨z, strKind_is _ _ _ _, rfl⟩, rfl⟩
theorem Tab.size (T : Tab prog w es t zs) : es.size = zs.length := by
 have := T.keys.length_eq
 rw [List.length_map, Array.length_toList] at this
 exact this
theorem Tab.few' (T : Tab prog w es t zs) : es.size < 1000 := by rw [T.size]; exact T.few
theorem Tab.scan (T : Tab prog w es t zs) : es.size < scanBound := by have := T.few'; unfold scanBound; omega
theorem Tab.perm {es' : Array (Int × Value)} {t' : SetTable} (T : Tab prog w es t zs) (p : es'.toList.Perm es.toList) (hf : t'.fits es'.size = true) (hl : t'.led = t.led) (hp : es' = #[] ∨ t'.plain = false) : Tab prog w es' t' zs :=
 ⟨fun e he => T.elts e (p.mem_iff.mp he), (p.map keyOf).trans T.keys, T.nodup, T.few, hf, hl.trans T.led, hp⟩
theorem SetAt.keep (S : SetAt prog w h a zs) (k : ∀ o, h.get? a = some o → h'.get? a = some o) : SetAt prog w h' a zs := let ⟨o, es, ep, t, h1, h2⟩ := S; ⟨o, es, ep, t, k o h1, h2⟩
theorem SetAt.typeIs {s : Shared} (S : SetAt prog w s.heap a zs) : s.TypeIs (.ref a) "set" := let ⟨o, _, _, _, h1, h2, _⟩ := S; ⟨o, h1, h2.1⟩
theorem k1q {o : Obj} {ep : Nat} {es' : Array (Int × Value)} {t' : SetTable} {zs' : List Str} (ho : h.get? a = some o) (hx : o.ExactSet) (hd : o.data = .set es ep t) (T' : Tab prog w es' t' zs') :
  (h.update a (Obj.putSet es' t')).get? a = some { o with data := .set es' (ep + 1) t' } ∧ SetAt prog w (h.update a (Obj.putSet es' t')) a zs' := by
 have q := Heap.get?_update_self (Obj.putSet es' t') ho (by rw [putSet_of es' t' hd]; rfl)
 rw [putSet_of es' t' hd] at q
 exact ⟨q, _, es', ep + 1, t', q, hx, rfl, T'⟩
theorem k3l {e : Int × Value} (he : Elt prog w e) (z : Str) : (strKind prog w).is z e.2 = decide (z = keyOf e) := by
 obtain ⟨y, u, rfl⟩ := he
 exact KeyKind.is_eq_decide (strKind_is prog w y u) z
theorem find_none (T : Tab prog w es t zs) {z : Str} (hz : z ∉ zs) : es.toList.findIdx? (fun e => (strKind prog w).is z e.2) = none := by
 rw [List.findIdx?_eq_none_iff]
 intro e he
 rw [k3l (T.elts e he), decide_eq_false_iff_not]
 rintro rfl
 exact hz (T.keys.mem_iff.mp (List.mem_map_of_mem he))
theorem find_some (T : Tab prog w es t zs) {z : Str} (hz : z ∈ zs) : ∃ j, ∃ hj : j < es.toList.length, es.toList.findIdx? (fun e => (strKind prog w).is z e.2) = some j ∧ keyOf es.toList[j] = z := by
 obtain ⟨e, he, e2⟩ := List.mem_map.mp (T.keys.mem_iff.mpr hz)
 cases q : es.toList.findIdx? (fun e => (strKind prog w).is z e.2) with
 | none =>
  have := List.findIdx?_eq_none_iff.mp q e he
  rw [k3l (T.elts e he), decide_eq_false_iff_not] at this
  exact absurd e2.symm this
 | some j =>
  obtain ⟨hj, p, _⟩ := List.findIdx?_eq_some_iff_getElem.mp q
  rw [k3l (T.elts _ (List.getElem_mem hj)), decide_eq_true_eq] at p
  exact ⟨j, hj, rfl, p.symm⟩
theorem k4i (t : SetTable) (n : Nat) : (t.orStandIn n).led = t.led ∧ ((t.orStandIn n).plain = true → t.plain = true) := by
 unfold SetTable.orStandIn
 split
 ·exact ⟨rfl, id⟩
 ·exact ⟨rfl, fun h => by cases h⟩
theorem k0p (t : SetTable) (es : Array (Int × Value)) (x : Int) (v : Value) : (layNew t es x v).2.1.led = t.led := by
 unfold layNew
 split
 ·exact (k4i _ _).1
 ·rfl
theorem k5t {mask f m : Nat} {l p : Bool} {hs : Array Int} {t' : SetTable} {o : Array Nat} (e : SetTable.laid mask f m l p hs = some (t', o)) : t'.led = l ∧ t'.plain = p := by
 unfold SetTable.laid at e
 cases c : SetTable.layClean mask hs with
 | none => rw [c] at e; cases e
 | some ow => rw [c] at e; cases e; exact ⟨rfl, rfl⟩
theorem j75 (t : SetTable) (es : Array (Int × Value)) (n : Nat) (hp : t.plain = false) : (relayAll t es n).2.1.led = t.led ∧ (relayAll t es n).2.1.plain = false := by
 unfold relayAll
 split
 ·rename_i t' o e
  have q := k5t e
  dsimp only
  split
  ·exact ⟨q.1, q.2.trans hp⟩
  ·exact ⟨rfl, rfl⟩
 ·exact ⟨rfl, rfl⟩
end
section
variable {prog : Program} {w : World} {A : Around} {E : Value → Shared → Prop} {s : Shared} {a : Addr} {zs : List Str}
theorem k2n {n : Nat} (h : n < 1001) : n ≤ sizeLine := by rw [sizeLine_eq]; omega
theorem k24 {g : Bool → Sem Unit} (hg : ∀ (b : Bool) (s₁ : Shared) (Q' : Unit → Shared → Prop), Q' () s₁ → wpAny (model prog w) A (g b) Q' E s₁)
  {o : Obj} {es : Array (Int × Value)} {ep : Nat} {t : SetTable} (ho : s.heap.get? a = some o) (hx : o.ExactSet) (hd : o.data = .set es ep t)
  {es1 : Array (Int × Value)} {t2 : SetTable} (T : Tab prog w es1 t2 zs) (hp : t2.plain = false) {c : Bool} {R : Option Bool → Shared → Prop}
  (k : ∀ h', Heap.SameBut a s.heap h' → SetAt prog w h' a zs → R (some true) { s with heap := h' }) :
  wpAny (model prog w) A (do
   storeSet a es1 t2
   if c = true then do
     g (relayAll t2 es1 (SetTable.grown es1.size)).2.2
     storeSet a (relayAll t2 es1 (SetTable.grown es1.size)).1 (relayAll t2 es1 (SetTable.grown es1.size)).2.1
     pure (some true)
    else pure (some true)) R E s := by
 refine wpAny_bind (wpAny_storeSet_of ho hd ?_ (k2n (Nat.lt_succ_of_lt T.few')))
 obtain ⟨q1, q2⟩ := k1q ho hx hd T
 have sb := Heap.SameBut.update s.heap a (Obj.putSet es1 t2)
 cases c with
 | false => exact wpAny_pure (k _ sb q2)
 | true =>
  have p := relayAll_perm t2 es1 (SetTable.grown es1.size)
  have T3 := T.perm p (relayAll_fits t2 es1 (SetTable.grown es1.size)) (j75 t2 es1 _ hp).1 (.inr (j75 t2 es1 _ hp).2)
  refine wpAny_bind (hg _ _ _ ?_)
  refine wpAny_bind (wpAny_storeSet_of q1 rfl ?_ (k2n (Nat.lt_succ_of_lt T3.few')))
  exact wpAny_pure (k _ (sb.trans (Heap.SameBut.update _ a _)) (k1q q1 hx rfl T3).2)
def added (zs : List Str) (z : Str) : List Str := if z ∈ zs then zs else zs ++ [z]
theorem k9z {z : Str} {tk : Tok} {Q : Bool → Shared → Prop} (S : SetAt prog w s.heap a zs) (hb : zs.length + 1 < 1000)
  (k : ∀ (b : Bool) h', Heap.SameBut a s.heap h' → SetAt prog w h' a (added zs z) → Q b { s with heap := h' }) :
  wpAny (model prog w) A (setAddHashed a (.str z tk) ((strKind prog w).hash z)) Q E s := by
 obtain ⟨o, es, ep, t, ho, hx, hd, T⟩ := S
 unfold setAddHashed setAddHashedIn
 refine wpAny_holding (wpAny_bind (wpAny_setState_of ho hd T.fits ?_))
 dsimp only
 rw [byScan_of (knd := strKind prog w) (x := .str z tk) rfl T.scan T.elems]
 simp only [↓reduceIte]
 unfold setAddByScan
 refine wpAny_bind (wpAny_bind (wpAny_rule (wpAny_bind (wpAny_setScan_of (knd := strKind prog w) (k := z) (strKind_is _ _ _ _) ho hd T.fits T.elems ?_))))
 by_cases hz : z ∈ zs
 ·obtain ⟨j, hj, e, _⟩ := find_some T hz
  rw [e]
  dsimp only
  refine wpAny_pure (wpAny_pure (k false s.heap (Heap.SameBut.refl a s.heap) ?_))
  unfold added
  rw [if_pos hz]
  exact ⟨o, es, ep, t, ho, hx, hd, T⟩
 ·rw [find_none T hz]
  dsimp only
  have gw : ∀ (b : Bool) (s₁ : Shared) (Q' : Unit → Shared → Prop), Q' () s₁ → wpAny (model prog w) A (match b with | true => rule "set.scan.the-table-gave-way" | false => pure ()) Q' E s₁ :=
   fun b s₁ Q' q => by cases b <;> first | exact wpAny_pure q | exact wpAny_rule q
  have p := layNew_perm t es ((strKind prog w).hash z) (.str z tk)
  have f := layNew_fits t es ((strKind prog w).hash z) (.str z tk)
  have l := k0p t es ((strKind prog w).hash z) (.str z tk)
  generalize layNew t es ((strKind prog w).hash z) (.str z tk) = L at p f l ⊢
  obtain ⟨es1, t1, wd, gv⟩ := L
  dsimp only at p f l ⊢
  rw [Array.toList_push] at p
  have tab : ∀ t2 : SetTable, t2.fits es1.size = true → t2.led = t1.led → t2.plain = false → Tab prog w es1 t2 (zs ++ [z]) := fun t2 h1 h2 h3 => {
   elts := fun e he => by
    rcases List.mem_append.mp (p.mem_iff.mp he) with he | he
    ·exact T.elts e he
    ·exact ⟨z, tk, List.mem_singleton.mp he⟩
   keys := by
    refine (p.map keyOf).trans ?_
    rw [List.map_append]
    exact T.keys.append (List.Perm.refl _)
   nodup := by
    rw [List.nodup_append]
    refine ⟨T.nodup, by simp, fun x hx y hy e => ?_⟩
    rw [List.mem_singleton] at hy
    subst hy e
    exact hz hx
   few := by rw [List.length_append]; exact hb
   fits := h1
   led := h2.trans (l.trans T.led)
   plain := .inr h3 }
  have fin : ∀ h', Heap.SameBut a s.heap h' → SetAt prog w h' a (zs ++ [z]) → Q true { s with heap := h' } := fun h' q1 q2 => k true h' q1 (by unfold added; rw [if_neg hz]; exact q2)
  refine wpAny_bind (gw _ _ _ ?_)
  split
  ·rename_i hp
   refine wpAny_bind ?_
   rw [hashByValue_scannable 8 rfl]
   refine wpAny_pure ?_
   refine k24 gw ho hx hd (tab { t1 with plain := false } (SetTable.fits_plain_off f) rfl rfl) rfl fun h' q1 q2 => ?_
   dsimp only
   exact wpAny_pure (fin h' q1 q2)
  ·rename_i hp
   refine wpAny_bind (wpAny_pure ?_)
   simp only [↓reduceIte]
   refine k24 gw ho hx hd (tab t1 f rfl (Bool.eq_false_iff.mpr hp)) (Bool.eq_false_iff.mpr hp) fun h' q1 q2 => ?_
   dsimp only
   exact wpAny_pure (fin h' q1 q2)
theorem k81 {z : Str} {tk : Tok} {Q : Option Nat → Shared → Prop} {o : Obj} {es : Array (Int × Value)} {ep : Nat} {t : SetTable} (ho : s.heap.get? a = some o) (hd : o.data = .set es ep t) (T : Tab prog w es t zs)
  (k0 : z ∉ zs → Q none s) (k1 : ∀ j, (hj : j < es.toList.length) → keyOf es.toList[j] = z → Q (some j) s) : wpAny (model prog w) A (setFind a (.str z tk) ((strKind prog w).hash z)) Q E s := by
 unfold setFind setFindIn
 refine wpAny_bind (wpAny_setState_of ho hd T.fits ?_)
 dsimp only
 rw [byScan_of (knd := strKind prog w) (x := .str z tk) rfl T.scan T.elems]
 simp only [↓reduceIte]
 refine wpAny_bind (wpAny_rule (wpAny_bind (wpAny_setScan_of (knd := strKind prog w) (k := z) (strKind_is _ _ _ _) ho hd T.fits T.elems ?_)))
 by_cases hz : z ∈ zs
 ·obtain ⟨j, hj, e, q⟩ := find_some T hz
  rw [e]
  dsimp only
  rw [Nat.zero_add]
  exact wpAny_pure (k1 j hj q)
 ·rw [find_none T hz]
  exact wpAny_pure (k0 hz)
theorem pick_perm {α : Type} : ∀ (l : List α) (j : Nat) (hj : j < l.length), (l[j] :: l.eraseIdx j).Perm l
 | [], _, h => by simp at h
 | x :: r, 0, _ => List.Perm.refl _
 | x :: r, j + 1, h => (List.Perm.swap x _ _).trans ((pick_perm r j (Nat.lt_of_succ_lt_succ h)).cons x)
end
end SetT
namespace SetT
open PySem
section
variable {prog : Program} {w : World} {A : Around} {E : Value → Shared → Prop} {s : Shared} {a : Addr} {zs : List Str}
theorem wp_text {Q : Bool → Shared → Prop} (k : Q (byTx w) s) : wpAny (model prog w) A setsByText Q E s := by
 unfold setsByText
 exact wpAny_bind (wpAny_askSetting (wpAny_pure k))
variable {o : Obj} {es : Array (Int × Value)} {ep : Nat} {t : SetTable}
end
end SetT
namespace SetT
open PySem
open Builtin.Frozenset
section
variable {prog : Program} {w : World} {A : Around} {E : Value → Shared → Prop} {s : Shared} {a : Addr} {zs : List Str}
structure Bare (w : World) (t : SetTable) : Prop where
 place : t.place = #[]
 dummies : t.dummies = #[]
 led : t.led = !byTx w
 plain : t.plain = true
theorem Bare.tab {t : SetTable} (B : Bare w t) : Tab prog w #[] t [] :=
 ⟨fun e he => by simp at he, by simp, List.nodup_nil, by decide, by unfold SetTable.fits SetTable.fill; rw [B.place, B.dummies]; simp, B.led, .inl rfl⟩
variable {o : Obj} {ep : Nat} {t : SetTable}
end
end SetT
namespace SetT
open PySem
open Builtin.Frozenset
section
variable {prog : Program} {w : World} {A : Around} {E : Value → Shared → Prop} {s : Shared} {a r : Addr} {za zr : List Str}
end
end SetT
namespace SetT
open PySem
open Builtin.Frozenset
theorem j7m (zs : List Str) (z y : Str) : y ∈ added zs z ↔ y ∈ zs ∨ y = z := by
 unfold added
 split
 ·rename_i h
  exact ⟨.inl, fun q => q.elim id fun e => e ▸ h⟩
 ·rw [List.mem_append, List.mem_singleton]
section
variable {prog : Program} {w : World} {A : Around} {E : Value → Shared → Prop} {s : Shared}
def j64 (w : World) : Obj := { cls := .type "set", dict := none, data := .set #[] 0 (.fresh 0 0 (!byTx w)) }
theorem k1l {h : Heap} {a : Addr} (e : h.get? a = some (j64 w)) : SetAt prog w h a [] := ⟨_, _, _, _, e, ⟨rfl, rfl, rfl⟩, rfl, Bare.tab ⟨rfl, rfl, rfl, rfl⟩⟩
variable {R : Result → Shared → Prop} {I : Addr} {fp wr : List Addr} {G : Array GenState → Array GenState → Prop} {n : Nat} {P : Nat → Value → Prop} {St : Nat → Shared → Prop}
end
end SetT
namespace SetT
open PySem
open Builtin.Frozenset
section
variable {prog : Program} {w : World} {A : Around} {E : Value → Shared → Prop} {s : Shared} {a tp it : Addr} {zs : List Str} {o : Obj} {es : Array (Int × Value)} {ep : Nat} {t : SetTable} {ws : List (Int × Value)} {i : Nat} {first : Value}
end
end SetT
namespace SetT
open PySem PySem.Spec
open Builtin.Frozenset
section
variable {prog : Program} {w : World} {A : Around} {E : Value → Shared → Prop} {s : Shared} {a tp it : Addr} {zs : List Str} {o : Obj} {es : Array (Int × Value)} {ep : Nat} {t : SetTable} {ws : List (Int × Value)} {i : Nat} {first : Value}
end
end SetT
namespace SetT
open PySem PySem.Spec PyProof.Rows
theorem q1q (a b : List Nat) : ltCps a b = decide (a < b) := ltCps_eq a b
theorem rising_all : ∀ (l : List Str) (p : Str), risingS p l = true → ∀ x ∈ l, p.cps.toList ≤ x.cps.toList
 | [], _, _, x, hx => by cases hx
 | y :: r, p, h, x, hx => by
  unfold risingS at h
  rw [Bool.and_eq_true, Bool.not_eq_true', q1q, decide_eq_false_iff_not] at h
  have h1 : p.cps.toList ≤ y.cps.toList := h.1
  rcases List.mem_cons.mp hx with rfl | hx
  ·exact h1
  ·exact List.le_trans h1 (rising_all r y h.2 x hx)
theorem rising_sorted {p : Str} : ∀ {l : List Str}, risingS p l = true → sortedS l = true
 | [], _ => rfl
 | y :: r, h => by
  unfold risingS at h
  rw [Bool.and_eq_true] at h
  exact h.2
theorem str_ext {a b : Str} (h : a.cps.toList = b.cps.toList) : a = b := by
 cases a; cases b
 simp only at h
 have := Array.toList_inj.mp h
 rw [this]
section
variable {prog : Program} {w : World} {A : Around} {E : Value → Shared → Prop} {s : Shared} {a : Addr} {zs : List Str}
end
end SetT
namespace L2
open PySem PySem.Spec PyProof.Rows SetT
def SetO (prog : Program) (w : World) (a : Addr) (zs : List Str) : HO := .ext fun h => SetAt prog w h a zs
section
variable {X : Cx} {pins : List (Addr × Obj)} {σ : St} {H : Hp} {s s' : Shared} {a : Addr} {zs : List Str}
theorem Inv.like (I : Inv X pins σ H s) (e1 : s'.heap = s.heap) (e2 : s'.gens = s.gens) (e3 : s'.os = s.os) : Inv X pins σ H s' := by
 obtain ⟨h, g, d, t, o⟩ := s
 obtain ⟨h', g', d', t', o'⟩ := s'
 simp only at e1 e2 e3
 subst e1 e2 e3
 exact ⟨I.ok, I.os, I.bare, I.base, I.loc, I.cell, I.free, I.freeC, I.pin, I.hok, I.len⟩
theorem Inv.laid' {o : HO} (I : Inv X pins σ H s) (k : ∀ b u, s.heap.get? b = some u → s'.heap.get? b = some u) (e2 : s'.gens = s.gens) (e3 : s'.os = s.os) (hp : s.heap.objs.size ≤ a) (new : ObjOk X.prog X.w (upd H a o) s'.heap a o) : Inv X pins σ (upd H a o) s' :=
 (I.laid (t' := s.toks) k hp new).like (s' := s') rfl e2 e3
theorem k22 {h : Heap} (S : SetAt X.prog X.w h a zs) : ObjOk X.prog X.w H h a (SetO X.prog X.w a zs) := by
 refine ⟨S, ?_, fun h1 h2 q k => q.keep k⟩
 obtain ⟨o, _, _, _, ho, _⟩ := S
 exact ⟨o, ho⟩
theorem Inv.set (I : Inv X pins σ H s) (h : H a = some (SetO X.prog X.w a zs)) : SetAt X.prog X.w s.heap a zs := (I.hok a _ h).1
theorem j27 : ∀ {zs : List Str} {us : List Value}, Vals (zs.map V.str) us → StrsAre us zs
 | [], _, .nil => .nil
 | z :: r, _, .cons q qs => by
  obtain ⟨t, rfl⟩ := q
  exact .cons z t (j27 qs)
theorem j3c : ∀ {us : List Value} {zs : List Str}, StrsAre us zs → Vals (zs.map V.str) us
 | _, _, .nil => .nil
 | _, _, .cons z t q => .cons ⟨t, rfl⟩ (j3c q)
theorem j1r : j3z X (.builtin "sorted") (fun xs H Q => ∃ p zs, xs = [.ref p] ∧ SqL X.K H p (zs.map V.str) ∧ zs.length < 64 ∧ ∀ l ss, H l = none → ss.Perm zs → sortedS ss = true → Q (.ref l) (upd H l (.lst (ss.map V.str)))) := by
 intro pins s σ H xs us Q I r h
 obtain ⟨p, zs, rfl, hp, hl, q⟩ := h
 obtain ⟨u, rfl, ru⟩ := vals1 r
 cases (show u = Value.ref p from ru)
 obtain ⟨its, rv, pl, hz⟩ := I.list hp
 have e1 := rv.length
 rw [List.length_map] at e1
 refine PyProof.Rows.sorted_strs pl.isList (j27 rv) (by omega) fun out ss hS hpm hso => ?_
 obtain ⟨e, he⟩ := sortedAll_at s.heap its out
 have hlen : ss.length ≤ sizeLine := by rw [hpm.length_eq]; exact k2n (by omega)
 refine ⟨.ref _, _, I.laid' (s' := { s with heap := sortedAll s.heap its out }) (fun b u hb => sortedAll_old hb) rfl rfl (Nat.le_succ _) (show ObjOk X.prog X.w _ _ _ (.lst (ss.map V.str)) from ⟨by rw [List.length_map]; exact hlen, out.toList, e, j3c hS, he⟩), rfl, q _ ss (I.hok.fresh (Nat.le_succ _)) hpm hso⟩
end
end L2
namespace L2
open PySem PySem.Spec PyProof.Rows
section
variable {X : Cx} {o e : Expr} {σ : St} {H : Hp} {Q : VK} {ap cp : Pos}
theorem j1o (h : Ev X o σ H fun x H1 => ∃ l, x = .ref l ∧ (∃ xs, H1 l = some (.lst xs)) ∧ Ev X e σ H1 fun y H2 => ∃ xs, H2 l = some (.lst xs) ∧ xs.length < sizeLine ∧ Q .non (upd H2 l (.lst (xs ++ [y]))))
  (hbase : attributeBase o "append" X.env (eval o X.env) = eval o X.env := by rfl)
  (hfew : ((backTo cp (starEach [e] X.env)).all (fun x => !x.1) && (backToKw cp (keywordEach [] X.env)).all (fun x => x.1.isSome) && decide ([e].length + ([] : List Keyword).length + (if ([] : List Keyword).isEmpty then 0 else 1) < 30)) = true := by rfl)
  (hline : (ap.endLine == cp.line) = true := by rfl) (hs : starEach [e] X.env = (false, eval e X.env) :: starEach [] X.env := by rfl) (hplain : (backTo cp (starEach [] X.env)).any (·.1) = false := by rfl) (hst : isStar e = false := by rfl) :
  Ev X (.Call (.Attribute o "append" ap) [e] [] cp) σ H Q := by
 refine j12 (k7t PySem.F.plainAttrs_list PySem.F.slot_list_append PySem.F.type_list_append j4a j00 (j28 (es := [e])) hbase hfew hline hs hplain) (h.mono fun x H1 ⟨l, ex, ⟨xs, hl⟩, h2⟩ => ?_)
 subst ex
 refine ⟨.inl ⟨rfl, xs, SqL.of hl⟩, ?_⟩
 exact j0a (h2.mono fun y H2 ⟨ys, hy, hz, q⟩ => j0g ⟨l, ys, y, rfl, rfl, hy, hz, q⟩) hst
end
section
variable {X : Cx} {c : Expr} {body els rest : List Stmt} {D : Ends} {σ : St} {H : Hp} {pos : Pos}
theorem Run.nx {M M' : St → Hp → Prop} {l : List Stmt} (h : Run X l { D with nx := M } σ H) (f : ∀ σ' H', M σ' H' → M' σ' H') : Run X l { D with nx := M' } σ H :=
 ⟨fun pins s I => thn (h.run pins s I) fun fl s' q => by
  cases fl with
  | next =>
   obtain ⟨σ', H', I', m⟩ := q
   exact ⟨σ', H', I', f σ' H' m⟩
  | _ => exact q⟩
theorem j8v (φ ψ : Prop) (M : St → Hp → Prop) (hc : ∀ T : Bool → Hp → Prop, (∀ k : Bool, (k = true → φ) → (k = false → ψ) → T k H) → Et X c σ H T) (ht : φ → Run X body { D with nx := M } σ H) (hu : ψ → Run X els { D with nx := M } σ H)
  (hr : ∀ σ' H', M σ' H' → Run X rest D σ' H') : Run X (.If c body els pos :: rest) D σ H :=
 j5u φ ψ hc (fun p => (ht p).nx hr) (fun p => (hu p).nx hr)
end
def EqD (X : Cx) (H : Hp) (k : Nat) (x y : V) (b : Bool) : Prop := ∀ (pins : List (Addr × Obj)) (σ : St) (s : Shared) (A : Around) (u v : Value), Inv X pins σ H s → A.units + k < cLine → RelV x u → RelV y v → SeqAt.EqAt A s u v b
def RcD (X : Cx) (H : Hp) (k : Nat) (x y : V) (b : Bool) : Prop := ∀ (pins : List (Addr × Obj)) (σ : St) (s : Shared) (A : Around) (u v : Value), Inv X pins σ H s → A.units + k < cLine → RelV x u → RelV y v → SeqAt.RcAt A s u v b
def RnD (X : Cx) (H : Hp) (k : Nat) (x y : V) (b : Bool) : Prop := ∀ (pins : List (Addr × Obj)) (σ : St) (s : Shared) (A : Around) (u v : Value), Inv X pins σ H s → A.units + k < cLine → RelV x u → RelV y v → SeqAt.RcNeAt A s u v (!b)
section
variable {X : Cx} {H : Hp} {k : Nat} {a b : Addr} {xs ys : List V}
theorem j3l {x y : V} (fx : j5e x = true) (fy : j5e y = true) : EqD X H k x y (eqV x y) := fun _ _ _ _ _ _ _ _ rx ry => k6t rx ry fx fy
theorem k4t : EqD X H k (.ref a) (.ref a) true := fun _ _ _ _ u v _ _ rx ry => by
 cases rx
 cases ry
 exact SeqAt.EqAt.same _
theorem q1r (hne : a ≠ b) {c : Bool} (h : RcD X H k (.ref a) (.ref b) c) : EqD X H k (.ref a) (.ref b) c := fun pins σ s A u v I hu rx ry => by
 cases rx
 cases ry
 exact SeqAt.EqAt.of_refs hne (h pins σ s A _ _ I hu rfl rfl)
theorem j3k {us : List Value} (r : Vals xs us) {j : Nat} (h : j < us.length) : ∃ x, xs[j]? = some x ∧ RelV x us[j] := by
 have hl := r.length
 have hj : j < xs.length := by omega
 obtain ⟨u, e, q⟩ := r.get (List.getElem?_eq_getElem hj)
 rw [List.getElem?_eq_getElem h] at e
 cases e
 exact ⟨_, List.getElem?_eq_getElem hj, q⟩
theorem j60 (e : Nat → Bool) (ha : SqL X.K H a xs) (hb : SqL X.K H b ys) (hl : xs.length = ys.length) (he : ∀ j x y, xs[j]? = some x → ys[j]? = some y → EqD X H k x y (e j)) : RcD X H (k + 1) (.ref a) (.ref b) ((List.range xs.length).all e) := fun pins σ s A u v I hu rx ry => by
 cases rx
 cases ry
 obtain ⟨i1, r1, p1, _⟩ := I.list ha
 obtain ⟨i2, r2, p2, _⟩ := I.list hb
 have l1 := r1.length
 have l2 := r2.length
 have q := SeqAt.RcAt.lists (A := A) (e := e) p1.isList p2.isList (by simp; omega) (by omega) fun j h1 h2 => by
  obtain ⟨x, ex, qx⟩ := j3k r1 (j := j) (by simpa using h1)
  obtain ⟨y, ey, qy⟩ := j3k r2 (j := j) (by simpa using h2)
  exact he j x y ex ey pins σ s A.in1 _ _ I (by show A.units + 1 + k < cLine; omega) (by simpa using qx) (by simpa using qy)
 rw [List.size_toArray, ← l1] at q
 exact q
theorem j6v (e : Nat → Bool) (ha : SqL X.K H a xs) (hb : SqL X.K H b ys) (hl : xs.length = ys.length) (he : ∀ j x y, xs[j]? = some x → ys[j]? = some y → EqD X H k x y (e j)) : RnD X H (k + 1) (.ref a) (.ref b) ((List.range xs.length).all e) := fun pins σ s A u v I hu rx ry => by
 cases rx
 cases ry
 obtain ⟨i1, r1, p1, _⟩ := I.list ha
 obtain ⟨i2, r2, p2, _⟩ := I.list hb
 have l1 := r1.length
 have l2 := r2.length
 have q := SeqAt.RcNeAt.lists (A := A) (e := e) p1.isList p2.isList (by simp; omega) (by omega) fun j h1 h2 => by
  obtain ⟨x, ex, qx⟩ := j3k r1 (j := j) (by simpa using h1)
  obtain ⟨y, ey, qy⟩ := j3k r2 (j := j) (by simpa using h2)
  exact he j x y ex ey pins σ s A.in1 _ _ I (by show A.units + 1 + k < cLine; omega) (by simpa using qx) (by simpa using qy)
 rw [List.size_toArray, ← l1] at q
 exact q
theorem k4u (ha : SqL X.K H a xs) (hb : SqL X.K H b ys) (hl : xs.length ≠ ys.length) : RcD X H k (.ref a) (.ref b) false := fun pins σ s A u v I hu rx ry => by
 cases rx
 cases ry
 obtain ⟨i1, r1, p1, _⟩ := I.list ha
 obtain ⟨i2, r2, p2, _⟩ := I.list hb
 have l1 := r1.length
 have l2 := r2.length
 exact SeqAt.RcAt.lists_lengths p1.isList p2.isList (by simp; omega) (by omega)
theorem k0a (ha : SqL X.K H a xs) (hb : SqL X.K H b ys) (hl : xs.length ≠ ys.length) : RnD X H k (.ref a) (.ref b) false := fun pins σ s A u v I hu rx ry => by
 cases rx
 cases ry
 obtain ⟨i1, r1, p1, _⟩ := I.list ha
 obtain ⟨i2, r2, p2, _⟩ := I.list hb
 have l1 := r1.length
 have l2 := r2.length
 exact SeqAt.RcNeAt.lists_lengths p1.isList p2.isList (by simp; omega) (by omega)
theorem k1s (e : Nat → Bool) (ha : SqT X.K H a xs) (hb : SqT X.K H b ys) (hl : xs.length = ys.length) (he : ∀ j x y, xs[j]? = some x → ys[j]? = some y → EqD X H k x y (e j)) : RcD X H (k + 1) (.ref a) (.ref b) ((List.range xs.length).all e) := fun pins σ s A u v I hu rx ry => by
 cases rx
 cases ry
 obtain ⟨i1, r1, p1, _⟩ := I.tuple ha
 obtain ⟨i2, r2, p2, _⟩ := I.tuple hb
 have l1 := r1.length
 have l2 := r2.length
 have q := SeqAt.RcAt.tuples (A := A) (e := e) p1 p2 (by omega) fun j h1 h2 => by
  obtain ⟨x, ex, qx⟩ := j3k r1 (j := j) (by simpa using h1)
  obtain ⟨y, ey, qy⟩ := j3k r2 (j := j) (by simpa using h2)
  exact he j x y ex ey pins σ s A.in1 _ _ I (by show A.units + 1 + k < cLine; omega) (by simpa using qx) (by simpa using qy)
 rw [List.size_toArray, List.size_toArray, ← l1, ← l2, hl, Nat.min_self, ← hl] at q
 simpa using q
theorem j4w (n : Nat) : (List.range n).all (fun _ => true) = true := by simp
theorem k2y (hu : X.A.units + 100 < cLine) : OpR X (compareOp .Eq) (fun x y H Q => ∃ k c, k ≤ 100 ∧ RcD X H k x y c ∧ Q (.bl c) H) := by
 intro pins s σ H x y v u Q I rx ry h
 obtain ⟨k, c, hk, hc, q⟩ := h
 exact hc pins σ s X.A v u I (by omega) rx ry X.prog X.w X.xe _ ⟨.bl c, H, I, rfl, q⟩
theorem j7o (hu : X.A.units + 100 < cLine) : OpR X (compareOp .NotEq) (fun x y H Q => ∃ k c, k ≤ 100 ∧ RnD X H k x y c ∧ Q (.bl (!c)) H) := by
 intro pins s σ H x y v u Q I rx ry h
 obtain ⟨k, c, hk, hc, q⟩ := h
 exact hc pins σ s X.A v u I (by omega) rx ry X.prog X.w X.xe _ ⟨.bl (!c), H, I, rfl, q⟩
end
end L2
namespace L2
open PySem PySem.Spec PyProof.Rows
section
variable {X : Cx} {H : Hp} {k : Nat} {a b : Addr} {xs ys : List V}
theorem k3o (e : Nat → Bool) (ha : SqT X.K H a xs) (hb : SqT X.K H b ys) (hl : xs.length = ys.length) (he : ∀ j x y, xs[j]? = some x → ys[j]? = some y → EqD X H k x y (e j)) : RnD X H (k + 1) (.ref a) (.ref b) ((List.range xs.length).all e) := fun pins σ s A u v I hu rx ry => by
 cases rx
 cases ry
 obtain ⟨i1, r1, p1, _⟩ := I.tuple ha
 obtain ⟨i2, r2, p2, _⟩ := I.tuple hb
 have l1 := r1.length
 have l2 := r2.length
 have q := SeqAt.RcNeAt.tuples (A := A) (e := e) p1 p2 (by omega) fun j h1 h2 => by
  obtain ⟨x, ex, qx⟩ := j3k r1 (j := j) (by simpa using h1)
  obtain ⟨y, ey, qy⟩ := j3k r2 (j := j) (by simpa using h2)
  exact he j x y ex ey pins σ s A.in1 _ _ I (by show A.units + 1 + k < cLine; omega) (by simpa using qx) (by simpa using qy)
 rw [List.size_toArray, List.size_toArray, ← l1, ← l2, hl, Nat.min_self, ← hl] at q
 simpa using q
end
section
variable {X : Cx} {o e f c : Expr} {σ : St} {H : Hp} {Q : VK} {T : Bool → Hp → Prop} {ap cp pos : Pos} {body rest : List Stmt} {D : Ends}
theorem q2d {name : Str} {Ty id : String} {r : V → List V → Hp → VK → Prop} (pa : PlainAttrs Ty) (slot : Slot Ty name id) (hty : typeOf (.builtin id) = pure (.type "method_descriptor")) (hm : MtR X id r)
  (h : Ev X o σ H fun x H1 => tyV X.K Ty x H1 ∧ r x [] H1 Q) (hbase : attributeBase o name X.env (eval o X.env) = eval o X.env := by rfl) (hline : (ap.endLine == cp.line) = true := by rfl) : Ev X (.Call (.Attribute o name ap) [] [] cp) σ H Q :=
 j12 (q0a pa slot hty hm j00 hbase hline) h
theorem k7p {name : Str} {Ty id : String} {r : V → List V → Hp → VK → Prop} (pa : PlainAttrs Ty) (slot : Slot Ty name id) (hty : typeOf (.builtin id) = pure (.type "method_descriptor")) (hm : MtR X id r)
  (h : Ev X o σ H fun x H1 => tyV X.K Ty x H1 ∧ Ev X e σ H1 fun y H2 => r x [y] H2 Q) (hbase : attributeBase o name X.env (eval o X.env) = eval o X.env := by rfl)
  (hfew : ((backTo cp (starEach [e] X.env)).all (fun x => !x.1) && (backToKw cp (keywordEach [] X.env)).all (fun x => x.1.isSome) && decide ([e].length + ([] : List Keyword).length + (if ([] : List Keyword).isEmpty then 0 else 1) < 30)) = true := by rfl)
  (hline : (ap.endLine == cp.line) = true := by rfl) (hs : starEach [e] X.env = (false, eval e X.env) :: starEach [] X.env := by rfl) (hplain : (backTo cp (starEach [] X.env)).any (·.1) = false := by rfl) (hst : isStar e = false := by rfl) : Ev X (.Call (.Attribute o name ap) [e] [] cp) σ H Q :=
 j12 (k7t pa slot hty hm j00 (j28 (es := [e])) hbase hfew hline hs hplain) (h.mono fun x H1 ⟨t, h2⟩ => ⟨t, j0a (h2.mono fun y H2 q => j0g q) hst⟩)
theorem k71 {name : Str} {Ty id : String} {r : V → List V → Hp → VK → Prop} (pa : PlainAttrs Ty) (slot : Slot Ty name id) (hty : typeOf (.builtin id) = pure (.type "method_descriptor")) (hm : MtR X id r)
  (h : Ev X o σ H fun x H1 => tyV X.K Ty x H1 ∧ Ev X e σ H1 fun y H2 => Ev X f σ H2 fun z H3 => r x [y, z] H3 Q) (hbase : attributeBase o name X.env (eval o X.env) = eval o X.env := by rfl)
  (hfew : ((backTo cp (starEach [e, f] X.env)).all (fun x => !x.1) && (backToKw cp (keywordEach [] X.env)).all (fun x => x.1.isSome) && decide ([e, f].length + ([] : List Keyword).length + (if ([] : List Keyword).isEmpty then 0 else 1) < 30)) = true := by rfl)
  (hline : (ap.endLine == cp.line) = true := by rfl) (hs : starEach [e, f] X.env = (false, eval e X.env) :: starEach [f] X.env := by rfl) (hplain : (backTo cp (starEach [f] X.env)).any (·.1) = false := by rfl) (hst : isStar e = false := by rfl) (hsf : isStar f = false := by rfl) : Ev X (.Call (.Attribute o name ap) [e, f] [] cp) σ H Q :=
 j12 (k7t pa slot hty hm j00 (j28 (es := [e, f])) hbase hfew hline hs hplain) (h.mono fun x H1 ⟨t, h2⟩ => ⟨t, j0a (h2.mono fun y H2 h3 => j0a (h3.mono fun z H3 q => j0g q) hsf) hst⟩)
def insertAt (xs : List V) (i : Nat) (y : V) : List V := xs.take i ++ y :: xs.drop i
def k8b : V → List V → Hp → VK → Prop := fun x vs H Q => ∃ l xs i y, x = .ref l ∧ vs = [.int i, y] ∧ H l = some (.lst xs) ∧ 0 ≤ i ∧ i.toNat ≤ xs.length ∧ xs.length < sizeLine ∧ Q .non (upd H l (.lst (insertAt xs i.toNat y)))
theorem k7y {i : Int} (h0 : 0 ≤ i) (h : i ≤ 16777216) : ¬ (!Builtin.List.listFitsIndex i) = true := by
 have e : Builtin.List.listFitsIndex i = true := by
  unfold Builtin.List.listFitsIndex
  rw [Bool.and_eq_true, decide_eq_true_eq, decide_eq_true_eq]
  omega
 rw [e]
 exact Bool.false_ne_true
theorem j73 : MtM X "list.insert" k8b := by
 intro pins s σ H x vs v us Q I rx rv h
 obtain ⟨l, xs, i, y, rfl, rfl, hH, h0, hi, hz, q⟩ := h
 cases rx
 obtain ⟨u, w', rfl, ru, rw'⟩ := rv.two
 obtain ⟨tk, rfl⟩ := ru
 obtain ⟨z, its, n, r, hl, e⟩ := I.lstM hH
 have hs : sizeLine = 16777216 := sizeLine_eq
 have z2 : its.toArray.size ≤ sizeLine := by rw [List.size_toArray, ← hl]; exact z
 have mm := AutoSeq1.list_insert_list_int_val_1 l its.toArray n i tk w' (k7y h0 (by omega)) z2
 refine call_meets F.slot_list_insert ⟨_, e, rfl⟩ F.entry_list_insert (F.args_list_insert_3 _ _ _) mm ⟨e, ?_⟩
 have ef : (fun xs : Array Value => have k := if i < 0 then (i + (xs.size : Int)).toNat else min i.toNat xs.size; (xs.extract 0 k).push w' ++ xs.extract k) its.toArray = (its.take i.toNat ++ w' :: its.drop i.toNat).toArray := by
  have hn : ¬ i < 0 := by omega
  have hm : min i.toNat its.length = i.toNat := by omega
  simp only [hn, if_false, List.size_toArray, hm]
  apply Array.ext'
  simp
  exact List.take_of_length_le (by simp)
 refine ⟨.non, _, I.lset (its' := its.take i.toNat ++ w' :: its.drop i.toNat) hH e ef ((r.take i.toNat).append (.cons rw' (r.drop i.toNat))) ?_, rfl, q⟩
 rw [List.length_append, List.length_cons, List.length_take, List.length_drop]
 omega
def k6z : V → List V → Hp → VK → Prop := fun x vs H Q => ∃ a kvs k y, x = .ref a ∧ vs = [kV k, y] ∧ H a = some (.dK kvs) ∧ kvs.length < sizeLine ∧
 ((∃ v, valV kvs k = some v ∧ Q v H) ∨ (valV kvs k = none ∧ Q y (upd H a (.dK (putK kvs k y)))))
theorem k1k : MtM X "dict.setdefault" k6z := by
 intro pins s σ H x vs v us Q I rx rv h
 obtain ⟨a, kvs, k, y, rfl, rfl, hH, hz, q⟩ := h
 cases rx
 obtain ⟨u, w', rfl, ru, rw'⟩ := rv.two
 obtain ⟨z, hd, rs, rel, dd⟩ := k1i I.hok hH
 have hl := rel.length
 refine call_meetsIn F.slot_dict_setdefault dd.typeIs F.entry_dict_setdefault (F.args_dict_setdefault_3 _ _ _) (kt_meets_setdefault (j03 X.prog X.w) a (j7v ru) hd w') ⟨rs, dd, by omega, fun v hv => ?_, fun hn h' dd' hs => ?_⟩
 ·have rv2 := rel.val k
  rw [hv] at rv2
  rcases q with ⟨v', e', q⟩ | ⟨e', _⟩
  ·rw [e'] at rv2
   exact ⟨v', H, I.tok _, rv2, q⟩
  ·rw [e'] at rv2
   exact rv2.elim
 ·have rv2 := rel.val k
  rw [hn] at rv2
  rcases q with ⟨v', e', _⟩ | ⟨e', q⟩
  ·rw [e'] at rv2
   exact rv2.elim
  ·have he : ∃ q, h'.get? a = some q := let ⟨q, _, _, hq, _⟩ := dd'; ⟨q, hq⟩
   have hl2 : (putK kvs k y).length ≤ sizeLine := by have := j0y kvs k y; omega
   exact ⟨y, _, j3a I (by rw [hH]; exact True.intro) hs he (k3u hl2 hd (rel.put k rw') dd'), rw', q⟩
theorem j5n : j3z X (.type "int") (fun xs H Q => ∃ b : Bool, xs = [.bl b] ∧ Q (.int (if b then 1 else 0)) H) := by
 intro pins s σ H xs us Q I r h
 obtain ⟨b, rfl, q⟩ := h
 obtain ⟨u, rfl, ru⟩ := vals1 r
 cases (show u = Value.bool b from ru)
 exact call_int_bool ⟨.int (if b then 1 else 0), H, I.tok _, ⟨_, rfl⟩, q⟩
theorem k3s {els : List Stmt} (Φ : Bool → Hp → Prop) (M : St → Hp → Prop) (hc : Et X c σ H Φ) (ht : ∀ H1, Φ true H1 → Run X body { D with nx := M } σ H1) (hu : ∀ H1, Φ false H1 → Run X els { D with nx := M } σ H1)
  (hr : ∀ σ' H', M σ' H' → Run X rest D σ' H') : Run X (.If c body els pos :: rest) D σ H :=
 j4b (hc.mono fun k H1 p => by
  cases k with
  | true => rw [if_pos rfl]; exact (ht H1 p).nx hr
  | false => rw [if_neg Bool.false_ne_true]; exact (hu H1 p).nx hr)
theorem j3d (W : Nat → St → Hp → Prop) {m0 : Nat} (h0 : W m0 σ H)
  (turn : ∀ m σ H, W m σ H → Et X c σ H fun b H1 => if b = true then Run X body { D with nx := fun σ' H' => ∃ m', m' < m ∧ W m' σ' H', ct := fun σ' H' => ∃ m', m' < m ∧ W m' σ' H', bk := fun σ' H' => Run X rest D σ' H' } σ H1 else Run X rest D σ H1)
  (hp : PassesOwn (model X.prog X.w) X.A X.env X.xe := by exact PassesOwn.never) : Run X (.While c body [] pos :: rest) D σ H := by
 refine j15 (k4m hp j6h j4h) ⟨W, ⟨m0, h0⟩, fun m σ1 H1 w1 => (turn m σ1 H1 w1).mono fun b H2 q => ?_⟩
 cases b with
 | true =>
  rw [if_pos rfl] at q
  exact ⟨fun σ' H' => ∃ m', m' < m ∧ W m' σ' H', fun _ _ h => h, q⟩
 | false =>
  rw [if_neg Bool.false_ne_true] at q
  exact q
theorem j6l (h : ∀ p, H p = none → Q (.ref p) (upd H p (.dK []))) : Ev X (.Dict [] [] pos) σ H Q := j12 k4n h
theorem k4d (h : ∀ p, H p = none → Q (.ref p) (upd H p (.dT []))) : Ev X (.Dict [] [] pos) σ H Q := j12 k5r h
theorem j07 (hu : X.A.units + 1 < cLine) (h : Ev X o σ H fun x H1 => Ev X e σ H1 fun y H2 => ∃ a v, x = .ref a ∧ DGet H2 a y (some v) ∧ Q v H2) (hs : NoSl e := by intro _ _; rfl) : Ev X (.Subscript o e pos) σ H Q := j12 (k7k hu j00 j00 hs) h
theorem j9k (hu : X.A.units + 1 < cLine) (h : Ev X e σ H fun y H1 => Ev X o σ H1 fun x H2 => ∃ a r, x = .ref a ∧ DGet H2 a y r ∧ T r.isSome H2) (hm : behindInMarks .In o = false := by with_unfolding_all rfl) : Et X (.Compare e [.In] [o] pos) σ H T :=
 k0r (k6r (q0y hu j00 j00) hm) (h.mono fun y H1 h2 => h2.mono fun x H2 ⟨a, r, h3, h4, h5⟩ => ⟨a, r, h3, h4, _, rfl, h5⟩)
theorem j5d (hu : X.A.units + 1 < cLine) (h : Ev X e σ H fun y H1 => Ev X o σ H1 fun x H2 => ∃ a r, x = .ref a ∧ DGet H2 a y r ∧ T (!r.isSome) H2) (hm : behindInMarks .NotIn o = false := by with_unfolding_all rfl) : Et X (.Compare e [.NotIn] [o] pos) σ H T :=
 k0r (k6r (k17 hu j00 j00) hm) (h.mono fun y H1 h2 => h2.mono fun x H2 ⟨a, r, h3, h4, h5⟩ => ⟨a, r, h3, h4, _, rfl, h5⟩)
theorem j3n {p2 : Pos} (hu : X.A.units + 1 < cLine) (h : Ev X f σ H fun v H1 => Ev X o σ H1 fun x H2 => Ev X e σ H2 fun y H3 => ∃ a H4, x = .ref a ∧ DPut H3 a y v H4 ∧ Run X rest D σ H4) (hs : swapsWith f (some (.Subscript o e p2)) pos.line X.env = pure false := by rfl) :
  Run X (.Assign [.Subscript o e p2] f pos :: rest) D σ H := j15 (k8h hu j00 j00 j00 hs) h
end
end L2
namespace Sort2
open PySem PySem.Spec PyProof.Rows
def lexLt (a b : Int × Int) : Bool := if a.1 = b.1 then decide (a.2 < b.2) else decide (a.1 < b.1)
theorem j8b (b : Bool) (x y : Value) : keyLt' (tuples' b) x y = (do
  let xs ← Builtin.List.listItems x
  let ys ← Builtin.List.listItems y
  for ((p, q), i) in (xs.toList.zip ys.toList).zipIdx do
   if !(← eqBool p q) then return ← oneLt' (b && i == 0) p q
  return xs.size < ys.size) := rfl
section
variable {prog : Program} {w : World} {A : Around} {E : Value → Shared → Prop} {s : Shared}
def Pr (h : Heap) (a : Addr) (p : Int × Int) : Prop := ∃ o n t u, h.get? a = some o ∧ o.cls = .type "tuple" ∧ o.data = .seq #[.int p.1 t, .int p.2 u] n
theorem j9y {a b : Int} {t u : Tok} {Q : Bool → Shared → Prop} (h : Q (decide (a = b)) s) : wpAny (model prog w) A (eqBool (.int a t) (.int b u)) Q E s := by
 refine SeqAt.EqAt.int_int a t b u prog w E Q ?_
 have e : (a == b) = decide (a = b) := rfl
 rw [e]
 exact h
theorem q1d {a b : Int} {t u : Tok} {Q : Bool → Shared → Prop} (h : Q (decide (a < b)) s) : wpAny (model prog w) A (oneLt' false (.int a t) (.int b u)) Q E s := by
 rw [oneLt'_eq]
 simp only [Bool.false_eq_true, if_false]
 refine wpAny_bind ?_
 show wpAny _ _ (compareOp .Lt (.int a t) (.int b u)) _ _ _
 exact lt_int (wpAny_truthy_bool h)
theorem k5k {x y : Addr} {p q : Int × Int} {Q : Bool → Shared → Prop} (hx : Pr s.heap x p) (hy : Pr s.heap y q) (h : Q (lexLt p q) s) : wpAny (model prog w) A (keyLt' (tuples' true) (.ref x) (.ref y)) Q E s := by
 obtain ⟨ox, nx, tx, ux, hox, cx, dx⟩ := hx
 obtain ⟨oy, ny, ty, uy, hoy, cy, dy⟩ := hy
 rw [j8b]
 refine wpAny_bind (listItems_at hox dx ?_)
 refine wpAny_bind (listItems_at hoy dy ?_)
 show wpAny _ _ (forIn [((Value.int p.1 tx, Value.int q.1 ty), 0), ((Value.int p.2 ux, Value.int q.2 uy), 1)] _ _ >>= _) _ _ _
 rw [List.forIn_cons]
 refine wpAny_bind (wpAny_bind ?_)
 dsimp only
 refine wpAny_bind (j9y ?_)
 by_cases c : p.1 = q.1
 ·rw [decide_eq_true c]
  simp only [Bool.not_true, Bool.false_eq_true, if_false]
  refine wpAny_pure ?_
  dsimp only
  rw [List.forIn_cons]
  refine wpAny_bind ?_
  dsimp only
  refine wpAny_bind (j9y ?_)
  by_cases c2 : p.2 = q.2
  ·rw [decide_eq_true c2]
   simp only [Bool.not_true, Bool.false_eq_true, if_false]
   refine wpAny_pure ?_
   dsimp only
   rw [List.forIn_nil]
   refine wpAny_pure (wpAny_pure ?_)
   have e : lexLt p q = false := by unfold lexLt; rw [if_pos c, c2]; simp
   rw [e] at h
   simpa using h
  ·rw [decide_eq_false c2]
   simp only [Bool.not_false, if_true]
   refine wpAny_bind (q1d (wpAny_pure ?_))
   dsimp only
   refine wpAny_pure (wpAny_pure ?_)
   have e : lexLt p q = decide (p.2 < q.2) := by unfold lexLt; rw [if_pos c]
   rw [e] at h
   exact h
 ·rw [decide_eq_false c]
  simp only [Bool.not_false, if_true]
  refine wpAny_bind (oneLt_int (wpAny_pure ?_))
  dsimp only
  refine wpAny_pure (wpAny_pure ?_)
  have e : lexLt p q = decide (p.1 < q.1) := by unfold lexLt; rw [if_neg c]
  rw [e] at h
  exact h
theorem sz2 {x y : Value} : (#[x, y] : Array Value).size ≤ sizeLine + 1 := by
 rw [sizeLine_eq]
 show 2 ≤ _
 decide
theorem k4f (v : Value) : firstOfTuple' v = (do
  if (← typeOf v) != .type "tuple" then return none
  return (← Builtin.List.listItems v)[0]?) := rfl
theorem k0b {x : Addr} {p : Int × Int} {Q : Option Value → Shared → Prop} (hx : Pr s.heap x p) (h : ∀ t, Q (some (.int p.1 t)) s) : wpAny (model prog w) A (firstOfTuple' (.ref x)) Q E s := by
 obtain ⟨ox, nx, tx, ux, hox, cx, dx⟩ := hx
 rw [k4f]
 refine wpAny_bind (wpAny_typeOf (T := "tuple") ⟨ox, hox, cx⟩ ?_)
 rw [show (Value.type "tuple" != Value.type "tuple") = false by decide]
 simp only [Bool.false_eq_true, if_false]
 refine wpAny_bind (listItems_at hox dx ?_)
 exact wpAny_pure (h tx)
theorem k8z {x y : Addr} {p q : Int × Int} {Q : SortKind → Shared → Prop} (hx : Pr s.heap x p) (hy : Pr s.heap y q) (h : Q (tuples' true) s) : wpAny (model prog w) A (keyKind' #[.ref x, .ref y]) Q E s := by
 rw [keyKind'_eq, show (#[.ref x, .ref y] : Array Value) = [.ref x, .ref y].toArray from rfl, List.mapM_toArray]
 refine wpAny_bind (wpAny_map ?_)
 rw [List.mapM_cons]
 refine wpAny_bind (k0b hx fun t => ?_)
 rw [List.mapM_cons]
 refine wpAny_bind (wpAny_bind (k0b hy fun u => ?_))
 rw [List.mapM_nil]
 refine wpAny_bind (wpAny_pure (wpAny_pure (wpAny_pure ?_)))
 rw [if_pos (by simp)]
 refine wpAny_bind (wpAny_rule ?_)
 rw [oneTypeOnly'_eq]
 show wpAny _ _ ((Array.mapM typeOf [Value.int p.1 t, Value.int q.1 u].toArray >>= _) >>= _) _ _ _
 rw [List.mapM_toArray]
 have e1 : [Value.int p.1 t, Value.int q.1 u].mapM typeOf = (pure [Value.type "int", Value.type "int"] : Sem _) := rfl
 rw [e1]
 refine wpAny_pure ?_
 have e2 : (if ((#[Value.type "int", Value.type "int"] : Array Value).all fun x => x == (#[Value.type "int", Value.type "int"] : Array Value)[0]) = true then some (#[Value.type "int", Value.type "int"] : Array Value)[0] else none) = some (Value.type "int") := by
  rw [if_pos]
  ·rfl
  ·simp
 show Q (tuples' (Option.any (fun x => x != Value.type "tuple") _)) s
 rw [e2]
 exact h
theorem wp_at {st : SortSt} {x y : Addr} {p q : Int × Int} {i j : Nat} {Q : Option Bool → SortSt → Prop} (hk : kindOf st = tuples' true) (hi : (arrOf st)[i]? = some (.ref x, .ref x)) (hj : (arrOf st)[j]? = some (.ref y, .ref y)) (hx : Pr s.heap x p) (hy : Pr s.heap y q) (h : Q (some (lexLt p q)) st) :
  wpS (model prog w) A E s (ltAt' i j) Q st := by
 rw [ltAt'_eq]
 refine wpS_bind (wpS_get ?_)
 show wpS _ _ _ _ (elem' (arrOf st) i >>= fun a => elem' (arrOf st) j >>= fun b => lt' a b) Q st
 rw [elem'_eq, elem'_eq, hi, hj]
 refine wpS_bind (wpS_pure (wpS_bind (wpS_pure ?_)))
 rw [lt'_eq]
 refine wpS_bind (wpS_get ?_)
 rw [hk]
 refine wpS_bind (wpS_lift (wpAny_attempt (k5k hx hy ⟨rfl, ?_⟩)))
 exact wpS_pure h
def j2v (x y : Addr) (p q : Int × Int) : Array Keyed := if lexLt q p then #[(.ref y, .ref y), (.ref x, .ref x)] else #[(.ref x, .ref x), (.ref y, .ref y)]
theorem k5g {x y : Addr} {p q : Int × Int} {Q : Option Nat → SortSt → Prop} (hx : Pr s.heap x p) (hy : Pr s.heap y q)
  (h : Q (some 2) (SortSt.mk' (tuples' true) (j2v x y p q) #[] 7 none)) : wpS (model prog w) A E s (countRun' 0 2) Q (SortSt.mk' (tuples' true) #[(.ref x, .ref x), (.ref y, .ref y)] #[] 7 none) := by
 rw [countRun0_eq]
 refine wpS_bind ?_
 unfold ascLoop
 refine wpS_mono (wpS_forRange (I := fun i c st => st = SortSt.mk' (tuples' true) #[(.ref x, .ref x), (.ref y, .ref y)] #[] 7 none ∧ c = (none, i) ∧ (i = 2 → lexLt q p = false))
  (Q := fun c st => st = SortSt.mk' (tuples' true) #[(.ref x, .ref x), (.ref y, .ref y)] #[] 7 none ∧ ((c = (none, 1) ∧ lexLt q p = true) ∨ (c = (none, 2) ∧ lexLt q p = false))) ?_ ?_ ⟨rfl, rfl, fun h => by cases h⟩) ?_
 ·rintro i c st h1 h2 ⟨rfl, rfl, hI⟩
  have e : i = 1 := by omega
  subst e
  refine wpS_bind (wp_at rfl rfl rfl hy hx ?_)
  dsimp only
  cases hb : lexLt q p with
  | true =>
   rw [if_pos rfl]
   exact wpS_pure ⟨rfl, .inl ⟨rfl, rfl⟩⟩
  | false =>
   rw [if_neg Bool.false_ne_true]
   exact wpS_pure ⟨rfl, rfl, fun _ => rfl⟩
 ·rintro c st ⟨rfl, rfl, hI⟩
  exact ⟨rfl, .inr ⟨rfl, hI rfl⟩⟩
 ·rintro c st ⟨rfl, ⟨rfl, hb⟩ | ⟨rfl, hb⟩⟩
  ·dsimp only
   rw [if_neg (by decide), if_neg (by decide)]
   unfold descPart
   refine wpS_bind (wpS_lift (wpAny_rule ⟨rfl, ?_⟩))
   unfold descLoop
   refine wpS_bind (wpS_mono (wpS_forRange (I := fun i c st => c = (none, 2, 0) ∧ st = SortSt.mk' (tuples' true) #[(.ref x, .ref x), (.ref y, .ref y)] #[] 7 none) (Q := fun c st => c = (none, 2, 0) ∧ st = SortSt.mk' (tuples' true) #[(.ref x, .ref x), (.ref y, .ref y)] #[] 7 none) (fun i c st h1 h2 _ => by omega) (fun c st h => h) ⟨rfl, rfl⟩) ?_)
   rintro c st ⟨rfl, rfl⟩
   dsimp only
   rw [if_neg (by decide)]
   unfold tail3
   refine wpS_bind (wpS_reverse ?_)
   unfold ascLoop
   refine wpS_bind (wpS_mono (wpS_forRange (I := fun i c st => c = (none, 2) ∧ st = SortSt.mk' (tuples' true) #[(.ref y, .ref y), (.ref x, .ref x)] #[] 7 none) (Q := fun c st => c = (none, 2) ∧ st = SortSt.mk' (tuples' true) #[(.ref y, .ref y), (.ref x, .ref x)] #[] 7 none) (fun i c st h1 h2 _ => by omega) (fun c st h => h) ⟨rfl, rfl⟩) ?_)
   rintro c st ⟨rfl, rfl⟩
   dsimp only
   refine wpS_pure ?_
   unfold j2v at h
   rw [if_pos hb] at h
   exact h
  ·dsimp only
   rw [if_pos (by decide)]
   refine wpS_pure ?_
   unfold j2v at h
   rw [if_neg (by rw [hb]; exact Bool.false_ne_true)] at h
   exact h
theorem k70 {x y : Addr} {p q : Int × Int} {Q : Unit → SortSt → Prop} (hx : Pr s.heap x p) (hy : Pr s.heap y q) (h : ∀ st, arrOf st = j2v x y p q → failedOf st = none → Q () st) :
  wpS (model prog w) A E s sortRuns' Q (SortSt.mk' (tuples' true) #[(.ref x, .ref x), (.ref y, .ref y)] #[] 7 none) := by
 rw [sortRuns'_eq]
 refine wpS_bind (wpS_get ?_)
 dsimp only
 have hmr : minRun' 2 2 0 = 2 := by rw [minRun'_succ, if_pos (by decide)]
 show wpS _ _ _ _ ((forIn [0:2] _ _) >>= _) _ _
 have sz : (#[(Value.ref x, Value.ref x), (Value.ref y, Value.ref y)] : Array Keyed).size = 2 := rfl
 refine wpS_bind (wpS_mono (wpS_forRange (I := fun i c st => (i = 0 ∧ c = (none, 0) ∧ st = SortSt.mk' (tuples' true) #[(.ref x, .ref x), (.ref y, .ref y)] #[] 7 none) ∨ (1 ≤ i ∧ c = (none, 2) ∧ st = SortSt.mk' (tuples' true) (j2v x y p q) #[(0, 2, 0)] 7 none))
  (Q := fun c st => c = (none, 2) ∧ st = SortSt.mk' (tuples' true) (j2v x y p q) #[(0, 2, 0)] 7 none) ?_ ?_ (.inl ⟨rfl, rfl, rfl⟩)) ?_)
 ·rintro i c st h1 h2 (⟨rfl, rfl, rfl⟩ | ⟨hi, rfl, rfl⟩)
  ·dsimp only
   rw [if_neg (by show ¬ (0 ≥ 2); decide)]
   refine wpS_bind ?_
   show wpS _ _ _ _ (countRun' 0 2) _ _
   refine k5g hx hy ?_
   dsimp only
   rw [if_neg (by show ¬ (2 < minRun' 2 2 0); rw [hmr]; decide)]
   refine wpS_bind (wpS_get ?_)
   show wpS _ _ _ _ (modify _ >>= _) _ _
   exact wpS_bind (wpS_modify (wpS_pure (.inr ⟨Nat.le_refl _, rfl, rfl⟩)))
  ·dsimp only
   rw [if_pos (by show 2 ≥ 2; decide)]
   exact wpS_pure ⟨rfl, rfl⟩
 ·rintro c st (⟨h1, _, _⟩ | ⟨_, hc, hs⟩)
  ·exact absurd h1 (by decide)
  ·exact ⟨hc, hs⟩
 ·rintro c st ⟨rfl, rfl⟩
  dsimp only
  refine wpS_bind (wpS_mono (wpS_forRange (I := fun _ c st => st = SortSt.mk' (tuples' true) (j2v x y p q) #[(0, 2, 0)] 7 none ∧ c = (none, ())) (Q := fun c st => st = SortSt.mk' (tuples' true) (j2v x y p q) #[(0, 2, 0)] 7 none ∧ c = (none, ())) ?_ (fun _ _ hh => hh) ⟨rfl, rfl⟩) ?_)
  ·rintro i c st _ _ ⟨rfl, rfl⟩
   refine wpS_bind (wpS_get ?_)
   rw [if_pos (by show 1 ≤ 1; decide)]
   exact wpS_pure ⟨rfl, rfl⟩
  ·rintro c st ⟨rfl, rfl⟩
   exact wpS_pure (h _ rfl rfl)
theorem k5o {a x y : Addr} {p q : Int × Int} {n : Nat} {P : Fin → Shared → Prop} (ho : s.heap.get? a = some (seqObj "list" #[.ref x, .ref y] n)) (hax : a ≠ x) (hay : a ≠ y) (hx : Pr s.heap x p) (hy : Pr s.heap y q)
  (h : P (.done (.ret .none)) { s with heap := sortedHeap s.heap a [.ref x, .ref y] (if lexLt p q then #[.ref y, .ref x] else #[.ref x, .ref y]) }) :
  wpAny (model prog w) A (Builtin.«list.sort» ⟨[.ref a], [(Str.ofString "reverse", .bool true)]⟩) P E s := by
 rw [list_sort_rev]
 have ha : a < s.heap.objs.size := Heap.lt_size ho
 refine wpAny_bind (listItems_at ho rfl ?_)
 refine wpAny_bind (listUpdate_at ho rfl ?_)
 obtain ⟨e1, ho1⟩ : ∃ e1, (s.heap.update a (Obj.mapSeq fun _ => #[])).get? a = some (seqObj "list" #[] e1) := ⟨_, get?_update_seq ho (fun _ => #[])⟩
 refine wpAny_bind (seqEpoch_at ho1 rfl ?_)
 refine wpAny_bind (wpAny_newTuple ?_)
 refine wpAny_bind (wpAny_newList ?_)
 refine wpAny_holding ?_
 have ho6 : (((s.heap.update a (Obj.mapSeq fun _ => #[])).push (seqObj "tuple" [Value.ref x, Value.ref y].toArray 0)).push (seqObj "list" #[] 0)).get? a = some (seqObj "list" #[] e1) :=
  Heap.get?_push_of_some _ (Heap.get?_push_of_some _ ho1)
 show wpAny (model prog w) A _ P E { s with heap := ((s.heap.update a (Obj.mapSeq fun _ => #[])).push (seqObj "tuple" [Value.ref x, Value.ref y].toArray 0)).push (seqObj "list" #[] 0) }
 have keep : ∀ z r, a ≠ z → Pr s.heap z r → Pr (((s.heap.update a (Obj.mapSeq fun _ => #[])).push (seqObj "tuple" [Value.ref x, Value.ref y].toArray 0)).push (seqObj "list" #[] 0)) z r := by
  rintro z r hz ⟨o, m, t, u, q1, q2⟩
  exact ⟨o, m, t, u, Heap.get?_push_of_some _ (Heap.get?_push_of_some _ ((Heap.get?_update_other _ _ hz).trans q1)), q2⟩
 have kx := keep x p hax hx
 have ky := keep y q hay hy
 dsimp only
 rw [if_pos rfl]
 refine wpAny_bind (wpAny_rule ?_)
 rw [if_neg (by show ¬ (2 < 2); decide)]
 refine wpAny_bind (k8z kx ky ?_)
 rw [if_neg (by show ¬ (2 < 2); decide)]
 have e2 : (if true = true then ((#[Value.ref x, Value.ref y] : Array Value).zip #[Value.ref x, Value.ref y]).reverse else (#[Value.ref x, Value.ref y] : Array Value).zip #[Value.ref x, Value.ref y]) = #[(Value.ref y, Value.ref y), (Value.ref x, Value.ref x)] := by
  rw [if_pos rfl]
  simp
 rw [e2]
 refine wpAny_bind (wpAny_mono (k70 (Q := fun _ st => arrOf st = j2v y x q p ∧ failedOf st = none) ky kx fun st h1 h2 => ⟨h1, h2⟩) ?_ fun _ _ e => e)
 rintro ⟨⟨⟩, st'⟩ s' ⟨rfl, hs, hf⟩
 dsimp only
 have e3 : (if true = true then ((arrOf st').map (·.2)).reverse else (arrOf st').map (·.2)) = (if lexLt p q then #[.ref y, .ref x] else #[.ref x, .ref y]) := by
  rw [if_pos rfl, hs]
  unfold j2v
  split <;> simp
 refine wpAny_bind (seqEpoch_at ho6 rfl ?_)
 refine wpAny_bind (listUpdate_at ho6 rfl ?_ (hsz2 := by rw [e3]; split <;> exact sz2))
 rw [hf]
 simp only [bne_self_eq_false, Bool.false_eq_true, if_false]
 refine wpAny_pure ?_
 have e4 : (fun _ : Array Value => if True then ((arrOf st').map (·.2)).reverse else (arrOf st').map (·.2)) = fun _ => (if lexLt p q then #[.ref y, .ref x] else #[.ref x, .ref y]) := by
  funext _
  rw [if_pos trivial]
  rw [if_pos rfl] at e3
  exact e3
 rw [e4]
 exact h
theorem j89 {l x y : Addr} {p q : Int × Int} {Q : Value → Shared → Prop} (hl : s.heap.IsList l #[.ref x, .ref y]) (hx : Pr s.heap x p) (hy : Pr s.heap y q)
  (h : ∀ (h' : Heap) (e : Nat), (∀ b u, s.heap.get? b = some u → h'.get? b = some u) → h'.get? (s.heap.objs.size + 1) = some (seqObj "list" (if lexLt p q then #[.ref y, .ref x] else #[.ref x, .ref y]) e) → Q (.ref (s.heap.objs.size + 1)) { s with heap := h' }) :
  wpAny (model prog w) A (call (.builtin "sorted") [.ref l] [(Str.ofString "reverse", .bool true)]) Q E s := by
 refine call_function_entry_kw kind_sorted plain_sorted entry_sorted (args_sorted_rev _ _) ?_
 unfold Builtin.«sorted»
 refine wpAny_bind (m := checkCount "sorted" 1 1 _) (wpAny_pure ?_)
 refine wpAny_bind (collect_list (vs := [.ref x, .ref y]) hl ?_)
 refine wpAny_bind (wpAny_newList ?_)
 have hsz : ((s.heap.push (seqObj "list" #[] 0)).update s.heap.objs.size (Obj.mapSeq (· ++ [Value.ref x, Value.ref y].toArray))).objs.size = s.heap.objs.size + 1 := by
  rw [Heap.size_update, size_push']
 have hoL : (((s.heap.push (seqObj "list" #[] 0)).update s.heap.objs.size (Obj.mapSeq (· ++ [Value.ref x, Value.ref y].toArray))).push (seqObj "list" [Value.ref x, Value.ref y].toArray 0)).get? (s.heap.objs.size + 1) = some (seqObj "list" [Value.ref x, Value.ref y].toArray 0) := by
  rw [← hsz]; exact Heap.get?_push_size _ rfl
 have lx : x < s.heap.objs.size := let ⟨_, _, _, _, e, _⟩ := hx; Heap.lt_size e
 have ly : y < s.heap.objs.size := let ⟨_, _, _, _, e, _⟩ := hy; Heap.lt_size e
 have keep : ∀ z r, Pr s.heap z r → Pr (((s.heap.push (seqObj "list" #[] 0)).update s.heap.objs.size (Obj.mapSeq (· ++ [Value.ref x, Value.ref y].toArray))).push (seqObj "list" [Value.ref x, Value.ref y].toArray 0)) z r := by
  rintro z r ⟨o, m, t, u, q1, q2⟩
  have hz := Heap.lt_size q1
  exact ⟨o, m, t, u, Heap.get?_push_of_some _ ((Heap.get?_update_other _ _ (Nat.ne_of_gt hz)).trans (Heap.get?_push_of_some _ q1)), q2⟩
 show wpAny _ _ _ _ _ { s with heap := ((s.heap.push (seqObj "list" #[] 0)).update s.heap.objs.size (Obj.mapSeq (· ++ [Value.ref x, Value.ref y].toArray))).push (seqObj "list" [Value.ref x, Value.ref y].toArray 0) }
 rw [hsz]
 refine wpAny_bind (wpAny_holding (wpAny_call_entry_kw slot_list_sort ⟨_, hoL, rfl⟩ entry_list_sort (k5o hoL (Nat.ne_of_gt (Nat.lt_succ_of_lt lx)) (Nat.ne_of_gt (Nat.lt_succ_of_lt ly)) (keep x p hx) (keep y q hy) ⟨_, rfl, ?_⟩) (args_list_sort_rev _ _)))
 obtain ⟨e, he⟩ := sortedAll_at s.heap [Value.ref x, Value.ref y] (if lexLt p q then #[.ref y, .ref x] else #[.ref x, .ref y])
 exact wpAny_pure ⟨_, rfl, h _ e (fun b u hb => sortedAll_old hb) he⟩
end
end Sort2
namespace L2
open PySem PySem.Spec PyProof.Rows Sort2
section
variable {X : Cx} {e : Expr} {σ : St} {H : Hp} {Q : VK} {pos p kp cp : Pos} {j : Nat}
theorem q00 {pins : List (Addr × Obj)} {s : Shared} {a : Addr} {i j : Int} (I : Inv X pins σ H s) (h : H a = some (.tup [.int i, .int j])) : Pr s.heap a (i, j) := by
 obtain ⟨its, r, pl, _⟩ := I.tuple (SqT.of h)
 obtain ⟨u, v, rfl, ⟨t, rfl⟩, ⟨t', rfl⟩⟩ := vals2 r
 obtain ⟨o, ho, hc, n, hd⟩ := pl
 exact ⟨o, n, t, t', ho, hc, hd⟩
theorem k0n (hm : X.mg "sorted" = none) (h : Ev X e σ H fun v H1 => ∃ l x y a b c d, v = .ref l ∧ H1 l = some (.lst [.ref x, .ref y]) ∧ H1 x = some (.tup [.int a, .int b]) ∧ H1 y = some (.tup [.int c, .int d]) ∧
   ∀ r, H1 r = none → Q (.ref r) (upd H1 r (.lst (if lexLt (a, b) (c, d) then [.ref y, .ref x] else [.ref x, .ref y])))) (hg : Gl X "sorted" := by rfl)
  (he : backTo pos (starEach [e] X.env) = (false, eval e X.env) :: backTo pos (starEach [] X.env) := by rfl) (hplain : (backTo pos (starEach [e] X.env)).any (·.1) = false := by rfl) (hst : isStar e = false := by rfl) :
  Ev X (.Call (.Name "sorted" p) [e] [⟨some "reverse", .Constant (.bool true) j cp, kp⟩] pos) σ H Q := by
 refine ⟨fun pins s I => ?_⟩
 refine wpAny_Call_Name_kw (j4p I hg hm PyProof.Rows.boot_sorted ?_)
 have hE : Ea X [e] σ H fun vs H1 => ∃ l x y a b c d, vs = [.ref l] ∧ H1 l = some (.lst [.ref x, .ref y]) ∧ H1 x = some (.tup [.int a, .int b]) ∧ H1 y = some (.tup [.int c, .int d]) ∧
   ∀ r, H1 r = none → Q (.ref r) (upd H1 r (.lst (if lexLt (a, b) (c, d) then [.ref y, .ref x] else [.ref x, .ref y]))) :=
  j0a (h.mono fun v H1 ⟨l, x, y, a, b, c, d, e1, r1⟩ => j0g ⟨l, x, y, a, b, c, d, by rw [e1], r1⟩) hst
 refine callWith_kw (thn (hE.run pos pins s I) fun us s1 ⟨vs, H1, I1, r1, l, x, y, a, b, c, d, ev, hl, hx, hy, q⟩ => ?_) he hplain
 subst ev
 obtain ⟨u, rfl, ru⟩ := vals1 r1
 cases (show u = Value.ref l from ru)
 refine kws_cons (wpAny_pure (kws_nil ?_))
 obtain ⟨its, r2, pl, _⟩ := I1.list (SqL.of hl)
 obtain ⟨u, v, rfl, ru, rv⟩ := vals2 r2
 cases (show u = Value.ref x from ru)
 cases (show v = Value.ref y from rv)
 refine j89 pl.isList (q00 I1 hx) (q00 I1 hy) fun h' e kp he => ?_
 refine ⟨.ref _, _, I1.laid' (s' := { s1 with heap := h' }) kp rfl rfl (Nat.le_succ _) (show ObjOk X.prog X.w _ h' _ (.lst (if lexLt (a, b) (c, d) then [.ref y, .ref x] else [.ref x, .ref y])) from ?_), rfl, q _ (I1.hok.fresh (Nat.le_succ _))⟩
 split at he
 ·rename_i hb
  rw [if_pos hb]
  exact ⟨by show 2 ≤ sizeLine; rw [sizeLine_eq]; decide, [.ref y, .ref x], e, .cons rfl (.cons rfl .nil), he⟩
 ·rename_i hb
  rw [if_neg hb]
  exact ⟨by show 2 ≤ sizeLine; rw [sizeLine_eq]; decide, [.ref x, .ref y], e, .cons rfl (.cons rfl .nil), he⟩
end
end L2
namespace Nt
open PySem
abbrev Net := List (Str × List Str)
abbrev End := Nat × Nat
def row (n : Net) (r : Nat) : List Str := ((n[r]?).map (·.2)).getD []
def j0s (n : Net) (e : End) : Option Str := (row n e.1)[e.2]?
def j0k (r : Nat) (ts : List Str) (p : Nat) : List (Str × End) := (ts.zipIdx p).map fun x => (x.1, (r, x.2))
def j04 (r : Nat) : Net → List (Str × End)
 | [] => []
 | a :: n => j0k r a.2 0 ++ j04 (r + 1) n
def j0w (n : Net) : List (Str × End) := j04 0 n
def ends (n : Net) : List End := (j0w n).map (·.2)
def ties (n : Net) : List Str := n.flatMap (·.2)
def pos (n : Net) (z : Str) : List End := ((j0w n).filter fun x => decide (x.1 = z)).map (·.2)
theorem mem_rowSeats {r : Nat} {ts : List Str} {p : Nat} {z : Str} {e : End} : (z, e) ∈ j0k r ts p ↔ e.1 = r ∧ p ≤ e.2 ∧ ts[e.2 - p]? = some z := by
 unfold j0k
 rw [List.mem_map]
 constructor
 ·rintro ⟨⟨y, k⟩, hm, he⟩
  cases he
  have := List.mem_zipIdx_iff_le_and_getElem?_sub.mp hm
  exact ⟨rfl, this.1, this.2⟩
 ·rintro ⟨h1, h2, h3⟩
  refine ⟨(z, e.2), List.mem_zipIdx_iff_le_and_getElem?_sub.mpr ⟨h2, h3⟩, ?_⟩
  rw [← h1]
theorem mem_seatsFrom : ∀ {n : Net} {k : Nat} {z : Str} {e : End}, (z, e) ∈ j04 k n ↔ k ≤ e.1 ∧ (row n (e.1 - k))[e.2]? = some z
 | [], k, z, e => by
  constructor
  ·intro h; cases h
  ·rintro ⟨_, h⟩
   simp [row] at h
 | a :: n, k, z, e => by
  unfold j04
  rw [List.mem_append, mem_rowSeats, mem_seatsFrom]
  constructor
  ·rintro (⟨h1, _, h3⟩ | ⟨h1, h2⟩)
   ·refine ⟨by omega, ?_⟩
    rw [show e.1 - k = 0 by omega]
    simpa [row] using h3
   ·refine ⟨by omega, ?_⟩
    rw [show e.1 - k = (e.1 - (k + 1)) + 1 by omega]
    simpa [row] using h2
  ·rintro ⟨h1, h2⟩
   rcases Nat.lt_or_ge k e.1 with h | h
   ·refine .inr ⟨h, ?_⟩
    rw [show e.1 - k = (e.1 - (k + 1)) + 1 by omega] at h2
    simpa [row] using h2
   ·refine .inl ⟨by omega, Nat.zero_le _, ?_⟩
    rw [show e.1 - k = 0 by omega] at h2
    simpa [row] using h2
theorem mem_seats {n : Net} {z : Str} {e : End} : (z, e) ∈ j0w n ↔ j0s n e = some z := by
 unfold j0w j0s
 rw [mem_seatsFrom]
 simp
theorem mem_ends {n : Net} {e : End} : e ∈ ends n ↔ ∃ z, j0s n e = some z := by
 unfold ends
 rw [List.mem_map]
 constructor
 ·rintro ⟨⟨z, e'⟩, h, rfl⟩
  exact ⟨z, mem_seats.mp h⟩
 ·rintro ⟨z, h⟩
  exact ⟨(z, e), mem_seats.mpr h, rfl⟩
theorem mem_pos {n : Net} {z : Str} {e : End} : e ∈ pos n z ↔ j0s n e = some z := by
 unfold pos
 rw [List.mem_map]
 constructor
 ·rintro ⟨⟨y, e'⟩, h, rfl⟩
  rw [List.mem_filter, decide_eq_true_eq] at h
  obtain ⟨h1, h2⟩ := h
  subst h2
  exact mem_seats.mp h1
 ·intro h
  exact ⟨(z, e), List.mem_filter.mpr ⟨mem_seats.mpr h, by simp⟩, rfl⟩
theorem j5t (r : Nat) : ∀ (ts : List Str) (p : Nat), (j0k r ts p).map (·.1) = ts := by
 intro ts p
 unfold j0k
 rw [List.map_map]
 have : ((fun x : Str × End => x.1) ∘ fun x : Str × Nat => (x.1, (r, x.2))) = Prod.fst := rfl
 rw [this, List.zipIdx_map_fst]
theorem j1d : ∀ (n : Net) (k : Nat), (j04 k n).map (·.1) = ties n
 | [], _ => rfl
 | a :: n, k => by
  unfold j04 ties
  rw [List.map_append, j5t, j1d n (k + 1), List.flatMap_cons]
  rfl
theorem j5v (r : Nat) (ts : List Str) (p : Nat) : ((j0k r ts p).map (·.2)).Nodup := by
 unfold j0k
 rw [List.map_map]
 have e : ((fun x : Str × End => x.2) ∘ fun x : Str × Nat => (x.1, (r, x.2))) = (fun k : Nat => (r, k)) ∘ Prod.snd := rfl
 rw [e, ← List.map_map, List.zipIdx_map_snd]
 refine List.Pairwise.map _ (R := (· ≠ ·)) ?_ List.nodup_range'
 intro a b h hab
 exact h (Prod.mk.inj hab).2
theorem j3h : ∀ (n : Net) (k : Nat), ((j04 k n).map (·.2)).Nodup
 | [], _ => List.nodup_nil
 | a :: n, k => by
  unfold j04
  rw [List.map_append, List.nodup_append]
  refine ⟨j5v _ _ _, j3h n (k + 1), ?_⟩
  intro x hx y hy e
  subst e
  obtain ⟨⟨z, e1⟩, h1, rfl⟩ := List.mem_map.mp hx
  obtain ⟨⟨z2, e2⟩, h2, he⟩ := List.mem_map.mp hy
  simp only at he
  subst he
  have q1 := (mem_rowSeats.mp h1).1
  have q2 := (mem_seatsFrom.mp h2).1
  omega
theorem j52 (n : Net) : (ends n).Nodup := j3h n 0
theorem j8a (n : Net) (z : Str) : (pos n z).Nodup := by
 unfold pos
 exact (j52 n).sublist (List.Sublist.map _ (List.filter_sublist))
theorem j5r (n : Net) (z : Str) : (pos n z).length = (ties n).count z := by
 unfold pos
 rw [List.length_map, ← j1d n 0, ← List.countP_eq_length_filter, List.count, List.countP_map]
 rfl
def j02 (n : Net) : Prop := ∀ z ∈ ties n, (ties n).count z = 2
theorem j2s {n : Net} {e : End} {z : Str} (h : j0s n e = some z) : z ∈ ties n := by
 have := mem_seats.mpr h
 rw [← j1d n 0]
 exact List.mem_map.mpr ⟨_, this, rfl⟩
def other (n : Net) (e : End) : End := match j0s n e with
 | some z => (match pos n z with
  | [a, b] => if a = e then b else a
  | _ => e)
 | none => e
theorem j4f {n : Net} (T : j02 n) {e : End} {z : Str} (h : j0s n e = some z) : ∃ a b, pos n z = [a, b] ∧ a ≠ b ∧ (e = a ∨ e = b) := by
 have hl := j5r n z
 rw [T z (j2s h)] at hl
 have hn := j8a n z
 have hm := mem_pos.mpr h
 match hp : pos n z, hl with
 | [a, b], _ =>
  rw [hp] at hn hm
  refine ⟨a, b, rfl, ?_, ?_⟩
  ·intro e
   subst e
   simp at hn
  ·simpa using hm
theorem j1t {n : Net} (T : j02 n) {e : End} {z : Str} (h : j0s n e = some z) : j0s n (other n e) = some z ∧ other n (other n e) = e ∧ other n e ≠ e := by
 obtain ⟨a, b, hp, hab, he⟩ := j4f T h
 have ha : j0s n a = some z := mem_pos.mp (by rw [hp]; simp)
 have hb : j0s n b = some z := mem_pos.mp (by rw [hp]; simp)
 rcases he with rfl | rfl
 ·have e1 : other n e = b := by unfold other; simp only [h, hp]; simp
  have e2 : other n b = e := by unfold other; simp only [hb, hp]; simp [hab]
  rw [e1]
  exact ⟨hb, e2, hab.symm⟩
 ·have e1 : other n e = a := by unfold other; simp only [h, hp]; simp [hab]
  have e2 : other n a = e := by unfold other; simp only [ha, hp]; simp
  rw [e1]
  exact ⟨ha, e2, hab⟩
def left (n : Net) (e : End) : End := (e.1, (e.2 + 1) % (row n e.1).length)
def step (n : Net) (e : End) : End := left n (other n e)
theorem j3g {n : Net} {e : End} {z : Str} (h : j0s n e = some z) : e.2 < (row n e.1).length := (List.getElem?_eq_some_iff.mp h).1
theorem j1h {n : Net} {e : End} {z : Str} (h : j0s n e = some z) : e.1 < n.length := by
 rcases Nat.lt_or_ge e.1 n.length with c | c
 ·exact c
 ·have := j3g h
  unfold row at this
  rw [List.getElem?_eq_none c] at this
  simp at this
theorem k31 {n : Net} {e : End} (h : e.2 < (row n e.1).length) : ∃ z, j0s n e = some z := ⟨_, List.getElem?_eq_getElem h⟩
theorem k5v {n : Net} {e : End} (h : e ∈ ends n) : left n e ∈ ends n := by
 obtain ⟨z, h⟩ := mem_ends.mp h
 have := j3g h
 exact mem_ends.mpr (k31 (show (e.2 + 1) % (row n e.1).length < (row n e.1).length from Nat.mod_lt _ (by omega)))
theorem j1z {n : Net} (T : j02 n) {e : End} (h : e ∈ ends n) : other n e ∈ ends n := by
 obtain ⟨z, h⟩ := mem_ends.mp h
 exact mem_ends.mpr ⟨z, (j1t T h).1⟩
theorem j6u {n : Net} (T : j02 n) {e : End} (h : e ∈ ends n) : step n e ∈ ends n := k5v (j1z T h)
theorem k4z {n : Net} {a b : End} (ha : a ∈ ends n) (hb : b ∈ ends n) (h : left n a = left n b) : a = b := by
 obtain ⟨z, ha⟩ := mem_ends.mp ha
 obtain ⟨y, hb⟩ := mem_ends.mp hb
 have la := j3g ha
 have lb := j3g hb
 unfold left at h
 obtain ⟨h1, h2⟩ := Prod.mk.inj h
 rw [h1] at la h2
 have : a.2 = b.2 := by
  rcases Nat.lt_or_ge (a.2 + 1) (row n b.1).length with c | c <;> rcases Nat.lt_or_ge (b.2 + 1) (row n b.1).length with d | d
  ·rw [Nat.mod_eq_of_lt c, Nat.mod_eq_of_lt d] at h2; omega
  ·have e : b.2 + 1 = (row n b.1).length := by omega
   rw [Nat.mod_eq_of_lt c, e, Nat.mod_self] at h2; omega
  ·have e : a.2 + 1 = (row n b.1).length := by omega
   rw [Nat.mod_eq_of_lt d, e, Nat.mod_self] at h2; omega
  ·omega
 exact Prod.ext h1 this
theorem j66 {n : Net} (T : j02 n) {a b : End} (ha : a ∈ ends n) (hb : b ∈ ends n) (h : other n a = other n b) : a = b := by
 obtain ⟨z, ha⟩ := mem_ends.mp ha
 obtain ⟨y, hb⟩ := mem_ends.mp hb
 rw [← (j1t T ha).2.1, h, (j1t T hb).2.1]
theorem k4g {n : Net} (T : j02 n) {a b : End} (ha : a ∈ ends n) (hb : b ∈ ends n) (h : step n a = step n b) : a = b :=
 j66 T ha hb (k4z (j1z T ha) (j1z T hb) h)
theorem nodup_le {α : Type} [DecidableEq α] : ∀ {a b : List α}, a.Nodup → (∀ z ∈ a, z ∈ b) → a.length ≤ b.length
 | [], b, _, _ => Nat.zero_le _
 | x :: r, b, hn, hs => by
  rw [List.nodup_cons] at hn
  have hx := hs x List.mem_cons_self
  have := nodup_le (a := r) (b := b.erase x) hn.2 fun z hz => by
   have hne : z ≠ x := fun e => hn.1 (e ▸ hz)
   exact (List.mem_erase_of_ne hne).mpr (hs z (List.mem_cons_of_mem _ hz))
  rw [List.length_erase_of_mem hx] at this
  have hp : 0 < b.length := List.length_pos_of_mem hx
  rw [List.length_cons]
  omega
def it {α : Type} (f : α → α) : Nat → α → α
 | 0, a => a
 | k + 1, a => f (it f k a)
theorem j4r {α : Type} {f : α → α} {S : List α} (hf : ∀ a ∈ S, f a ∈ S) {a : α} (h : a ∈ S) : ∀ k, it f k a ∈ S
 | 0 => h
 | k + 1 => hf _ (j4r hf h k)
theorem j4d {α : Type} [DecidableEq α] {f : α → α} {S : List α} (hf : ∀ a ∈ S, f a ∈ S) (inj : ∀ a ∈ S, ∀ b ∈ S, f a = f b → a = b) {a : α} (h : a ∈ S) : ∃ k, 0 < k ∧ k ≤ S.length ∧ it f k a = a := by
 have cancel : ∀ i j, it f i a = it f (i + j) a → it f j a = a := by
  intro i
  induction i with
  | zero => intro j e; rw [Nat.zero_add] at e; exact e.symm
  | succ i ih =>
   intro j e
   refine ih j ?_
   rw [show i + 1 + j = (i + j) + 1 by omega] at e
   exact inj _ (j4r hf h i) _ (j4r hf h (i + j)) e
 refine Classical.byContradiction fun hn => ?_
 have nd : ((List.range (S.length + 1)).map fun i => it f i a).Nodup := by
  refine List.Pairwise.map _ (R := fun i j => i < j ∧ j < S.length + 1) ?_ ?_
  ·rintro i j ⟨h1, h2⟩ e
   refine hn ⟨j - i, by omega, by omega, cancel i (j - i) ?_⟩
   rw [show i + (j - i) = j by omega]
   exact e
  ·rw [List.pairwise_iff_getElem]
   intro i j hi hj hij
   simp only [List.getElem_range]
   simp at hj
   exact ⟨hij, hj⟩
 have := nodup_le nd fun z hz => by
  obtain ⟨i, _, rfl⟩ := List.mem_map.mp hz
  exact j4r hf h i
 simp at this
 omega
theorem j2y : ∀ (n : Net) (r : Nat), (row n r).length ≤ (ties n).length
 | [], r => by simp [row, ties]
 | a :: n, 0 => by simp [row, ties]
 | a :: n, r + 1 => by
  have := j2y n r
  simp [row, ties] at this ⊢
  omega
theorem j4m : ∀ (n : Net) (r : Nat), (ties (n.take r)).length ≤ (ties n).length
 | [], r => by simp [ties]
 | a :: n, 0 => by simp [ties]
 | a :: n, r + 1 => by
  have := j4m n r
  simp [ties] at this ⊢
  omega
structure IsFace (n : Net) (e : Nt.End) (fs : List End) : Prop where
 pos : 0 < fs.length
 len : fs.length ≤ (ends n).length
 at' : ∀ i, i < fs.length → fs[i]? = some (it (step n) i e)
 back : it (step n) fs.length e = e
 first : ∀ i, 0 < i → i < fs.length → it (step n) i e ≠ e
end Nt
namespace Nt
open PySem L2
abbrev Ls (zs : List Str) : HO := .lst (zs.map V.str)
abbrev Tp (e : End) : HO := .tup [.int e.1, .int e.2]
structure RowsAt (H : Hp) (R : Addr) (as : List (Addr × Addr)) (n : Net) : Prop where
 len : as.length = n.length
 lst : H R = some (.lst (as.map fun a => .ref a.1))
 tup : ∀ (i : Nat) a r, as[i]? = some a → n[i]? = some r → H a.1 = some (.tup [.str r.1, .ref a.2]) ∧ H a.2 = some (Ls r.2)
 inj : (as.map (·.2)).Nodup
theorem RowsAt.same {H H' : Hp} {R : Addr} {as : List (Addr × Addr)} {n : Net} (h : RowsAt H R as n) (s : Same H H') : RowsAt H' R as n :=
 ⟨h.len, s _ _ h.lst, fun i a r h1 h2 => ⟨s _ _ (h.tup i a r h1 h2).1, s _ _ (h.tup i a r h1 h2).2⟩, h.inj⟩
theorem RowsAt.at {H : Hp} {R : Addr} {as : List (Addr × Addr)} {n : Net} (h : RowsAt H R as n) {i : Nat} (hi : i < n.length) :
  ∃ a, as[i]? = some a ∧ atI (as.map fun a => V.ref a.1) (i : Int) = some (.ref a.1) ∧ H a.1 = some (.tup [.str n[i].1, .ref a.2]) ∧ H a.2 = some (Ls (row n i)) ∧ row n i = n[i].2 := by
 have hl := h.len
 have e : as[i]? = some as[i] := List.getElem?_eq_getElem (by omega)
 have er : row n i = n[i].2 := by unfold row; rw [List.getElem?_eq_getElem hi]; rfl
 have q := h.tup i as[i] n[i] e (List.getElem?_eq_getElem hi)
 refine ⟨as[i], e, j4c (by rw [List.getElem?_map, e]; rfl), q.1, ?_, er⟩
 rw [er]
 exact q.2
theorem j5k {zs : List Str} {j : Nat} {z : Str} (h : zs[j]? = some z) : atI (zs.map V.str) (j : Int) = some (.str z) := j4c (by rw [List.getElem?_map, h]; rfl)
inductive Pd (H : Hp) : List Addr → List End → Prop where
 | nil : Pd H [] []
 | cons {t : Addr} {e : End} {ts : List Addr} {es : List End} : H t = some (Tp e) → Pd H ts es → Pd H (t :: ts) (e :: es)
theorem Pd.append {H : Hp} {ts us : List Addr} {es fs : List End} (h : Pd H ts es) (g : Pd H us fs) : Pd H (ts ++ us) (es ++ fs) := by
 induction h with
 | nil => exact g
 | cons h1 _ ih => exact .cons h1 ih
theorem Pd.keep {H H' : Hp} {ts : List Addr} {es : List End} (h : Pd H ts es) (k : ∀ t e, H t = some (Tp e) → H' t = some (Tp e)) : Pd H' ts es := by
 induction h with
 | nil => exact .nil
 | cons h1 _ ih => exact .cons (k _ _ h1) ih
theorem Pd.length {H : Hp} {ts : List Addr} {es : List End} (h : Pd H ts es) : ts.length = es.length := by
 induction h with
 | nil => rfl
 | cons _ _ ih => rw [List.length_cons, List.length_cons, ih]
theorem Pd.at {H : Hp} {ts : List Addr} {es : List End} (h : Pd H ts es) : ∀ {i : Nat} {e : End}, es[i]? = some e → ∃ t, ts[i]? = some t ∧ H t = some (Tp e) := by
 induction h with
 | nil => intro i e h; simp at h
 | cons h1 _ ih =>
  intro i e h
  cases i with
  | zero => simp at h; subst h; exact ⟨_, rfl, h1⟩
  | succ i => simp only [List.getElem?_cons_succ] at h ⊢; exact ih h
def j1n (done : List (Str × End)) (z : Str) : List End := (done.filter fun x => decide (x.1 = z)).map (·.2)
theorem j0n (done : List (Str × End)) (y z : Str) (e : End) : j1n (done ++ [(y, e)]) z = j1n done z ++ (if y = z then [e] else []) := by
 unfold j1n
 rw [List.filter_append, List.map_append]
 congr 1
 by_cases h : y = z
 ·rw [if_pos h]; simp [h]
 ·rw [if_neg h]; simp [h]
structure SeatsOn (H0 H : Hp) (d : Addr) (done : List (Str × End)) (kvs : List (Key × V)) (ks : List Str) (A : Str → Option (Addr × List Addr)) : Prop where
 same : Same H0 H
 free : H0 d = none
 dict : H d = some (.dK kvs)
 keys : kvs.map (·.1) = ks.map Sum.inr
 nodup : ks.Nodup
 mem : ∀ z, z ∈ ks ↔ (A z).isSome = true
 val : ∀ z, valV kvs (Sum.inr z) = (A z).map fun a => .ref a.1
 at' : ∀ z a ts, A z = some (a, ts) → H0 a = none ∧ a ≠ d ∧ H a = some (.lst (ts.map V.ref)) ∧ Pd H ts (j1n done z)
 inj : ∀ z y a ts us, A z = some (a, ts) → A y = some (a, us) → z = y
 none' : ∀ z, A z = none → j1n done z = []
 some' : ∀ z a ts, A z = some (a, ts) → j1n done z ≠ []
theorem SeatsOn.start {H : Hp} {d : Addr} (h : H d = none) : SeatsOn H (upd H d (.dK [])) d [] [] [] (fun _ => none) where
 same := fun b u q => by rw [j0c (j0d q h)]; exact q
 free := h
 dict := j0b
 keys := rfl
 nodup := List.nodup_nil
 mem := fun z => by simp
 val := fun z => rfl
 at' := fun z a ts h => by cases h
 inj := fun z y a ts us h => by cases h
 none' := fun z _ => rfl
 some' := fun z a ts h => by cases h
theorem j24 {H : Hp} {t a : Addr} {e : End} {xs : List V} (h : H t = some (Tp e)) (g : H a = some (.lst xs)) : t ≠ a := j1j h g fun z => nomatch z
theorem SeatsOn.old {H0 H : Hp} {d : Addr} {done : List (Str × End)} {kvs : List (Key × V)} {ks : List Str} {A : Str → Option (Addr × List Addr)} (S : SeatsOn H0 H d done kvs ks A) {z : Str} {e : End} {a l0 t : Addr} {ts : List Addr}
  (hA : A z = some (a, ts)) (hl : H l0 = none) (ht : (upd H l0 (.lst [])) t = none) :
  SeatsOn H0 (upd (upd (upd H l0 (.lst [])) t (Tp e)) a (.lst (ts.map V.ref ++ [.ref t]))) d (done ++ [(z, e)]) kvs ks (fun y => if y = z then some (a, ts ++ [t]) else A y) := by
 obtain ⟨q1, q2, q3, q4⟩ := S.at' z a ts hA
 have htH : H t = none := by
  by_cases c : t = l0
  ·rw [c, j0b] at ht; cases ht
  ·rwa [j0c c] at ht
 have hla : l0 ≠ a := (j0d q3 hl).symm
 have hta : t ≠ a := (j0d q3 htH).symm
 have hat : a ≠ t := hta.symm
 have keep : ∀ b u, b ≠ a → H b = some u → (upd (upd (upd H l0 (.lst [])) t (Tp e)) a (.lst (ts.map V.ref ++ [.ref t]))) b = some u := fun b u h1 h2 => by
  rw [j0c h1, j0c (j0d h2 htH), j0c (j0d h2 hl)]
  exact h2
 have kt : ∀ b f, H b = some (Tp f) → (upd (upd (upd H l0 (.lst [])) t (Tp e)) a (.lst (ts.map V.ref ++ [.ref t]))) b = some (Tp f) := fun b f h => keep b _ (j24 h q3) h
 have et : (upd (upd (upd H l0 (.lst [])) t (Tp e)) a (.lst (ts.map V.ref ++ [.ref t]))) t = some (Tp e) := by rw [j0c hta, j0b]
 refine ⟨fun b u h => ?_, S.free, keep d _ (Ne.symm q2) S.dict, S.keys, S.nodup, fun y => ?_, fun y => ?_, fun y a' ts' h => ?_, fun y y' a' ts' us h1 h2 => ?_, fun y h => ?_, fun y a' ts' h => ?_⟩
 ·exact keep b u (j0d h q1) (S.same _ _ h)
 ·rw [S.mem y]
  by_cases c : y = z
  ·rw [if_pos c, c, hA]; simp
  ·rw [if_neg c]
 ·rw [S.val y]
  by_cases c : y = z
  ·rw [if_pos c, c, hA]; rfl
  ·rw [if_neg c]
 ·by_cases c : y = z
  ·rw [if_pos c] at h
   cases h
   refine ⟨q1, q2, by rw [j0b, List.map_append]; rfl, ?_⟩
   rw [j0n, c, if_pos rfl]
   exact (q4.keep kt).append (.cons et .nil)
  ·rw [if_neg c] at h
   obtain ⟨r1, r2, r3, r4⟩ := S.at' y a' ts' h
   have hne : a' ≠ a := fun e2 => c (S.inj y z a ts' ts (e2 ▸ h) hA)
   refine ⟨r1, r2, keep _ _ hne r3, ?_⟩
   rw [j0n, if_neg (fun h => c h.symm), List.append_nil]
   exact r4.keep kt
 ·by_cases c : y = z <;> by_cases c' : y' = z
  ·rw [c, c']
  ·rw [if_pos c] at h1
   rw [if_neg c'] at h2
   cases h1
   exact absurd (S.inj y' z a us ts h2 hA) c'
  ·rw [if_neg c] at h1
   rw [if_pos c'] at h2
   cases h2
   exact absurd (S.inj y z a ts' ts h1 hA) c
  ·rw [if_neg c] at h1
   rw [if_neg c'] at h2
   exact S.inj y y' a' ts' us h1 h2
 ·by_cases c : y = z
  ·rw [if_pos c] at h; cases h
  ·rw [if_neg c] at h
   rw [j0n, if_neg (fun h => c h.symm), List.append_nil]
   exact S.none' y h
 ·by_cases c : y = z
  ·rw [j0n, if_pos c.symm]
   simp
  ·rw [if_neg c] at h
   rw [j0n, if_neg (fun h => c h.symm), List.append_nil]
   exact S.some' y a' ts' h
theorem SeatsOn.new {H0 H : Hp} {d : Addr} {done : List (Str × End)} {kvs : List (Key × V)} {ks : List Str} {A : Str → Option (Addr × List Addr)} (S : SeatsOn H0 H d done kvs ks A) {z : Str} {e : End} {l0 t : Addr}
  (hA : A z = none) (hl : H l0 = none) (ht : (upd (upd H l0 (.lst [])) d (.dK (putK kvs (Sum.inr z) (.ref l0)))) t = none) :
  SeatsOn H0 (upd (upd (upd (upd H l0 (.lst [])) d (.dK (putK kvs (Sum.inr z) (.ref l0)))) t (Tp e)) l0 (.lst [.ref t])) d (done ++ [(z, e)]) (putK kvs (Sum.inr z) (.ref l0)) (ks ++ [z]) (fun y => if y = z then some (l0, [t]) else A y) := by
 have hdl : d ≠ l0 := j0d S.dict hl
 have htd : t ≠ d := fun c => by rw [c, j0b] at ht; cases ht
 have htl : t ≠ l0 := fun c => by rw [j0c htd, c, j0b] at ht; cases ht
 have htH : H t = none := by rwa [j0c htd, j0c htl] at ht
 have vn : valV kvs (Sum.inr z) = none := by rw [S.val z, hA]; rfl
 have keep : ∀ b u, b ≠ d → H b = some u → (upd (upd (upd (upd H l0 (.lst [])) d (.dK (putK kvs (Sum.inr z) (.ref l0)))) t (Tp e)) l0 (.lst [.ref t])) b = some u := fun b u h1 h2 => by
  rw [j0c (j0d h2 hl), j0c (j0d h2 htH), j0c h1, j0c (j0d h2 hl)]
  exact h2
 have kt : ∀ b f, H b = some (Tp f) → (upd (upd (upd (upd H l0 (.lst [])) d (.dK (putK kvs (Sum.inr z) (.ref l0)))) t (Tp e)) l0 (.lst [.ref t])) b = some (Tp f) := fun b f h => keep b _ (j1j h S.dict fun z => nomatch z) h
 have h0l : H0 l0 = none := S.same.free hl
 have zk : z ∉ ks := fun h => by
  have := (S.mem z).mp h
  rw [hA] at this
  cases this
 refine ⟨fun b u h => ?_, S.free, ?_, ?_, ?_, fun y => ?_, fun y => ?_, fun y a' ts' h => ?_, fun y y' a' ts' us h1 h2 => ?_, fun y h => ?_, fun y a' ts' h => ?_⟩
 ·exact keep b u (j0d h S.free) (S.same _ _ h)
 ·rw [j0c hdl, j0c htd.symm, j0b]
 ·rw [j98 _ vn, List.map_append, S.keys, List.map_append]
  rfl
 ·rw [List.nodup_append]
  exact ⟨S.nodup, by simp, fun x hx y hy e => by rw [List.mem_singleton] at hy; subst hy e; exact zk hx⟩
 ·rw [List.mem_append, List.mem_singleton, S.mem y]
  by_cases c : y = z
  ·rw [if_pos c]; simp [c]
  ·rw [if_neg c]; simp [c]
 ·rw [j0q]
  by_cases c : y = z
  ·rw [if_pos (by rw [c]), if_pos c]; rfl
  ·rw [if_neg (fun h => c (Sum.inr.inj h)), if_neg c, S.val y]
 ·by_cases c : y = z
  ·rw [if_pos c] at h
   cases h
   refine ⟨h0l, hdl.symm, by rw [j0b]; rfl, ?_⟩
   rw [j0n, c, if_pos rfl, S.none' z hA]
   exact .cons (by rw [j0c htl, j0b]) .nil
  ·rw [if_neg c] at h
   obtain ⟨r1, r2, r3, r4⟩ := S.at' y a' ts' h
   refine ⟨r1, r2, keep _ _ r2 r3, ?_⟩
   rw [j0n, if_neg (fun h => c h.symm), List.append_nil]
   exact r4.keep kt
 ·by_cases c : y = z <;> by_cases c' : y' = z
  ·rw [c, c']
  ·rw [if_pos c] at h1
   rw [if_neg c'] at h2
   cases h1
   exact absurd hl (by rw [(S.at' y' l0 us h2).2.2.1]; exact fun h => nomatch h)
  ·rw [if_neg c] at h1
   rw [if_pos c'] at h2
   cases h2
   exact absurd hl (by rw [(S.at' y l0 ts' h1).2.2.1]; exact fun h => nomatch h)
  ·rw [if_neg c] at h1
   rw [if_neg c'] at h2
   exact S.inj y y' a' ts' us h1 h2
 ·by_cases c : y = z
  ·rw [if_pos c] at h; cases h
  ·rw [if_neg c] at h
   rw [j0n, if_neg (fun h => c h.symm), List.append_nil]
   exact S.none' y h
 ·by_cases c : y = z
  ·rw [j0n, if_pos c.symm]
   simp
  ·rw [if_neg c] at h
   rw [j0n, if_neg (fun h => c h.symm), List.append_nil]
   exact S.some' y a' ts' h
theorem j2b : ∀ (n m : Net) (k : Nat), j04 k (n ++ m) = j04 k n ++ j04 (k + n.length) m
 | [], m, k => rfl
 | a :: n, m, k => by
  show j0k k a.2 0 ++ j04 (k + 1) (n ++ m) = (j0k k a.2 0 ++ j04 (k + 1) n) ++ j04 (k + (n.length + 1)) m
  rw [j2b n m (k + 1), List.append_assoc, show k + 1 + n.length = k + (n.length + 1) by omega]
theorem j2i {n : Net} {r : Nat} (h : r < n.length) : j0w (n.take (r + 1)) = j0w (n.take r) ++ j0k r (row n r) 0 := by
 unfold j0w
 rw [List.take_add_one, List.getElem?_eq_getElem h, j2b]
 have e : (n.take r).length = r := by rw [List.length_take]; omega
 rw [e, Nat.zero_add]
 have er : row n r = n[r].2 := by unfold row; rw [List.getElem?_eq_getElem h]; rfl
 rw [er]
 show _ ++ (j0k r n[r].2 0 ++ []) = _
 rw [List.append_nil]
theorem j1l {r : Nat} {ts : List Str} {p : Nat} {z : Str} (h : ts[p]? = some z) : j0k r (ts.take (p + 1)) 0 = j0k r (ts.take p) 0 ++ [(z, (r, p))] := by
 unfold j0k
 have hp := (List.getElem?_eq_some_iff.mp h).1
 rw [List.take_add_one, h, List.zipIdx_append, List.map_append]
 have e : (ts.take p).length = p := by rw [List.length_take]; omega
 rw [e, Nat.zero_add]
 rfl
structure SeatsAt (H : Hp) (d : Addr) (n : Net) (ks : List Str) : Prop where
 dict : ∃ kvs, H d = some (.dK kvs) ∧ kvs.map (·.1) = ks.map Sum.inr ∧ ∀ z ∈ ties n, ∃ a ts, valV kvs (Sum.inr z) = some (.ref a) ∧ H a = some (.lst (ts.map V.ref)) ∧ Pd H ts (pos n z)
 nodup : ks.Nodup
 mem : ∀ z, z ∈ ks ↔ z ∈ ties n
theorem SeatsAt.same {H H' : Hp} {d : Addr} {n : Net} {ks : List Str} (S : SeatsAt H d n ks) (s : Same H H') : SeatsAt H' d n ks := by
 obtain ⟨kvs, h1, h2, h3⟩ := S.dict
 refine ⟨⟨kvs, s _ _ h1, h2, fun z hz => ?_⟩, S.nodup, S.mem⟩
 obtain ⟨a, ts, q1, q2, q3⟩ := h3 z hz
 exact ⟨a, ts, q1, s _ _ q2, q3.keep fun t e h => s _ _ h⟩
theorem j94 {n : Net} {z : Str} : z ∈ ties n ↔ pos n z ≠ [] := by
 rw [← List.count_pos_iff, ← j5r, List.length_pos_iff]
theorem SeatsOn.whole {H0 H : Hp} {d : Addr} {n : Net} {kvs : List (Key × V)} {ks : List Str} {A : Str → Option (Addr × List Addr)} (S : SeatsOn H0 H d (j0w n) kvs ks A) : SeatsAt H d n ks := by
 have mem : ∀ z, z ∈ ks ↔ z ∈ ties n := fun z => by
  rw [S.mem z, j94]
  cases h : A z with
  | none => simp; exact S.none' z h
  | some p =>
   obtain ⟨a, ts⟩ := p
   simp
   exact S.some' z a ts h
 refine ⟨⟨kvs, S.dict, S.keys, fun z hz => ?_⟩, S.nodup, mem⟩
 have := (S.mem z).mp ((mem z).mpr hz)
 cases h : A z with
 | none => rw [h] at this; cases this
 | some p =>
  obtain ⟨a, ts⟩ := p
  obtain ⟨q1, q2, q3, q4⟩ := S.at' z a ts h
  exact ⟨a, ts, by rw [S.val z, h]; rfl, q3, q4⟩
theorem all2 (e : Nat → Bool) : (List.range 2).all e = (e 0 && e 1) := by
 show (([0, 1] : List Nat).all e) = _
 simp
theorem k2f (x y : End) : (eqV (.int x.1) (.int y.1) && eqV (.int x.2) (.int y.2)) = decide (x = y) := by
 obtain ⟨a, b⟩ := x
 obtain ⟨c, d⟩ := y
 by_cases h : a = c <;> by_cases h2 : b = d
 ·subst h h2; simp [eqV]
 ·have : ¬ (b : Int) = (d : Int) := fun e => h2 (by omega)
  simp [eqV, h2, this]
 ·have : ¬ (a : Int) = (c : Int) := fun e => h (by omega)
  simp [eqV, h, this]
 ·have : ¬ (a : Int) = (c : Int) := fun e => h (by omega)
  simp [eqV, h, this]
section
variable {X : Cx} {H : Hp} {s t : Addr} {x y : End}
theorem k6k : ∀ (j : Nat) (u v : V), [V.int x.1, .int x.2][j]? = some u → [V.int y.1, .int y.2][j]? = some v → EqD X H 0 u v (if j = 0 then eqV (.int x.1) (.int y.1) else eqV (.int x.2) (.int y.2))
 | 0, u, v, h1, h2 => by
  cases h1
  cases h2
  exact j3l rfl rfl
 | 1, u, v, h1, h2 => by
  cases h1
  cases h2
  exact j3l rfl rfl
 | j + 2, u, v, h1, h2 => by simp at h1
theorem q0c (hs : H s = some (Tp x)) (ht : H t = some (Tp y)) : RcD X H 1 (.ref s) (.ref t) (decide (x = y)) := by
 have := k1s (X := X) (k := 0) (fun j => if j = 0 then eqV (.int x.1) (.int y.1) else eqV (.int x.2) (.int y.2)) (SqT.of hs) (SqT.of ht) rfl k6k
 rw [show ([V.int (x.1 : Int), .int x.2].length) = 2 from rfl, all2] at this
 have e := k2f x y
 simp only [if_true] at this
 rw [if_neg (by decide), e] at this
 exact this
theorem k92 (hs : H s = some (Tp x)) (ht : H t = some (Tp y)) : RnD X H 1 (.ref s) (.ref t) (decide (x = y)) := by
 have := k3o (X := X) (k := 0) (fun j => if j = 0 then eqV (.int x.1) (.int y.1) else eqV (.int x.2) (.int y.2)) (SqT.of hs) (SqT.of ht) rfl k6k
 rw [show ([V.int (x.1 : Int), .int x.2].length) = 2 from rfl, all2] at this
 have e := k2f x y
 simp only [if_true] at this
 rw [if_neg (by decide), e] at this
 exact this
end
end Nt
namespace Nt
open PySem L2
abbrev lets : Str := "abcdefghijklmnopqrstuvwxyz0123456789"
theorem j99 : lets.cps.toList.length = 36 := by decide +kernel
theorem k04 : lets.cps.toList.Nodup := by decide +kernel
def sgn (i : Int) : Nat := (atI lets.cps.toList (i % 36)).getD 0
theorem k3i (i : Int) : atI lets.cps.toList (i % 36) = some (sgn i) := by
 have h0 : 0 ≤ i % 36 := Int.emod_nonneg _ (by decide)
 have h1 : i % 36 < 36 := Int.emod_lt_of_pos _ (by decide)
 have hj : (i % 36).toNat < lets.cps.toList.length := by rw [j99]; omega
 have q := j4c (xs := lets.cps.toList) (j := (i % 36).toNat) (v := lets.cps.toList[(i % 36).toNat]) (by simp [hj])
 rw [show (((i % 36).toNat : Nat) : Int) = i % 36 by omega] at q
 unfold sgn
 rw [q]
 rfl
theorem k1m {i j : Int} (h : sgn i = sgn j) : i % 36 = j % 36 := by
 have key : ∀ k : Int, lets.cps.toList[(k % 36).toNat]? = some (sgn k) := fun k => by
  have h0 : 0 ≤ k % 36 := Int.emod_nonneg _ (by decide)
  have h1 : k % 36 < 36 := Int.emod_lt_of_pos _ (by decide)
  have hj : (k % 36).toNat < lets.cps.toList.length := by rw [j99]; omega
  have q := j4c (xs := lets.cps.toList) (j := (k % 36).toNat) (v := lets.cps.toList[(k % 36).toNat]) (by simp [hj])
  rw [show (((k % 36).toNat : Nat) : Int) = k % 36 by omega, k3i] at q
  rw [List.getElem?_eq_getElem hj, Option.some.inj q]
 have hi := key i
 have hj := key j
 rw [h] at hi
 obtain ⟨l1, e1⟩ := List.getElem?_eq_some_iff.mp hi
 obtain ⟨l2, e2⟩ := List.getElem?_eq_some_iff.mp hj
 have := (List.getElem_inj (xs := lets.cps.toList) (h₀ := l1) (h₁ := l2) k04).mp (e1.trans e2.symm)
 have a0 : 0 ≤ i % 36 := Int.emod_nonneg _ (by decide)
 have b0 : 0 ≤ j % 36 := Int.emod_nonneg _ (by decide)
 omega
def turn (b : Int) (sp : Int) (v k : Nat) : Int := b / 64 + (k : Int) * (b / 7 % 5) + (if (k : Int) = sp then (v : Int) else 0)
def nm (b sp : Int) (v : Nat) : Nat → Str
 | 0 => ⟨#[]⟩
 | k + 1 => nm b sp v k ++ ⟨#[sgn (turn b sp v k)]⟩
theorem app_list (x y : Str) : (x ++ y).cps.toList = x.cps.toList ++ y.cps.toList := by
 show (x.cps ++ y.cps).toList = _
 simp
theorem j6p (b sp : Int) (v : Nat) : ∀ k, (nm b sp v k).cps.toList = (List.range k).map fun j => sgn (turn b sp v j)
 | 0 => rfl
 | k + 1 => by
  show (nm b sp v k ++ ⟨#[sgn (turn b sp v k)]⟩).cps.toList = _
  rw [app_list, j6p b sp v k, List.range_succ, List.map_append]
  rfl
theorem q0w {b sp : Int} {u v k : Nat} (hu : u < 36) (hv : v < 36) (h0 : 0 ≤ sp) (h1 : sp < (k : Int)) (h : nm b sp u k = nm b sp v k) : u = v := by
 have e : (nm b sp u k).cps.toList = (nm b sp v k).cps.toList := by rw [h]
 rw [j6p, j6p] at e
 have hk : sp.toNat < k := by omega
 have q : ((List.range k).map fun j => sgn (turn b sp u j))[sp.toNat]? = ((List.range k).map fun j => sgn (turn b sp v j))[sp.toNat]? := by rw [e]
 rw [List.getElem?_map, List.getElem?_map, List.getElem?_range hk] at q
 have q2 : sgn (turn b sp u sp.toNat) = sgn (turn b sp v sp.toNat) := Option.some.inj q
 have q3 := k1m q2
 unfold turn at q3
 rw [show ((sp.toNat : Nat) : Int) = sp by omega, if_pos rfl, if_pos rfl] at q3
 omega
theorem fold_list (c : Nat) : ∀ (k : Nat) (acc : Array Nat), ((List.replicate k (#[c] : Array Nat)).foldl (· ++ ·) acc).toList = acc.toList ++ List.replicate k c
 | 0, acc => by simp
 | k + 1, acc => by
  rw [List.replicate_succ, List.foldl_cons, fold_list c k, List.replicate_succ]
  simp
theorem mul_list (c : Nat) {i : Int} (h : 1 ≤ i) : (Txt.mul ⟨#[c]⟩ i).cps.toList = List.replicate i.toNat c := by
 unfold Txt.mul
 rw [if_neg (by omega)]
 by_cases e : i = 1
 ·subst e
  rfl
 ·have e1 : (i == 1 || (⟨#[c]⟩ : Str).length == 0) = false := by
   have : (i == 1) = false := by simpa using e
   rw [this]
   rfl
  rw [e1]
  simp only [Bool.false_eq_true, if_false]
  have := fold_list c i.toNat #[]
  simpa using this
def nameOf (b : Int) (v : Nat) : Str := if b % 3 = 2 then Txt.mul ⟨#[sgn (b / 64 + (v : Int) / 8)]⟩ (1 + (v : Int) % 8) else nm b (b / 8 % (1 + b % 8)) v (1 + b % 8).toNat
theorem k0y {b : Int} {u v : Nat} (hu : u < 36) (hv : v < 36) (h : nameOf b u = nameOf b v) : u = v := by
 have s0 : 0 ≤ b % 8 := Int.emod_nonneg _ (by decide)
 unfold nameOf at h
 by_cases c : b % 3 = 2
 ·rw [if_pos c, if_pos c] at h
  have u0 : 0 ≤ (u : Int) % 8 := Int.emod_nonneg _ (by decide)
  have v0 : 0 ≤ (v : Int) % 8 := Int.emod_nonneg _ (by decide)
  have e : (Txt.mul ⟨#[sgn (b / 64 + (u : Int) / 8)]⟩ (1 + (u : Int) % 8)).cps.toList = (Txt.mul ⟨#[sgn (b / 64 + (v : Int) / 8)]⟩ (1 + (v : Int) % 8)).cps.toList := by rw [h]
  rw [mul_list _ (by omega), mul_list _ (by omega)] at e
  have l := congrArg List.length e
  rw [List.length_replicate, List.length_replicate] at l
  have hd : (List.replicate (1 + (u : Int) % 8).toNat (sgn (b / 64 + (u : Int) / 8)))[0]? = (List.replicate (1 + (v : Int) % 8).toNat (sgn (b / 64 + (v : Int) / 8)))[0]? := by rw [e]
  rw [List.getElem?_replicate, List.getElem?_replicate, if_pos (by omega), if_pos (by omega)] at hd
  have q := k1m (Option.some.inj hd)
  omega
 ·rw [if_neg c, if_neg c] at h
  refine q0w hu hv (Int.emod_nonneg _ (by omega)) ?_ h
  have := Int.emod_lt_of_pos (b / 8) (show 0 < 1 + b % 8 by omega)
  omega
def namesOf (b : Int) (m : Nat) : List Str := (List.range m).map (nameOf b)
theorem j2f {b : Int} {m : Nat} (h : m ≤ 36) : (namesOf b m).Nodup := by
 unfold namesOf
 refine List.Pairwise.map _ (R := fun i j => i < j ∧ j < m) ?_ ?_
 ·rintro i j ⟨h1, h2⟩ e
  have := k0y (by omega) (by omega) e
  omega
 ·rw [List.pairwise_iff_getElem]
  intro i j hi hj hij
  simp only [List.getElem_range]
  simp at hj
  exact ⟨hij, hj⟩
theorem j2q (b : Int) (m : Nat) : namesOf b (m + 1) = namesOf b m ++ [nameOf b m] := by
 unfold namesOf
 rw [List.range_succ, List.map_append]
 rfl
theorem j31 (b : Int) (m : Nat) : (namesOf b m).length = m := by unfold namesOf; simp
theorem k0v {b : Int} {m i : Nat} (h : i < m) : (namesOf b m)[i]? = some (nameOf b i) := by
 unfold namesOf
 rw [List.getElem?_map, List.getElem?_range h]
 rfl
end Nt
namespace D4
open PySem L2
def top (i : Nat) : Stmt := PySem.Challenge.pw_threewebs_k40_is_double.main.body.getD i (.Pass ⟨0, 0, 0, 0⟩)
abbrev k5e : Stmt := top 1
abbrev j9h : Stmt := top 2
abbrev k89 : Stmt := top 3
abbrev j8t : Stmt := top 4
abbrev j88 : Stmt := top 5
abbrev j9x : Stmt := top 6
abbrev sLS : Stmt := top 7
abbrev sRS : Stmt := top 8
abbrev k26 : Stmt := top 10
abbrev j8s : Stmt := top 11
abbrev sOdd : Stmt := top 13
abbrev sRnd : Stmt := top 14
abbrev j9u : Stmt := top 15
abbrev j5f : Stmt := top 16
abbrev sWks : Stmt := top 18
abbrev sWkF : Stmt := top 19
abbrev j3y : Stmt := top 21
abbrev k77 : Stmt := top 23
abbrev sBig : Stmt := top 24
abbrev k3t : Stmt := top 25
abbrev k3r : Stmt := top 26
abbrev k23 : Stmt := top 27
abbrev k61 : Stmt := top 28
abbrev k6x : Stmt := top 29
abbrev sPut : Stmt := top 30
abbrev sNet : Stmt := top 31
abbrev k5i : Stmt := top 32
abbrev j4y : Stmt := top 33
abbrev j4u : Stmt := top 34
abbrev j5s : Stmt := top 35
abbrev j2r : Stmt := top 36
abbrev sLaw : Stmt := top 37
structure Txt (mg : Str → Option Value) : Prop where
 isi : mg "isinstance" = none
 ttuple : mg "tuple" = none
 tstr : mg "str" = none
 tint : mg "int" = none
 tbool : mg "bool" = none
 tlist : mg "list" = none
 tdict : mg "dict" = none
 tset : mg "set" = none
 enum : mg "enumerate" = none
 zip : mg "zip" = none
 len : mg "len" = none
 range : mg "range" = none
 sorted : mg "sorted" = none
 max : mg "max" = none
 all : mg "all" = none
end D4
namespace D4
open PySem L2 Nt Sort2
theorem small {n : Nat} (h : n ≤ 100000) : n ≤ sizeLine := by rw [sizeLine_eq]; omega
theorem j0u {n : Nat} (h : n ≤ 100000) : n < sizeLine := by rw [sizeLine_eq]; omega
theorem j0e {H : Hp} {p : Addr} (h : H p = none) (o : HO) : Same H (upd H p o) := fun b u q => by rw [j0c (j0d q h)]; exact q
theorem j01 {H1 H2 : Hp} {r : Addr} {o : HO} (s : Same H1 H2) (h : H1 r = none) : Same H1 (upd H2 r o) := fun b u q => by
 rw [j0c (j0d q h)]
 exact s _ _ q
theorem k18 {H : Hp} {l : Addr} {zs : List Str} {y : Str} : upd H l (.lst (zs.map V.str ++ [V.str y])) = upd H l (Ls (zs ++ [y])) := by
 show _ = upd H l (.lst ((zs ++ [y]).map V.str))
 rw [List.map_append]
 rfl
def j9g (K : PySem.W.Frag) : Sp := fun vs H Q _ => ∃ (a : Addr) (ns : List Int) (k : Int), vs = [.ref a, .int k] ∧ SqL K H a (ns.map V.int) ∧ 0 ≤ k ∧ ∀ i, Q (.int i) H
def k7h (K : PySem.W.Frag) : Sp := fun vs H Q _ => ∃ (a : Addr) (ns : List Int) (k : Int), vs = [.ref a, .int k] ∧ SqL K H a (ns.map V.int) ∧ 0 ≤ k ∧ ∀ i H', Same H H' → Q (.int i) H'
def j8q : Sp := fun vs H Q _ => ∃ (b m : Int), vs = [.int b, .int m] ∧ 0 ≤ m ∧ m ≤ 36 ∧ ∀ l H', Same H H' → H l = none → H' l = some (Ls (namesOf b m.toNat)) → Q (.ref l) H'
def j6z : Sp := fun vs H Q _ => ∃ (R : Addr) (as : List (Addr × Addr)) (n : Net), vs = [.ref R] ∧ RowsAt H R as n ∧ n.length ≤ 1000 ∧ (ties n).length ≤ 1000 ∧ ∀ d ks H', Same H H' → H d = none → SeatsAt H' d n ks → Q (.ref d) H'
def j8u : Sp := fun vs H Q _ => ∃ (R d t : Addr) (as : List (Addr × Addr)) (n : Net) (ks : List Str) (e : Nt.End), vs = [.ref R, .ref d, .ref t] ∧ RowsAt H R as n ∧ SeatsAt H d n ks ∧ j02 n ∧ H t = some (Tp e) ∧ e ∈ ends n ∧ ∀ u, H u = some (Tp (other n e)) → Q (.ref u) H
def k1x : Sp := fun vs H Q _ => ∃ (R d t : Addr) (as : List (Addr × Addr)) (n : Net) (ks : List Str) (e : Nt.End), vs = [.ref R, .ref d, .ref t, .int 1] ∧ RowsAt H R as n ∧ SeatsAt H d n ks ∧ j02 n ∧ H t = some (Tp e) ∧ e ∈ ends n ∧ ∀ u H', Same H H' → H u = none → H' u = some (Tp (step n e)) → Q (.ref u) H'
def k3e : Sp := fun vs H Q _ => ∃ (R d t : Addr) (as : List (Addr × Addr)) (n : Net) (ks : List Str) (e : Nt.End), vs = [.ref R, .ref d, .ref t] ∧ RowsAt H R as n ∧ SeatsAt H d n ks ∧ j02 n ∧ H t = some (Tp e) ∧ e ∈ ends n ∧ (ends n).length ≤ 1000 ∧
 ∀ l ts fs H', Same H H' → H l = none → H' l = some (.lst (ts.map V.ref)) → Pd H' ts fs → IsFace n e fs → Q (.ref l) H'
section
variable {P : Program} {w : World} {K : PySem.W.Frag} {mg : Str → Option Value} {base : Heap}
theorem k9e : FnScope ["_law_script", "_law_k"] ["_law_script", "_law_k"] (j0h k77) := ⟨rfl, rfl, rfl, by decide +kernel, rfl, by decide +kernel, by decide +kernel⟩
theorem k8n {ns : List Int} {k : Int} (h0 : 0 ≤ k) (h1 : k < (ns.length : Int)) : ∃ v : Int, atI (ns.map V.int) k = some (.int v) := by
 have hj : k.toNat < ns.length := by omega
 have q := j4c (xs := ns.map V.int) (j := k.toNat) (v := .int ns[k.toNat]) (by simp [hj])
 rw [show ((k.toNat : Nat) : Int) = k by omega] at q
 exact ⟨_, q⟩
theorem k79 {f : Addr} {fd : FuncData} (F : Fun K "_law_cell_at" "_law_cell_at" k77 f fd) (T : Txt mg) : FnOk P w K mg base CX0 1 f fd ["_law_script", "_law_k"] (j9g K) := by
 refine F.gb k9e (fun vs H Q E h => ?_) (fun b0 H vs Q E hr h => ?_)
 ·obtain ⟨a, ns, k, rfl, _⟩ := h
  rfl
 obtain ⟨a, ns, k, rfl, hS, h0, q⟩ := h
 show Run _ _ _ [some (.ref a), some (.int k)] H
 refine j4b (j1e q2t (ev_v 1 (j06 j0m T.len boot_len (j0a (ev_v 0 (j0g ⟨a, _, rfl, .inl hS, _, _, rfl, rfl, _, rfl, ?_⟩))))))
 refine ite2 (fun c => ?_) (fun c => ?_)
 ·have c' := of_decide_eq_true c
  obtain ⟨v, hv⟩ := k8n (ns := ns) h0 (by rw [List.length_map] at c'; exact c')
  exact j0p (j0r j0x (ev_v 0 (ev_v 1 ⟨a, _, _, .int v, rfl, rfl, hS, hv, q v⟩)))
 ·exact j0l (j0p (j0f (q 0)))
abbrev bys : List V := [.int 48271, .int 69621, .int 16807, .int 39373, .int 21401, .int 60493, .int 87721, .int 31337]
abbrev prs : List V := [.int 99991, .int 99989, .int 99971, .int 99961, .int 99929, .int 99923, .int 99907, .int 99901]
theorem eight {i : Int} (h0 : 0 ≤ i) (h1 : i < 8) : i = 0 ∨ i = 1 ∨ i = 2 ∨ i = 3 ∨ i = 4 ∨ i = 5 ∨ i = 6 ∨ i = 7 := by
 obtain ⟨k, rfl⟩ := Int.eq_ofNat_of_zero_le h0
 exact (by decide : ∀ k : Fin 8, (k.1 : Int) = 0 ∨ (k.1 : Int) = 1 ∨ (k.1 : Int) = 2 ∨ (k.1 : Int) = 3 ∨ (k.1 : Int) = 4 ∨ (k.1 : Int) = 5 ∨ (k.1 : Int) = 6 ∨ (k.1 : Int) = 7) ⟨k, Int.ofNat_lt.mp h1⟩
theorem q0f {i : Int} (h0 : 0 ≤ i) (h1 : i < 8) : ∃ m : Int, atI bys i = some (.int m) ∧ 0 < m ∧ m < 100000 := by
 rcases eight h0 h1 with rfl | rfl | rfl | rfl | rfl | rfl | rfl | rfl <;> exact ⟨_, rfl, by decide, by decide⟩
theorem q1e {i : Int} (h0 : 0 ≤ i) (h1 : i < 8) : ∃ m : Int, atI prs i = some (.int m) ∧ 0 < m ∧ m < 100000 := by
 rcases eight h0 h1 with rfl | rfl | rfl | rfl | rfl | rfl | rfl | rfl <;> exact ⟨_, rfl, by decide, by decide⟩
theorem scBig : FnScope ["_law_script", "_law_at", "_law_by", "_law_prime", "_law_cell", "_law_big_here", "_law_k", "_law_one"] ["_law_script", "_law_at"] (j0h sBig) := ⟨rfl, rfl, rfl, by decide +kernel, rfl, by decide +kernel, by decide +kernel⟩
theorem k9c {f : Addr} {fd : FuncData} (F : Fun K "_law_big" "_law_big" sBig f fd) (T : Txt mg) (G : Has P w K mg base 1 "_law_cell_at" ["_law_script", "_law_k"] (j9g K)) :
  FnOk P w K mg base CX0 2 f fd ["_law_script", "_law_at"] (k7h K) := by
 refine F.gb scBig (fun vs H Q E h => ?_) (fun b0 H vs Q E hr h => ?_)
 ·obtain ⟨a, ns, k, rfl, _⟩ := h
  rfl
 obtain ⟨a, ns, k, rfl, hS, h0, q⟩ := h
 have nd := scBig.nd
 show Run _ _ _ [some (.ref a), some (.int k), none, none, none, none, none, none] H
 refine j0i 2 nd (j13 (j0a (j0f (j0a (j0f (j0a (j0f (j0a (j0f (j0a (j0f (j0a (j0f (j0a (j0f (j0a (j0f (j0g ⟨(by show 8 ≤ sizeLine; decide), fun p hp => ?_⟩))))))))))))))))))
 refine j0i 3 nd (j13 (j0a (j0f (j0a (j0f (j0a (j0f (j0a (j0f (j0a (j0f (j0a (j0f (j0a (j0f (j0a (j0f (j0g ⟨(by show 8 ≤ sizeLine; decide), fun p2 hp2 => ?_⟩))))))))))))))))))
 have npp : p ≠ p2 := by
  intro e
  rw [← e, j0b] at hp2
  cases hp2
 have s1 : Same H (upd H p (.tup bys)) := j0e hp _
 have s2 : Same H (upd (upd H p (.tup bys)) p2 (.tup prs)) := s1.trans (j0e hp2 _)
 have e1 : (upd (upd H p (.tup bys)) p2 (.tup prs)) p = some (.tup bys) := by rw [j0c npp, j0b]
 have e2 : (upd (upd H p (.tup bys)) p2 (.tup prs)) p2 = some (.tup prs) := j0b
 generalize upd (upd H p (.tup bys)) p2 (.tup prs) = H2 at s2 e1 e2 ⊢
 refine j0i 4 nd (j0t G hr (j0a (ev_v 0 (j0a (ev_v 1 (j0g ⟨a, ns, k, rfl, s2.seq hS, h0, fun b => ?_⟩))))))
 show Run _ _ _ [some (.ref a), some (.int k), some (.ref p), some (.ref p2), some (.int b), none, none, none] H2
 refine j5u True True (fun R qq => ?_) (fun _ => ?_) (fun _ => j0l ?_)
 ·refine j47 (j93 (j1e j4i (j0o j1b (ev_v 4 (j0f ⟨_, _, rfl, rfl, (by show (0 : Int) < 2; decide), j0f ⟨rfl, _, rfl, ?_⟩⟩)))))
  refine ite2 (fun c => ?_) (fun c => qq false (fun z => nomatch z) fun _ => trivial)
  exact j6f (j1e q2n (ev_v 4 (j0o k6p (j0f (j0f ⟨_, _, rfl, rfl, ⟨by decide, by decide, by decide⟩, _, _, rfl, rfl, _, rfl, qq _ (fun _ => trivial) fun _ => trivial⟩)))))
 ·exact j0p (j0o j1y (ev_v 4 (j0f ⟨_, _, rfl, rfl, ⟨by decide, by decide⟩, q _ _ s2⟩)))
 refine j0i 5 nd (j0f ?_)
 refine j17 T.range (j0f ⟨60, rfl, by decide, by decide, j1v (n := 60) (fun _ σ H3 => H3 = H2 ∧ ∃ (x : Int) (u v : Option V), σ = [some (.ref a), some (.int k), some (.ref p), some (.ref p2), some (.int b), some (.int x), u, v]) ⟨rfl, 0, _, _, rfl⟩ ?_ ?_⟩)
 ·rintro i σ H3 hi ⟨rfl, x, u, v, rfl⟩
  have i9 : 0 ≤ (0 + (i : Int)) % 9 := Int.emod_nonneg _ (by decide)
  obtain ⟨m1, f1, g1, g2⟩ := q0f (i := (0 + (i : Int)) % 8) (Int.emod_nonneg _ (by decide)) (Int.emod_lt_of_pos _ (by decide))
  obtain ⟨m2, f2, g3, g4⟩ := q1e (i := (0 + (i : Int)) % 8) (Int.emod_nonneg _ (by decide)) (Int.emod_lt_of_pos _ (by decide))
  refine j0j 6 nd ?_
  refine j0i 7 nd (j0o j11 (j0o j11 (j0o j1b (j0t G hr (j0a (ev_v 0 (j0a (j0o j11 (ev_v 1 (j0o j1b (ev_v 6 (j0f ?_))))))))))))
  refine ⟨_, _, rfl, rfl, (by show (0 : Int) < 9; decide), _, _, rfl, rfl, j0g ⟨a, ns, _, rfl, s2.seq hS, ?_, fun c => ?_⟩⟩
  ·show 0 ≤ k + (0 + (i : Int)) % 9
   omega
  refine j0o k6p (j0f (j0f ⟨_, _, rfl, rfl, ⟨by decide, by decide, by decide⟩, _, _, rfl, rfl, (by show (0 : Int) < 10 ^ (18 : Int).toNat; decide), j0f ⟨_, _, rfl, rfl, ?_⟩⟩))
  refine j0o j9v (ev_v 6 (ev_v 6 ?_))
  refine ⟨_, _, rfl, rfl, .inl ⟨by omega, by omega⟩, _, _, rfl, rfl, ?_⟩
  refine j0i 5 nd (j0o j11 (j0o j9v (ev_v 5 (j0f ⟨_, _, rfl, rfl, .inr ⟨by decide, by decide⟩, ?_⟩))))
  refine j0o j1b (j0o j1b (j0o j9v (ev_v 7 (j0r j0z (ev_v 2 (j0o j1b (ev_v 6 (j0f ⟨_, _, rfl, rfl, (by show (0 : Int) < 8; decide), p, _, _, _, rfl, rfl, SqT.of e1, f1, _, _, rfl, rfl, .inr ⟨by omega, by omega⟩, ?_⟩))))))))
  refine j0r j0z (ev_v 3 (j0o j1b (ev_v 6 (j0f ⟨_, _, rfl, rfl, (by show (0 : Int) < 8; decide), p2, _, _, _, rfl, rfl, SqT.of e2, f2, _, _, rfl, rfl, g3, j0f ⟨_, _, rfl, rfl, (by show (0 : Int) < 7919; decide), _, _, rfl, rfl, ?_⟩⟩))))
  exact j0l ⟨rfl, _, _, _, rfl⟩
 ·rintro σ H3 ⟨rfl, x, u, v, rfl⟩
  exact j0p (ev_v 5 (q x _ s2))
abbrev NN : List Str := ["_law_stem", "_law_many", "_law_signs", "_law_size", "_law_spot", "_law_names_here", "_law_v", "_law_name", "_law_k", "_law_turn"]
theorem scNames : FnScope NN ["_law_stem", "_law_many"] (j0h k3t) := ⟨rfl, rfl, rfl, by decide +kernel, rfl, by decide +kernel, by decide +kernel⟩
theorem k4o {f : Addr} {fd : FuncData} (F : Fun K "_law_names" "_law_names" k3t f fd) (T : Txt mg) : FnOk P w K mg base CX0 1 f fd ["_law_stem", "_law_many"] j8q := by
 refine F.gb scNames (fun vs H Q E h => ?_) (fun b0 H vs Q E hr h => ?_)
 ·obtain ⟨b, m, rfl, _⟩ := h
  rfl
 obtain ⟨b, m, rfl, m0, m1, q⟩ := h
 have nd := scNames.nd
 have s0 : 0 ≤ b % 8 := Int.emod_nonneg _ (by decide)
 have s1 : b % 8 < 8 := Int.emod_lt_of_pos _ (by decide)
 show Run _ _ _ [some (.int b), some (.int m), none, none, none, none, none, none, none, none] H
 refine j0i 2 nd (k6g ?_)
 refine j0i 3 nd (j0o j11 (j0f (j0o j1b (ev_v 0 (j0f ⟨_, _, rfl, rfl, (by show (0 : Int) < 8; decide), _, _, rfl, rfl, ?_⟩)))))
 refine j0i 4 nd (j0o j1b (j0o j1y (ev_v 0 (j0f ⟨_, _, rfl, rfl, ⟨by decide, by decide⟩, ev_v 3 ⟨_, _, rfl, rfl, (by show 0 < 1 + b % 8; omega), ?_⟩⟩))))
 refine j0i 5 nd (j1p (j0g ⟨(by show 0 ≤ sizeLine; decide), fun l hl => ?_⟩))
 show Run _ _ _ [some (.int b), some (.int m), some (.str lets), some (.int (1 + b % 8)), some (.int (b / 8 % (1 + b % 8))), some (.ref l), none, none, none, none] _
 have spE : b / 8 % (1 + b % 8) = b / 8 % (1 + b % 8) := rfl
 refine j17 T.range (ev_v 1 ⟨m, rfl, by omega, by omega, j1v (n := m.toNat) (fun i σ H3 => H3 = upd H l (Ls (namesOf b i)) ∧ ∃ u1 u2 u3 u4, σ = [some (.int b), some (.int m), some (.str lets), some (.int (1 + b % 8)), some (.int (b / 8 % (1 + b % 8))), some (.ref l), u1, u2, u3, u4]) ⟨rfl, _, _, _, _, rfl⟩ ?_ ?_⟩)
 ·rintro i σ H3 hi ⟨rfl, u1, u2, u3, u4, rfl⟩
  refine j0j 6 nd ?_
  refine j0i 7 nd (k6g ?_)
  refine j17 T.range (ev_v 3 ⟨_, rfl, by omega, by omega, j1v (n := (1 + b % 8).toNat) (fun j σ H4 => H4 = upd H l (Ls (namesOf b i)) ∧ ∃ (u3 u4 : Option V), σ = [some (.int b), some (.int m), some (.str lets), some (.int (1 + b % 8)), some (.int (b / 8 % (1 + b % 8))), some (.ref l), some (.int (0 + (i : Int))), some (.str (nm b (b / 8 % (1 + b % 8)) i j)), u3, u4]) ⟨rfl, _, _, rfl⟩ ?_ ?_⟩)
  ·rintro j σ H4 hj ⟨rfl, v3, v4, rfl⟩
   have t0 : 0 ≤ b / 7 % 5 := Int.emod_nonneg _ (by decide)
   have t1 : b / 7 % 5 < 5 := Int.emod_lt_of_pos _ (by decide)
   have nl : (nm b (b / 8 % (1 + b % 8)) i j).length = j := by
    have := congrArg List.length (j6p b (b / 8 % (1 + b % 8)) i j)
    show (nm b (b / 8 % (1 + b % 8)) i j).cps.size = j
    simpa using this
   refine j0j 8 nd ?_
   refine j0i 9 nd (j0o j11 (j0o j1y (ev_v 0 (j0f ⟨_, _, rfl, rfl, ⟨by decide, by decide⟩, j0o j9v (ev_v 8 (j0o j1b (j0o j1y (ev_v 0 (j0f ⟨_, _, rfl, rfl, ⟨by decide, by decide⟩, j0f ⟨_, _, rfl, rfl, (by show (0 : Int) < 5; decide), ?_⟩⟩)))))⟩))))
   refine ⟨_, _, rfl, rfl, .inr ⟨by omega, by omega⟩, _, _, rfl, rfl, ?_⟩
   refine j8v ((0 + (j : Int)) = b / 8 % (1 + b % 8)) (¬ (0 + (j : Int)) = b / 8 % (1 + b % 8)) (fun σ' H' => H' = upd H l (Ls (namesOf b i)) ∧ σ' = [some (.int b), some (.int m), some (.str lets), some (.int (1 + b % 8)), some (.int (b / 8 % (1 + b % 8))), some (.ref l), some (.int (0 + (i : Int))), some (.str (nm b (b / 8 % (1 + b % 8)) i j)), some (.int (0 + (j : Int))), some (.int (turn b (b / 8 % (1 + b % 8)) i j))]) (fun R qq => ?_) (fun hc => ?_) (fun hc => j0l ⟨rfl, ?_⟩) ?_
   ·refine j1e j4i (ev_v 8 (ev_v 4 ⟨rfl, _, rfl, ?_⟩))
    by_cases hc : (0 + (j : Int)) = b / 8 % (1 + b % 8)
    ·rw [decide_eq_true (show V.int (0 + (j : Int)) = V.int (b / 8 % (1 + b % 8)) by rw [hc])]
     exact qq true (fun _ => hc) fun h => by cases h
    ·rw [decide_eq_false fun h => hc (V.int.inj h)]
     exact qq false (fun h => by cases h) fun _ => hc
   ·refine j0i 9 nd (j0o j11 (ev_v 9 (ev_v 6 ⟨_, _, rfl, rfl, j0l ⟨rfl, ?_⟩⟩)))
    have e : b / 64 + (0 + (j : Int)) * (b / 7 % 5) + (0 + (i : Int)) = turn b (b / 8 % (1 + b % 8)) i j := by
     unfold turn
     rw [if_pos (by omega), Int.zero_add, Int.zero_add]
    rw [← e]
    rfl
   ·have e : b / 64 + (0 + (j : Int)) * (b / 7 % 5) = turn b (b / 8 % (1 + b % 8)) i j := by
     unfold turn
     rw [if_neg (by omega), Int.zero_add, Int.add_zero]
    rw [← e]
    rfl
   ·rintro σ' H' ⟨rfl, rfl⟩
    refine j0i 7 nd (j0o k1b (ev_v 7 (j0r k6v (ev_v 2 (j0o j1b (ev_v 9 (j0f ⟨_, _, rfl, rfl, (by show (0 : Int) < 36; decide), lets, _, sgn (turn b (b / 8 % (1 + b % 8)) i j), rfl, rfl, by decide +kernel, k3i _, _, _, rfl, rfl, small (by show (nm b (b / 8 % (1 + b % 8)) i j).length + 1 ≤ 100000; omega), j0l ⟨rfl, _, _, rfl⟩⟩)))))))
  ·rintro σ H4 ⟨rfl, v3, v4, rfl⟩
   refine j8v (b % 3 = 2) (¬ b % 3 = 2) (fun σ' H' => H' = upd H l (Ls (namesOf b i)) ∧ σ' = [some (.int b), some (.int m), some (.str lets), some (.int (1 + b % 8)), some (.int (b / 8 % (1 + b % 8))), some (.ref l), some (.int (0 + (i : Int))), some (.str (nameOf b i)), v3, v4]) (fun R qq => ?_) (fun hc => ?_) (fun hc => j0l ⟨rfl, ?_⟩) ?_
   ·refine j1e j4i (j0o j1b (ev_v 0 (j0f ⟨_, _, rfl, rfl, (by show (0 : Int) < 3; decide), j0f ⟨rfl, _, rfl, ?_⟩⟩)))
    by_cases hc : b % 3 = 2
    ·rw [decide_eq_true (show V.int (b % 3) = V.int 2 by rw [hc])]
     exact qq true (fun _ => hc) fun h => by cases h
    ·rw [decide_eq_false fun h => hc (V.int.inj h)]
     exact qq false (fun h => by cases h) fun _ => hc
   ·have e0 : 0 ≤ (0 + (i : Int)) % 8 := Int.emod_nonneg _ (by decide)
    have e1 : (0 + (i : Int)) % 8 < 8 := Int.emod_lt_of_pos _ (by decide)
    refine j0i 7 nd (j0o k62 (j0r k6v (ev_v 2 (j0o j1b (j0o j11 (j0o j1y (ev_v 0 (j0f ⟨_, _, rfl, rfl, ⟨by decide, by decide⟩, j0o j1y (ev_v 6 (j0f ⟨_, _, rfl, rfl, ⟨by decide, by decide⟩, _, _, rfl, rfl, j0f ⟨_, _, rfl, rfl, (by show (0 : Int) < 36; decide), lets, _, sgn (b / 64 + (0 + (i : Int)) / 8), rfl, rfl, by decide +kernel, k3i _, ?_⟩⟩))⟩))))))))
    refine j0o j11 (j0f (j0o j1b (ev_v 6 (j0f ⟨_, _, rfl, rfl, (by show (0 : Int) < 8; decide), _, _, rfl, rfl, ?_⟩))))
    refine ⟨_, _, rfl, rfl, by omega, by omega, ?_, j0l ⟨rfl, ?_⟩⟩
    ·show 1 * _ ≤ _
     omega
    ·have e : Txt.mul ⟨#[sgn (b / 64 + (0 + (i : Int)) / 8)]⟩ (1 + (0 + (i : Int)) % 8) = nameOf b i := by
      unfold nameOf
      rw [if_pos hc, Int.zero_add]
     rw [← e]
     rfl
   ·have e : nm b (b / 8 % (1 + b % 8)) i (1 + b % 8).toNat = nameOf b i := by
     unfold nameOf
     rw [if_neg hc]
    rw [← e]
   ·rintro σ' H' ⟨rfl, rfl⟩
    refine j1m (j1o (ev_v 5 ⟨l, rfl, ⟨_, j0b⟩, ev_v 7 ⟨_, j0b, ?_, ?_⟩⟩))
    ·rw [List.length_map, j31]
     exact j0u (by omega)
    ·rw [j4l]
     refine j0l ⟨?_, _, _, _, _, rfl⟩
     rw [j2q]
     exact k18
 ·rintro σ H3 ⟨rfl, u1, u2, u3, u4, rfl⟩
  exact j0p (ev_v 5 (q l _ (j0e hl _) hl j0b))
end
end D4
namespace D4
open PySem L2 Nt Sort2
section
variable {P : Program} {w : World} {K : PySem.W.Frag} {mg : Str → Option Value} {base : Heap}
theorem q1z {H : Hp} {d : Addr} {kvs : List (Key × V)} (h : H d = some (.dK kvs)) : tyV K "dict" (.ref d) H := Or.inr (Or.inr (Or.inl ⟨rfl, Or.inl ⟨kvs, h⟩⟩))
abbrev NS : List Str := ["_law_rows", "_law_seats_here", "_law_r", "_law_place"]
theorem scSeats : FnScope NS ["_law_rows"] (j0h k3r) := ⟨rfl, rfl, rfl, by decide +kernel, rfl, by decide +kernel, by decide +kernel⟩
theorem k5x {f : Addr} {fd : FuncData} (F : Fun K "_law_seats" "_law_seats" k3r f fd) (T : Txt mg) : FnOk P w K mg base CX0 1 f fd ["_law_rows"] j6z := by
 refine F.gb scSeats (fun vs H Q E h => ?_) (fun b0 H vs Q E hr h => ?_)
 ·obtain ⟨R, as, n, rfl, _⟩ := h
  rfl
 obtain ⟨R, as, n, rfl, hR, hn, ht, q⟩ := h
 have nd := scSeats.nd
 have hal := hR.len
 show Run _ _ _ [some (.ref R), none, none, none] H
 refine j0i 1 nd (j6l fun d hd => ?_)
 refine j17 T.range (j06 j0m T.len boot_len (j0a (ev_v 0 (j0g ⟨R, _, rfl, .inl (SqL.of (j0e hd _ _ _ hR.lst)), _, rfl, by omega, by rw [List.length_map]; omega, ?_⟩))))
 rw [List.length_map, hal, Int.toNat_natCast]
 refine j1v (fun r σ H3 => ∃ kvs ks A u1 u2, SeatsOn H H3 d (j0w (n.take r)) kvs ks A ∧ σ = [some (.ref R), some (.ref d), u1, u2]) ⟨_, _, _, _, _, SeatsOn.start hd, rfl⟩ ?_ ?_
 ·rintro r σ H3 hi ⟨kvs, ks, A', u1, u2, S, rfl⟩
  rw [Int.zero_add]
  refine j0j 2 nd ?_
  obtain ⟨a, ea, eat, et, el, er⟩ := (hR.same S.same).at hi
  refine j17 T.range (j06 j0m T.len boot_len (j0a (j0r j0z (j0r j0x (ev_v 0 (ev_v 2 ⟨R, _, _, .ref a.1, rfl, rfl, SqL.of (S.same _ _ hR.lst), eat, j0f ⟨a.1, _, _, .ref a.2, rfl, rfl, SqT.of et, rfl, j0g ⟨a.2, _, rfl, .inl (SqL.of el), _, rfl, by omega, ?_, ?_⟩⟩⟩))))))
  ·have : (row n r).length ≤ 1000 := by
    have h1 : (row n r).length ≤ (ties n).length := by
     exact j2y n r
    omega
   rw [List.length_map]
   omega
  rw [List.length_map, Int.toNat_natCast]
  refine j1v (fun p σ H4 => ∃ kvs ks A u2, SeatsOn H H4 d (j0w (n.take r) ++ j0k r ((row n r).take p) 0) kvs ks A ∧ σ = [some (.ref R), some (.ref d), some (.int (r : Int)), u2]) ⟨kvs, ks, A', _, by simpa [j0k] using S, rfl⟩ ?_ ?_
  ·rintro p σ H4 hp ⟨kvs, ks, A', u2, S, rfl⟩
   rw [Int.zero_add]
   refine j0j 3 nd ?_
   obtain ⟨a, ea, eat, et, el, er⟩ := (hR.same S.same).at hi
   have hz : (row n r)[p]? = some (row n r)[p] := List.getElem?_eq_getElem hp
   generalize (row n r)[p] = z at hz
   have next : j0w (n.take r) ++ j0k r ((row n r).take (p + 1)) 0 = (j0w (n.take r) ++ j0k r ((row n r).take p) 0) ++ [(z, (r, p))] := by
    rw [j1l hz, List.append_assoc]
   have hlen : kvs.length < sizeLine := by
    have h1 : ks.length ≤ 1000 := by
     refine Nat.le_trans (nodup_le (b := ties n) S.nodup fun y hy => ?_) ht
     have h2 := (S.mem y).mp hy
     cases hA : A' y with
     | none => rw [hA] at h2; cases h2
     | some pr =>
      obtain ⟨a2, ts2⟩ := pr
      have h3 := S.some' y a2 ts2 hA
      unfold j1n at h3
      obtain ⟨x, hx⟩ := List.exists_mem_of_ne_nil _ h3
      obtain ⟨⟨y2, e2⟩, hm, _⟩ := List.mem_map.mp hx
      rw [List.mem_filter, decide_eq_true_eq] at hm
      obtain ⟨hm, rfl⟩ := hm
      have : (y2, e2) ∈ j0w n := by
       rcases List.mem_append.mp hm with hm | hm
       ·have q1 := mem_seats.mp hm
        refine mem_seats.mpr ?_
        have q2 := j1h q1
        unfold j0s row at q1 ⊢
        rw [List.length_take] at q2
        rwa [List.getElem?_take_of_lt (by omega)] at q1
       ·have q1 := mem_rowSeats.mp hm
        refine mem_seats.mpr ?_
        unfold j0s
        rw [q1.1]
        have q3 := q1.2.2
        rw [Nat.sub_zero] at q3
        have q4 := (List.getElem?_eq_some_iff.mp q3).1
        rw [List.length_take] at q4
        rwa [List.getElem?_take_of_lt (by omega)] at q3
      exact j2s (mem_seats.mp this)
    have h2 := congrArg List.length S.keys
    rw [List.length_map, List.length_map] at h2
    exact j0u (by omega)
   refine j1m (j1o (k71 PySem.F.plainAttrs_dict PySem.F.slot_dict_setdefault PySem.F.type_dict_setdefault k1k (ev_v 1 ⟨q1z S.dict, j0r j0x (j0r j0z (j0r j0x (ev_v 0 (ev_v 2 ⟨R, _, _, .ref a.1, rfl, rfl, SqL.of (S.same _ _ hR.lst), eat, j0f ⟨a.1, _, _, .ref a.2, rfl, rfl, SqT.of et, rfl, ev_v 3 ⟨a.2, _, _, .str z, rfl, rfl, SqL.of el, j5k hz, ?_⟩⟩⟩))))⟩)))
   refine j1p (j0g ⟨(by show 0 ≤ sizeLine; decide), fun l0 hl0 => ?_⟩)
   have hdl : d ≠ l0 := j0d S.dict hl0
   refine ⟨d, kvs, Sum.inr z, .ref l0, rfl, rfl, by rw [j0c hdl]; exact S.dict, hlen, ?_⟩
   cases hA : A' z with
   | some pr =>
    obtain ⟨a2, ts2⟩ := pr
    obtain ⟨q1, q2, q3, q4⟩ := S.at' z a2 ts2 hA
    have hla : a2 ≠ l0 := j0d q3 hl0
    refine .inl ⟨.ref a2, by rw [S.val z, hA]; rfl, a2, rfl, ⟨_, by rw [j0c hla]; exact q3⟩, ?_⟩
    refine j13 (j0a (ev_v 2 (j0a (ev_v 3 (j0g ⟨(by show 2 ≤ sizeLine; decide), fun t ht2 => ?_⟩)))))
    have hta : a2 ≠ t := fun e => by rw [← e, j0c hla, q3] at ht2; cases ht2
    refine ⟨ts2.map V.ref, by rw [j0c hta, j0c hla]; exact q3, ?_, ?_⟩
    ·rw [List.length_map, q4.length]
     have h1 : (j1n (j0w (n.take r) ++ j0k r ((row n r).take p) 0) z).length ≤ 100000 := by
      unfold j1n
      rw [List.length_map]
      refine Nat.le_trans (List.length_filter_le _ _) ?_
      rw [List.length_append]
      have h2 : (j0w (n.take r)).length ≤ 1000 := by
       have := congrArg List.length (j1d (n.take r) 0)
       rw [List.length_map] at this
       unfold j0w
       rw [this]
       exact Nat.le_trans (j4m n r) ht
      have h3 : (j0k r ((row n r).take p) 0).length ≤ 1000 := by
       unfold j0k
       rw [List.length_map, List.length_zipIdx, List.length_take]
       have h1 : (row n r).length ≤ (ties n).length := by
        exact j2y n r
       omega
      omega
     exact j0u h1
    ·refine j0l ⟨kvs, ks, (fun y => if y = z then some (a2, ts2 ++ [t]) else A' y), _, ?_, rfl⟩
     rw [next]
     exact S.old (e := (r, p)) hA hl0 ht2
   | none =>
    refine .inr ⟨by rw [S.val z, hA]; rfl, l0, rfl, ⟨_, by rw [j0c hdl.symm]; exact j0b⟩, ?_⟩
    refine j13 (j0a (ev_v 2 (j0a (ev_v 3 (j0g ⟨(by show 2 ≤ sizeLine; decide), fun t ht2 => ?_⟩)))))
    have htl : l0 ≠ t := fun e => by rw [← e, j0c hdl.symm, j0b] at ht2; cases ht2
    refine ⟨[], by rw [j0c htl, j0c hdl.symm, j0b], by show 0 < sizeLine; decide, ?_⟩
    refine j0l ⟨putK kvs (Sum.inr z) (.ref l0), ks ++ [z], (fun y => if y = z then some (l0, [t]) else A' y), _, ?_, rfl⟩
    rw [next]
    exact S.new (e := (r, p)) hA hl0 ht2
  ·rintro σ H4 ⟨kvs, ks, A', u2, S, rfl⟩
   refine j0l ⟨kvs, ks, A', _, _, ?_, rfl⟩
   rw [j2i hi]
   rwa [List.take_length] at S
 ·rintro σ H3 ⟨kvs, ks, A', u1, u2, S, rfl⟩
  rw [List.take_length] at S
  exact j0p (ev_v 1 (q d ks H3 S.same S.free S.whole))
abbrev NO : List Str := ["_law_rows", "_law_seats_here", "_law_end", "_law_pair"]
theorem scOther : FnScope NO ["_law_rows", "_law_seats_here", "_law_end"] (j0h k23) := ⟨rfl, rfl, rfl, by decide +kernel, rfl, by decide +kernel, by decide +kernel⟩
theorem k5l {f : Addr} {fd : FuncData} (F : Fun K "_law_other" "_law_other" k23 f fd) (T : Txt mg) : FnOk P w K mg base CX0 1 f fd ["_law_rows", "_law_seats_here", "_law_end"] j8u := by
 refine F.gb scOther (fun vs H Q E h => ?_) (fun b0 H vs Q E hr h => ?_)
 ·obtain ⟨R, d, t, as, n, ks, e, rfl, _⟩ := h
  rfl
 obtain ⟨R, d, t, as, n, ks, e, rfl, hR, hS, hT, ht, he, q⟩ := h
 have nd := scOther.nd
 have hu := hr.u100
 obtain ⟨z, hz⟩ := mem_ends.mp he
 have hlt := j1h hz
 obtain ⟨a, ea, eat, et, el, er⟩ := hR.at hlt
 obtain ⟨kvs, h1, h2, h3⟩ := hS.dict
 obtain ⟨pa, ts, v1, v2, v3⟩ := h3 z (j2s hz)
 obtain ⟨x, y, hp, hxy, hor⟩ := j4f hT hz
 rw [hp] at v3
 cases v3 with
 | cons x1 v3 =>
 cases v3 with
 | cons y1 v3 =>
 cases v3
 rename_i tx ty
 show Run _ _ _ [some (.ref R), some (.ref d), some (.ref t), none] H
 have hu1 := hr.u1
 refine j0i 3 nd (j07 hu1 (ev_v 1 (j0r j0x (j0r j0z (j0r j0x (ev_v 0 (j0r j0z (ev_v 2 (j0f ⟨t, _, _, .int (e.1 : Int), rfl, rfl, SqT.of ht, rfl, R, _, _, .ref a.1, rfl, rfl, SqL.of hR.lst, eat, j0f ⟨a.1, _, _, .ref a.2, rfl, rfl, SqT.of et, rfl, ?_⟩⟩)))))))))
 refine j0r j0z (ev_v 2 (j0f ⟨t, _, _, .int (e.2 : Int), rfl, rfl, SqT.of ht, rfl, a.2, _, _, .str z, rfl, rfl, SqL.of el, j5k hz, d, .ref pa, rfl, by rw [← v1]; exact DGet.k (k := Sum.inr z) h1, ?_⟩))
 show Run _ _ _ [some (.ref R), some (.ref d), some (.ref t), some (.ref pa)] H
 refine j0p (j0r j0x (ev_v 3 (j5c j5n T.tint PyProof.Rows.boot_int (j0a (j21 (k2y hu) (j0r j0x (ev_v 3 (j0f ⟨pa, _, _, .ref tx, rfl, rfl, SqL.of v2, rfl, ev_v 2 ⟨1, _, by decide, q0c x1 ht, ?_⟩⟩))))))))
 by_cases c : x = e
 ·rw [decide_eq_true c]
  refine j0g ⟨_, rfl, pa, [.ref tx, .ref ty], 1, .ref ty, rfl, rfl, SqL.of v2, rfl, q ty ?_⟩
  have e1 : other n e = y := by unfold other; simp only [hz, hp]; simp [c]
  rw [e1]
  exact y1
 ·rw [decide_eq_false c]
  refine j0g ⟨_, rfl, pa, [.ref tx, .ref ty], 0, .ref tx, rfl, rfl, SqL.of v2, rfl, q tx ?_⟩
  have e1 : other n e = x := by unfold other; simp only [hz, hp]; simp [c]
  rw [e1]
  exact x1
abbrev NT : List Str := ["_law_rows", "_law_seats_here", "_law_end", "_law_turn", "_law_other_here"]
theorem scStep : FnScope NT ["_law_rows", "_law_seats_here", "_law_end", "_law_turn"] (j0h k61) := ⟨rfl, rfl, rfl, by decide +kernel, rfl, by decide +kernel, by decide +kernel⟩
theorem k76 {f : Addr} {fd : FuncData} (F : Fun K "_law_step" "_law_step" k61 f fd) (T : Txt mg) (G : Has P w K mg base 1 "_law_other" ["_law_rows", "_law_seats_here", "_law_end"] j8u) :
  FnOk P w K mg base CX0 2 f fd ["_law_rows", "_law_seats_here", "_law_end", "_law_turn"] k1x := by
 refine F.gb scStep (fun vs H Q E h => ?_) (fun b0 H vs Q E hr h => ?_)
 ·obtain ⟨R, d, t, as, n, ks, e, rfl, _⟩ := h
  rfl
 obtain ⟨R, d, t, as, n, ks, e, rfl, hR, hS, hT, ht, he, q⟩ := h
 have nd := scStep.nd
 have ho := j1z hT he
 obtain ⟨z, hz⟩ := mem_ends.mp ho
 have hlt := j1h hz
 have hpl := j3g hz
 obtain ⟨a, ea, eat, et, el, er⟩ := hR.at hlt
 show Run _ _ _ [some (.ref R), some (.ref d), some (.ref t), some (.int 1), none] H
 refine j0i 4 nd (j0t G hr (j0a (ev_v 0 (j0a (ev_v 1 (j0a (ev_v 2 (j0g ⟨R, d, t, as, n, ks, e, rfl, hR, hS, hT, ht, he, fun u hu => ?_⟩))))))))
 show Run _ _ _ [some (.ref R), some (.ref d), some (.ref t), some (.int 1), some (.ref u)] H
 refine j0p (j13 (j0a (j0r j0z (ev_v 4 (j0f ⟨u, _, _, .int ((other n e).1 : Int), rfl, rfl, SqT.of hu, rfl, ?_⟩)))))
 refine j0a (j0o j1b (j0o j11 (j0r j0z (ev_v 4 (j0f ⟨u, _, _, .int ((other n e).2 : Int), rfl, rfl, SqT.of hu, rfl, ev_v 3 ⟨_, _, rfl, rfl, ?_⟩⟩)))))
 refine j06 j0m T.len boot_len (j0a (j0r j0z (j0r j0x (ev_v 0 (j0r j0z (ev_v 4 (j0f ⟨u, _, _, .int ((other n e).1 : Int), rfl, rfl, SqT.of hu, rfl, R, _, _, .ref a.1, rfl, rfl, SqL.of hR.lst, eat, j0f ⟨a.1, _, _, .ref a.2, rfl, rfl, SqT.of et, rfl, j0g ⟨a.2, _, rfl, .inl (SqL.of el), ?_⟩⟩⟩)))))))
 rw [List.length_map]
 refine ⟨_, _, rfl, rfl, by omega, j0g ⟨(by show 2 ≤ sizeLine; decide), fun p hp => ?_⟩⟩
 refine q p _ (j0e hp _) hp ?_
 rw [j0b]
 unfold Nt.step Nt.left
 show some (HO.tup [.int ((other n e).1 : Int), .int ((((other n e).2 : Int) + 1) % ((row n (other n e).1).length : Int))]) = some (HO.tup [.int ((other n e).1 : Int), .int ((((other n e).2 + 1) % (row n (other n e).1).length : Nat) : Int)])
 rw [Int.natCast_emod]
 rfl
abbrev NF : List Str := ["_law_rows", "_law_seats_here", "_law_end", "_law_face_here", "_law_here"]
theorem scFace : FnScope NF ["_law_rows", "_law_seats_here", "_law_end"] (j0h k6x) := ⟨rfl, rfl, rfl, by decide +kernel, rfl, by decide +kernel, by decide +kernel⟩
def orb (n : Net) (e : Nt.End) (j : Nat) : List Nt.End := (List.range j).map fun i => it (step n) i e
theorem k51 (n : Net) (e : Nt.End) (j : Nat) : orb n e (j + 1) = orb n e j ++ [it (step n) j e] := by
 unfold orb
 rw [List.range_succ, List.map_append]
 rfl
theorem k8t {f : Addr} {fd : FuncData} (F : Fun K "_law_face" "_law_face" k6x f fd) (T : Txt mg) (G : Has P w K mg base 2 "_law_step" ["_law_rows", "_law_seats_here", "_law_end", "_law_turn"] k1x) :
  FnOk P w K mg base CX0 3 f fd ["_law_rows", "_law_seats_here", "_law_end"] k3e := by
 refine F.gb scFace (fun vs H Q E h => ?_) (fun b0 H vs Q E hr h => ?_)
 ·obtain ⟨R, d, t, as, n, ks, e, rfl, _⟩ := h
  rfl
 obtain ⟨R, d, t, as, n, ks, e, rfl, hR, hS, hT, ht, he, hb, q⟩ := h
 have nd := scFace.nd
 have hu := hr.u100
 obtain ⟨k, k0, k1, k2⟩ := j4d (f := step n) (S := ends n) (fun a ha => j6u hT ha) (fun a ha b hb => k4g hT ha hb) he
 show Run _ _ _ [some (.ref R), some (.ref d), some (.ref t), none, none] H
 refine j0i 3 nd (j1p (j0a (ev_v 2 (j0g ⟨(by show 1 ≤ sizeLine; decide), fun l hl => ?_⟩))))
 have g1 := j0e hl (.lst [.ref t])
 refine j0i 4 nd (j0t G hr (j0a (ev_v 0 (j0a (ev_v 1 (j0a (ev_v 2 (j0a (j0f (j0g ⟨R, d, t, as, n, ks, e, rfl, hR.same g1, hS.same g1, hT, g1 _ _ ht, he, fun u H1 s1 nu eu => ?_⟩))))))))))
 show Run _ _ _ [some (.ref R), some (.ref d), some (.ref t), some (.ref l), some (.ref u)] H1
 refine j3d (fun m σ H2 => ∃ (j : Nat) (ts : List Addr) (u : Addr), m = k - j ∧ 0 < j ∧ j ≤ k ∧ Same H H2 ∧ H2 l = some (.lst (ts.map V.ref)) ∧ Pd H2 ts (orb n e j) ∧ H2 u = some (Tp (it (step n) j e)) ∧ (∀ i, 0 < i → i < j → it (step n) i e ≠ e) ∧ σ = [some (.ref R), some (.ref d), some (.ref t), some (.ref l), some (.ref u)])
  (m0 := k - 1) ⟨1, [t], u, rfl, Nat.one_pos, k0, g1.trans s1, s1 _ _ j0b, .cons (s1 _ _ (g1 _ _ ht)) .nil, eu, fun i h1 h2 => by omega, rfl⟩ ?_
 rintro m σ H2 ⟨j, ts, u, rfl, j0, j1, sH, el, ep, eu, hf, rfl⟩
 refine j1e (j7o hu) (ev_v 4 (ev_v 2 ⟨1, _, by decide, k92 eu (sH _ _ ht), _, rfl, ?_⟩))
 have pl := ep.length
 have ol : (orb n e j).length = j := by unfold orb; simp
 by_cases c : it (step n) j e = e
 ·rw [decide_eq_true c]
  refine iteF (j0p (ev_v 3 (q l ts (orb n e j) H2 sH hl el ep ⟨by omega, by omega, fun i hi => ?_, by rw [ol]; exact c, fun i h1 h2 => hf i h1 (by omega)⟩)))
  unfold orb
  rw [List.getElem?_map, List.getElem?_range (by omega)]
  rfl
 ·rw [decide_eq_false c]
  have jk : j < k := by
   rcases Nat.lt_or_ge j k with h | h
   ·exact h
   ·have : j = k := by omega
    subst this
    exact absurd k2 c
  refine iteT (j1m (j1o (ev_v 3 ⟨l, rfl, ⟨_, el⟩, ev_v 4 ⟨_, el, by rw [List.length_map]; exact j0u (by omega), ?_⟩⟩)))
  have s2 : Same H (upd H2 l (.lst (ts.map V.ref ++ [.ref u]))) := j01 sH hl
  have kt : ∀ b f, H2 b = some (Tp f) → (upd H2 l (.lst (ts.map V.ref ++ [.ref u]))) b = some (Tp f) := fun b f h => by
   rw [j0c (j24 h el)]
   exact h
  have eu2 := kt u _ eu
  refine j0i 4 nd (j0t G hr (j0a (ev_v 0 (j0a (ev_v 1 (j0a (ev_v 4 (j0a (j0f (j0g ⟨R, d, u, as, n, ks, it (step n) j e, rfl, hR.same s2, hS.same s2, hT, eu2, j4r (fun a ha => j6u hT ha) he j, fun v H3 s3 nv ev => ?_⟩))))))))))
  refine j0l ⟨k - (j + 1), by omega, j + 1, ts ++ [u], v, rfl, Nat.succ_pos _, jk, s2.trans s3, ?_, ?_, ev, fun i h1 h2 => ?_, rfl⟩
  ·rw [List.map_append]
   exact s3 _ _ j0b
  ·rw [k51]
   exact (ep.keep fun b f h => s3 _ _ (kt b f h)).append (.cons (s3 _ _ eu2) .nil)
  ·rcases Nat.lt_succ_iff_lt_or_eq.mp h2 with h | h
   ·exact hf i h1 h
   ·rw [h]; exact c
end
end D4
namespace Nt
open PySem L2
def Full (n : Net) : Prop := (∃ nm, n = [(nm, [])]) ∨ (n ≠ [] ∧ ∀ i, i < n.length → row n i ≠ [])
def j22 (n : Net) (c : End) : Prop := c.1 < n.length ∧ c.2 < max 1 (row n c.1).length
def ins (n : Net) (c : End) (z : Str) : Net := n.modify c.1 fun r => (r.1, r.2.take c.2 ++ z :: r.2.drop c.2)
theorem j9d (n : Net) (c : End) (z : Str) : (ins n c z).length = n.length := by unfold ins; rw [List.length_modify]
theorem j44 (n : Net) (c : End) (z : Str) : (ins n c z).map (·.1) = n.map (·.1) := by
 unfold ins
 refine List.ext_getElem? fun i => ?_
 rw [List.getElem?_map, List.getElem?_map, List.getElem?_modify]
 cases n[i]? with
 | none => rfl
 | some r => by_cases h : c.1 = i <;> simp [h]
theorem k2t (n : Net) (c : End) (z : Str) (i : Nat) (hc : c.1 < n.length) : row (ins n c z) i = if c.1 = i then (row n i).take c.2 ++ z :: (row n i).drop c.2 else row n i := by
 unfold row ins
 rw [List.getElem?_modify]
 by_cases h : c.1 = i
 ·subst h
  rw [List.getElem?_eq_getElem hc]
  simp
 ·rw [if_neg h]
  cases n[i]? with
  | none => simp [h]
  | some r => simp [h]
theorem j32 : ∀ (n : Net) (c : End) (z : Str), c.1 < n.length → (ties (ins n c z)).Perm (z :: ties n)
 | [], c, z, h => by simp at h
 | a :: n, (0, p), z, h => by
  unfold ins ties
  simp only [List.modify_zero_cons, List.flatMap_cons]
  have : (a.2.take p ++ z :: a.2.drop p).Perm (z :: a.2) := by
   refine List.perm_middle.trans ?_
   rw [List.take_append_drop]
  exact this.append_right _
 | a :: n, (i + 1, p), z, h => by
  have ih := j32 n (i, p) z (by simpa using h)
  unfold ins ties at ih ⊢
  simp only [List.modify_succ_cons, List.flatMap_cons]
  refine (ih.append_left a.2).trans ?_
  exact List.perm_middle
theorem j6k {n : Net} {c : End} {z : Str} (F : Full n) (hc : c.1 < n.length) : n.length = 1 ∨ (∀ i, i < n.length → row n i ≠ []) → (∀ i, i < (ins n c z).length → row (ins n c z) i ≠ []) ∧ ins n c z ≠ [] := by
 intro h
 have hl := j9d n c z
 refine ⟨fun i hi => ?_, fun e => ?_⟩
 ·rw [k2t n c z i hc]
  by_cases q : c.1 = i
  ·rw [if_pos q]; simp
  ·rw [if_neg q]
   rcases h with h | h
   ·rw [hl] at hi
    omega
   ·exact h i (by omega)
 ·rw [e] at hl
  simp at hl
  omega
theorem Full.some {n : Net} (F : Full n) : n ≠ [] := by
 rcases F with ⟨nm, rfl⟩ | h
 ·simp
 ·exact h.1
theorem Full.either {n : Net} (F : Full n) : n.length = 1 ∨ (∀ i, i < n.length → row n i ≠ []) := by
 rcases F with ⟨nm, rfl⟩ | h
 ·exact .inl rfl
 ·exact .inr h.2
theorem Full.corner {n : Net} (F : Full n) (h0 : row n 0 ≠ []) {c : End} (hc : j22 n c) : c ∈ ends n := by
 rcases F with ⟨nm, rfl⟩ | h
 ·exact absurd rfl h0
 ·have := h.2 c.1 hc.1
  have hp : 0 < (row n c.1).length := List.length_pos_iff.mpr this
  have hlt : c.2 < (row n c.1).length := by
   have := hc.2
   omega
  exact mem_ends.mpr (k31 hlt)
theorem k20 {n : Net} {e : End} (h : e ∈ ends n) : j22 n e := by
 obtain ⟨z, h⟩ := mem_ends.mp h
 have := j3g h
 exact ⟨j1h h, by omega⟩
def Keep (H H' : Hp) (bad : List Addr) : Prop := ∀ b o, H b = some o → b ∉ bad → H' b = some o
theorem k6m (zs : List Str) (i : Nat) (z : Str) : insertAt (zs.map V.str) i (.str z) = (zs.take i ++ z :: zs.drop i).map V.str := by
 unfold insertAt
 rw [List.map_append, List.map_cons, List.map_take, List.map_drop]
theorem RowsAt.ins {H : Hp} {R : Addr} {as : List (Addr × Addr)} {n : Net} (h : RowsAt H R as n) {c : End} {z : Str} {a : Addr × Addr} (ha : as[c.1]? = some a) (hc : c.1 < n.length) :
  RowsAt (upd H a.2 (Ls ((row n c.1).take c.2 ++ z :: (row n c.1).drop c.2))) R as (Nt.ins n c z) := by
 have q0 := h.tup c.1 a n[c.1] ha (List.getElem?_eq_getElem hc)
 have hRa : R ≠ a.2 := by
  intro e
  have h1 := h.lst
  rw [e, q0.2] at h1
  have h2 := HO.lst.inj (Option.some.inj h1)
  have h3 := congrArg List.length h2
  cases hm : n[c.1].2 with
  | nil =>
   rw [hm] at h2
   have : as.map (fun a => V.ref a.1) = [] := h2.symm
   have hl := congrArg List.length this
   rw [List.length_map, h.len] at hl
   rw [hl] at hc
   exact absurd hc (Nat.not_lt_zero _)
  | cons y r =>
   rw [hm] at h2
   cases as with
   | nil => simp at h2
   | cons b bs =>
    simp at h2
 have er : row n c.1 = n[c.1].2 := by unfold row; rw [List.getElem?_eq_getElem hc]; rfl
 refine ⟨by rw [j9d]; exact h.len, by rw [j0c hRa]; exact h.lst, fun i b r hb hr => ?_, h.inj⟩
 unfold Nt.ins at hr
 rw [List.getElem?_modify] at hr
 cases hn : n[i]? with
 | none => rw [hn] at hr; by_cases q : c.1 = i <;> simp [q] at hr
 | some r0 =>
  rw [hn] at hr
  have q1 := h.tup i b r0 hb hn
  have t1 : b.1 ≠ a.2 := j1j q1.1 q0.2 fun e => nomatch e
  by_cases q : c.1 = i
  ·subst q
   rw [List.getElem?_eq_getElem hc] at hn
   cases hn
   rw [ha] at hb
   cases hb
   simp at hr
   subst hr
   refine ⟨by rw [j0c t1]; exact q1.1, ?_⟩
   rw [j0b, er]
  ·simp [q] at hr
   subst hr
   have t2 : b.2 ≠ a.2 := fun e => by
    have l1 : i < as.length := (List.getElem?_eq_some_iff.mp hb).1
    have l2 : c.1 < as.length := (List.getElem?_eq_some_iff.mp ha).1
    have x1 : (as.map (·.2))[i]? = some b.2 := by rw [List.getElem?_map, hb]; rfl
    have x2 : (as.map (·.2))[c.1]? = some a.2 := by rw [List.getElem?_map, ha]; rfl
    obtain ⟨y1, z1⟩ := List.getElem?_eq_some_iff.mp x1
    obtain ⟨y2, z2⟩ := List.getElem?_eq_some_iff.mp x2
    exact q ((List.getElem_inj (h₀ := y2) (h₁ := y1) h.inj).mp (z2.trans (e.symm.trans z1.symm)))
   exact ⟨by rw [j0c t1]; exact q1.1, by rw [j0c t2]; exact q1.2⟩
theorem RowsAt.more {H : Hp} {R t l : Addr} {as : List (Addr × Addr)} {n : Net} {pt : Str} {zs : List Str} (h : RowsAt H R as n) (ht : H t = some (.tup [.str pt, .ref l])) (hl : H l = some (Ls zs)) (hn : l ∉ as.map (·.2)) (hR : l ≠ R) :
  RowsAt (upd H R (.lst (as.map (fun a => V.ref a.1) ++ [.ref t]))) R (as ++ [(t, l)]) (n ++ [(pt, zs)]) := by
 have hal := h.len
 refine ⟨by rw [List.length_append, List.length_append, hal]; rfl, by rw [j0b, List.map_append]; rfl, fun i b r hb hr => ?_, ?_⟩
 ·rcases Nat.lt_or_ge i as.length with c | c
  ·rw [List.getElem?_append_left c] at hb
   rw [List.getElem?_append_left (by omega)] at hr
   have q := h.tup i b r hb hr
   have t1 : b.1 ≠ R := j1j q.1 h.lst fun e => nomatch e
   have t2 : b.2 ≠ R := by
    intro e
    have h1 := h.lst
    rw [← e, q.2] at h1
    have h2 := HO.lst.inj (Option.some.inj h1)
    cases as with
    | nil => simp at c
    | cons b' bs =>
     cases hm : r.2 with
     | nil => rw [hm] at h2; simp at h2
     | cons y r => rw [hm] at h2; simp at h2
   exact ⟨by rw [j0c t1]; exact q.1, by rw [j0c t2]; exact q.2⟩
  ·have e : i = as.length := by
    have := (List.getElem?_eq_some_iff.mp hb).1
    rw [List.length_append] at this
    simp at this
    omega
   subst e
   rw [List.getElem?_append_right (Nat.le_refl _)] at hb
   rw [hal, List.getElem?_append_right (Nat.le_refl _)] at hr
   simp at hb hr
   subst hb hr
   have t1 : t ≠ R := j1j ht h.lst fun e => nomatch e
   exact ⟨by rw [j0c t1]; exact ht, by rw [j0c hR]; exact hl⟩
 ·rw [List.map_append, List.nodup_append]
  exact ⟨h.inj, by simp, fun x hx y hy e => by simp at hy; subst hy e; exact hn hx⟩
theorem RowsAt.lists {H : Hp} {R : Addr} {as : List (Addr × Addr)} {n : Net} (h : RowsAt H R as n) {x : Addr × Addr} (hx : x ∈ as) : ∃ zs, H x.2 = some (Ls zs) := by
 obtain ⟨i, hi, e⟩ := List.mem_iff_getElem.mp hx
 have hl := h.len
 exact ⟨_, (h.tup i x (n[i]'(by omega)) (by rw [← e]; exact List.getElem?_eq_getElem hi) (List.getElem?_eq_getElem (by omega))).2⟩
theorem RowsAt.fresh {H : Hp} {R l : Addr} {as : List (Addr × Addr)} {n : Net} (h : RowsAt H R as n) (hl : H l = none) {x : Addr × Addr} (hx : x ∈ as) : l ≠ x.2 := by
 obtain ⟨zs, e⟩ := h.lists hx
 exact (j0d e hl).symm
theorem j4x (n : Net) : (ends n).length = (ties n).length := by
 unfold ends j0w
 rw [List.length_map, ← j1d n 0, List.length_map]
theorem IsFace.ends {n : Net} (T : j02 n) {e : End} {fs : List End} (h : IsFace n e fs) (he : e ∈ ends n) : ∀ c ∈ fs, c ∈ Nt.ends n := by
 intro c hc
 obtain ⟨i, hi, e2⟩ := List.mem_iff_getElem.mp hc
 have := h.at' i hi
 rw [List.getElem?_eq_getElem hi, e2] at this
 rw [Option.some.inj this]
 exact j4r (fun a ha => j6u T ha) he i
theorem j4k {n : Net} {c k : End} {z : Str} (hc : j22 n c) (hk : k.1 < n.length) : j22 (ins n k z) c := by
 refine ⟨by rw [j9d]; exact hc.1, ?_⟩
 rw [k2t n k z c.1 hk]
 have := hc.2
 split
 ·rw [List.length_append, List.length_cons, List.length_take, List.length_drop]
  omega
 ·exact this
end Nt
namespace Nt
open PySem L2
def dbl (zs : List Str) : List Str := zs.flatMap fun z => [z, z]
theorem j5o (y : Str) : ∀ zs : List Str, (dbl zs).count y = 2 * zs.count y
 | [] => rfl
 | z :: r => by
  unfold dbl
  rw [List.flatMap_cons]
  have ih := j5o y r
  unfold dbl at ih
  rw [List.count_append, ih, List.count_cons, List.count_cons, List.count_cons, List.count_nil]
  omega
theorem dbl_mem {y : Str} {zs : List Str} : y ∈ dbl zs ↔ y ∈ zs := by
 rw [← List.count_pos_iff, j5o, ← List.count_pos_iff]
 omega
theorem j81 : ∀ zs : List Str, (dbl zs).length = 2 * zs.length
 | [] => rfl
 | z :: r => by
  unfold dbl
  rw [List.flatMap_cons, List.length_append]
  have ih := j81 r
  unfold dbl at ih
  rw [ih, List.length_cons]
  simp
  omega
theorem k52 (zs : List Str) (z : Str) : dbl (zs ++ [z]) = dbl zs ++ [z, z] := by
 unfold dbl
 rw [List.flatMap_append]
 rfl
theorem j9f {n : Net} {zs : List Str} (hn : zs.Nodup) (p : (ties n).Perm (dbl zs)) : j02 n := fun z hz => by
 rw [p.count_eq, j5o]
 have h1 : z ∈ zs := dbl_mem.mp (p.mem_iff.mp hz)
 rw [hn.count, if_pos h1]
def NE (n : Net) : Prop := ∀ r ∈ n, r.2 ≠ []
theorem j3r {n : Net} {i : Nat} (h : i < n.length) : row n i = n[i].2 := by unfold row; rw [List.getElem?_eq_getElem h]; rfl
theorem k7f {n : Net} (h : NE n) (h0 : n ≠ []) : Full n := .inr ⟨h0, fun i hi => by rw [j3r hi]; exact h _ (List.getElem_mem hi)⟩
theorem Full.ne {n : Net} (h : Full n) : (∃ nm, n = [(nm, [])]) ∨ NE n := by
 rcases h with h | ⟨_, h⟩
 ·exact .inl h
 ·refine .inr fun r hr => ?_
  obtain ⟨i, hi, rfl⟩ := List.mem_iff_getElem.mp hr
  have := h i hi
  rwa [j3r hi] at this
theorem j5z : ∀ (n : Net) (k : Nat) (h : k < n.length), (ties n).Perm (n[k].2 ++ ties (n.eraseIdx k))
 | [], k, h => by simp at h
 | a :: n, 0, h => by unfold ties; simp
 | a :: n, k + 1, h => by
  have ih := j5z n k (by simpa using h)
  unfold ties at ih ⊢
  simp only [List.flatMap_cons, List.getElem_cons_succ, List.eraseIdx_cons_succ]
  refine (ih.append_left a.2).trans ?_
  rw [← List.append_assoc, ← List.append_assoc]
  exact List.perm_append_comm.append_right _
theorem j8o (n : Net) (k : Nat) (h : k < n.length) : (n.map (·.1)).Perm (n[k].1 :: (n.eraseIdx k).map (·.1)) := by
 have := (SetT.pick_perm n k h).map (·.1)
 exact this.symm
theorem j6i (zs : List Str) (i : Nat) : (zs.drop i ++ zs.take i).Perm zs := by
 refine List.perm_append_comm.trans ?_
 rw [List.take_append_drop]
theorem RowsAt.upd {H : Hp} {R x : Addr} {as : List (Addr × Addr)} {n : Net} (h : RowsAt H R as n) {xs : List V} {o : HO} (hx : H x = some (.lst xs)) (hR : R ≠ x) (ha : ∀ a ∈ as, a.2 ≠ x) : RowsAt (upd H x o) R as n := by
 refine ⟨h.len, by rw [j0c hR]; exact h.lst, fun i a r h1 h2 => ?_, h.inj⟩
 have q := h.tup i a r h1 h2
 exact ⟨by rw [j0c (j1j q.1 hx fun e => nomatch e)]; exact q.1, by rw [j0c (ha a (List.mem_of_getElem? h1))]; exact q.2⟩
theorem j6o {α : Type} (l : List α) (k i : Nat) : (l.eraseIdx k)[i]? = if i < k then l[i]? else l[i + 1]? := by
 rw [List.getElem?_eraseIdx]
theorem RowsAt.erase {H : Hp} {R : Addr} {as : List (Addr × Addr)} {n : Net} (h : RowsAt H R as n) {k : Nat} (hk : k < n.length) :
  RowsAt (L2.upd H R (.lst ((as.map fun a => V.ref a.1).eraseIdx k))) R (as.eraseIdx k) (n.eraseIdx k) := by
 have hl := h.len
 refine ⟨by rw [List.length_eraseIdx, List.length_eraseIdx, hl], ?_, fun i a r h1 h2 => ?_, ?_⟩
 ·rw [j0b]
  congr 2
  refine List.ext_getElem? fun i => ?_
  rw [j6o, List.getElem?_map, List.getElem?_map, List.getElem?_map, j6o]
  split <;> rfl
 ·rw [j6o] at h1 h2
  have q : H a.1 = some (.tup [.str r.1, .ref a.2]) ∧ H a.2 = some (Ls r.2) := by
   by_cases c : i < k
   ·rw [if_pos c] at h1 h2
    exact h.tup i a r h1 h2
   ·rw [if_neg c] at h1 h2
    exact h.tup (i + 1) a r h1 h2
  have t2 : a.2 ≠ R := by
   intro e
   have h3 := h.lst
   rw [← e, q.2] at h3
   have h4 := HO.lst.inj (Option.some.inj h3)
   cases as with
   | nil => simp at hl; simp [← hl] at hk
   | cons b bs =>
    cases hm : r.2 with
    | nil => rw [hm] at h4; simp at h4
    | cons y r => rw [hm] at h4; simp at h4
  exact ⟨by rw [j0c (j1j q.1 h.lst fun e => nomatch e)]; exact q.1, by rw [j0c t2]; exact q.2⟩
 ·have : ((as.eraseIdx k).map (·.2)).Sublist (as.map (·.2)) := (List.eraseIdx_sublist as k).map _
  exact h.inj.sublist this
theorem j9t (zs : List Str) (i : Nat) : cutV (zs.map V.str) (some (i : Int)) none = (zs.drop i).map V.str := by
 unfold cutV
 rw [HT.sIx_nat, HT.sIx_none, List.length_map]
 rw [List.take_of_length_le (by rw [List.length_drop, List.length_map]; omega), List.map_drop]
 rcases Nat.le_total i zs.length with h | h
 ·rw [Nat.min_eq_left h]
 ·rw [Nat.min_eq_right h, List.drop_of_length_le (by simp), List.drop_of_length_le (by simpa using h)]
theorem k6e (zs : List Str) (i : Nat) : cutV (zs.map V.str) none (some (i : Int)) = (zs.take i).map V.str := by
 unfold cutV
 rw [HT.sIx_nat, HT.sIx_none, List.length_map, List.drop_zero, Nat.sub_zero, List.map_take]
 rcases Nat.le_total i zs.length with h | h
 ·rw [Nat.min_eq_left h]
 ·rw [Nat.min_eq_right h, List.take_of_length_le (by simp), List.take_of_length_le (by simpa using h)]
end Nt
namespace Nt
open PySem L2
def nmA (n : Net) (r : Nat) : Str := ((n[r]?).map (·.1)).getD ⟨#[]⟩
theorem j2x {n : Net} {r : Nat} (h : r < n.length) : nmA n r = n[r].1 := by unfold nmA; rw [List.getElem?_eq_getElem h]; rfl
abbrev Lk := Str × Str × Str
def j4n (n : Net) (x : Lk) : Prop := ∃ a b, pos n x.1 = [a, b] ∧ x.2.1 = nmA n a.1 ∧ x.2.2 = nmA n b.1
structure LkI (n : Net) (done : List (Str × End)) (kM : List (Key × V)) (ls : List Lk) : Prop where
 m0 : ∀ z, j1n done z = [] → valV kM (Sum.inr z) = none
 m1 : ∀ z a rest, j1n done z = a :: rest → valV kM (Sum.inr z) = some (.str (nmA n a.1))
 mem : ∀ x : Lk, x ∈ ls ↔ ∃ a b rest, j1n done x.1 = a :: b :: rest ∧ x.2.1 = nmA n a.1 ∧ x.2.2 = nmA n b.1
 nod : (ls.map (·.1)).Nodup
 lenM : kM.length ≤ done.length
 lenL : ls.length ≤ done.length
theorem LkI.start (n : Net) : LkI n [] [] [] := ⟨fun _ _ => rfl, fun z a rest h => (by cases h), fun x => ⟨fun h => (by cases h), fun ⟨a, b, rest, h, _⟩ => (by cases h)⟩, List.nodup_nil, Nat.le_refl _, Nat.le_refl _⟩
theorem LkI.new {n : Net} {done : List (Str × End)} {kM : List (Key × V)} {ls : List Lk} (I : LkI n done kM ls) {z : Str} {e : End} (h0 : j1n done z = []) : LkI n (done ++ [(z, e)]) (putK kM (Sum.inr z) (.str (nmA n e.1))) ls := by
 refine ⟨fun y hy => ?_, fun y a rest hy => ?_, fun x => ?_, I.nod, ?_, ?_⟩
 ·rw [j0n] at hy
  obtain ⟨h1, h2⟩ := List.append_eq_nil_iff.mp hy
  have hne : ¬ z = y := fun q => by rw [if_pos q] at h2; cases h2
  rw [j0q, if_neg (fun q => hne (Sum.inr.inj q).symm)]
  exact I.m0 y h1
 ·rw [j0n] at hy
  by_cases q : z = y
  ·subst q
   rw [h0, if_pos rfl] at hy
   cases hy
   rw [j0q, if_pos rfl]
  ·rw [if_neg q, List.append_nil] at hy
   rw [j0q, if_neg (fun p => q (Sum.inr.inj p).symm)]
   exact I.m1 y a rest hy
 ·rw [I.mem x]
  by_cases q : z = x.1
  ·constructor
   ·rintro ⟨a, b, rest, h, _⟩
    rw [← q, h0] at h
    cases h
   ·rintro ⟨a, b, rest, h, _⟩
    rw [j0n, ← q, h0, if_pos rfl] at h
    cases h
  ·constructor
   ·rintro ⟨a, b, rest, h, r⟩
    exact ⟨a, b, rest, by rw [j0n, if_neg q, List.append_nil]; exact h, r⟩
   ·rintro ⟨a, b, rest, h, r⟩
    rw [j0n, if_neg q, List.append_nil] at h
    exact ⟨a, b, rest, h, r⟩
 ·have := j0y kM (Sum.inr z) (.str (nmA n e.1))
  have := I.lenM
  rw [List.length_append, List.length_singleton]
  omega
 ·have := I.lenL
  rw [List.length_append, List.length_singleton]
  omega
theorem LkI.old {n : Net} {done : List (Str × End)} {kM : List (Key × V)} {ls : List Lk} (I : LkI n done kM ls) {z : Str} {a e : End} (h1 : j1n done z = [a]) : LkI n (done ++ [(z, e)]) kM (ls ++ [(z, nmA n a.1, nmA n e.1)]) := by
 have hz : j1n (done ++ [(z, e)]) z = [a, e] := by rw [j0n, h1, if_pos rfl]; rfl
 have hnz : z ∉ ls.map (·.1) := fun h => by
  obtain ⟨x, hx, ex⟩ := List.mem_map.mp h
  obtain ⟨b, c, rest, hp, _⟩ := (I.mem x).mp hx
  have ex : x.1 = z := ex
  rw [ex, h1] at hp
  cases hp
 refine ⟨fun y hy => ?_, fun y b rest hy => ?_, fun x => ?_, ?_, ?_, ?_⟩
 ·rw [j0n] at hy
  exact I.m0 y (List.append_eq_nil_iff.mp hy).1
 ·by_cases q : z = y
  ·subst q
   rw [hz] at hy
   cases hy
   exact I.m1 z a [] h1
  ·rw [j0n, if_neg q, List.append_nil] at hy
   exact I.m1 y b rest hy
 ·rw [List.mem_append, List.mem_singleton, I.mem x]
  by_cases q : z = x.1
  ·constructor
   ·rintro (⟨b, c, rest, h, _⟩ | h)
    ·rw [← q, h1] at h
     cases h
    ·subst h
     exact ⟨a, e, [], hz, rfl, rfl⟩
   ·rintro ⟨b, c, rest, h, r1, r2⟩
    rw [← q, hz] at h
    cases h
    obtain ⟨x1, x2, x3⟩ := x
    have q : z = x1 := q
    have r1 : x2 = nmA n a.1 := r1
    have r2 : x3 = nmA n e.1 := r2
    subst q r1 r2
    exact .inr rfl
  ·constructor
   ·rintro (⟨b, c, rest, h, r⟩ | h)
    ·exact ⟨b, c, rest, by rw [j0n, if_neg q, List.append_nil]; exact h, r⟩
    ·subst h
     exact absurd rfl q
   ·rintro ⟨b, c, rest, h, r⟩
    rw [j0n, if_neg q, List.append_nil] at h
    exact .inl ⟨b, c, rest, h, r⟩
 ·rw [List.map_append]
  exact j23 I.nod hnz
 ·have := I.lenM
  rw [List.length_append, List.length_singleton]
  omega
 ·have := I.lenL
  rw [List.length_append, List.length_append]
  show _ + 1 ≤ _ + 1
  omega
theorem LkI.whole {n : Net} (T : j02 n) {kM : List (Key × V)} {ls : List Lk} (I : LkI n (j0w n) kM ls) (x : Lk) : x ∈ ls ↔ j4n n x := by
 rw [I.mem x]
 constructor
 ·rintro ⟨a, b, rest, h, r⟩
  have hp : pos n x.1 = a :: b :: rest := h
  have ha : j0s n a = some x.1 := mem_pos.mp (by rw [hp]; exact List.mem_cons_self ..)
  have hl := j5r n x.1
  rw [hp, T x.1 (j2s ha)] at hl
  have : rest = [] := by
   have : rest.length + 1 + 1 = 2 := hl
   exact List.length_eq_zero_iff.mp (by omega)
  rw [this] at hp
  exact ⟨a, b, hp, r⟩
 ·rintro ⟨a, b, h, r⟩
  exact ⟨a, b, [], h, r⟩
inductive Way (ls : List (Str × Str × Bool)) (f : Str) : Str → Bool → Prop where
 | here : Way ls f f false
 | there {x y : Str} {b o : Bool} : Way ls f x b → (x, y, o) ∈ ls → Way ls f y (b != o)
 | back {x y : Str} {b o : Bool} : Way ls f x b → (y, x, o) ∈ ls → Way ls f y (b != o)
end Nt
namespace L2
open PySem PySem.Spec PyProof.Rows
theorem k9f {P : Program} {w : World} {k : Key} {u : Value} (h : (j03 P w).is k u = true) : RelV (kV k) u := by
 rcases j1c h with ⟨i, t, rfl, rfl⟩ | ⟨x, t, rfl, rfl⟩ <;> exact ⟨t, rfl⟩
section
variable {X : Cx} {pins : List (Addr × Obj)} {σ : St} {H : Hp} {s : Shared}
theorem j57 {d : Addr} {kvs : List (Key × V)} (I : Inv X pins σ H s) (e : H d = some (.dK kvs)) : ∃ o, s.heap.get? d = some o ∧ Inv X pins σ (upd H d (.frz o (.dK kvs))) s := by
 obtain ⟨z, hd, vs, rel, dd⟩ := k1i I.hok e
 obtain ⟨o, es, ep, ho, rest⟩ := id dd
 refine ⟨o, ho, ?_⟩
 exact j3a (t' := s.toks) I (by rw [e]; exact True.intro) ⟨rfl, fun _ _ => rfl⟩ ⟨o, ho⟩ (show ObjOk X.prog X.w _ s.heap d (.frz o (.dK kvs)) from ⟨ho, z, hd, vs, rel, dd⟩)
def Itk (d : Addr) (o : Obj) (kvs : List (Key × V)) : It :=
 ⟨fun i H => H d = some (.frz o (.dK kvs)) ∧ i < kvs.length, fun i H x H' => H' = H ∧ ∃ p, kvs[i]? = some p ∧ x = kV p.1, fun i H => H d = some (.frz o (.dK kvs)) ∧ kvs.length ≤ i⟩
theorem k6j {P : Program} {w : World} {h : Heap} {d : Addr} {o : Obj} {es : Array DictEntry} {ep : Nat} {kvs : List (Key × V)} (hok : HOk P w H h) (e : H d = some (.frz o (.dK kvs))) (hd : o.data = .dict es ep) : ∃ vs, KV kvs vs ∧ h.DictAt (j03 P w) d vs ep := by
 obtain ⟨ho, z, _, vs, rel, dd⟩ := (show ObjOk P w H h d (.frz o (.dK kvs)) from hok d _ e)
 obtain ⟨ep', o', es', ho', r1, r2, r3⟩ := dd.dictAt
 have : o = o' := Option.some.inj (ho.symm.trans ho')
 subst this
 rw [hd] at r2
 injection r2 with e1 e2
 subst e1
 subst e2
 exact ⟨vs, rel, o, es, ho', r1, hd, r3⟩
theorem j7e {P : Program} {w : World} {K : PySem.W.Frag} {tg : Expr} (d it : Addr) (o : Obj) (es : Array DictEntry) (ep : Nat) (kvs : List (Key × V)) (hod : o.data = .dict es ep) : Turn P w K tg (Itk d o kvs) [it] it (fun i h => h.IsKeyIter it d i kvs.length ep) where
 mem := by simp
 obj := fun i h st b hb => by
  have e : b = it := by simpa using hb
  subst e
  obtain ⟨o, e, c, d⟩ := st
  exact ⟨o, e, fun v z => by rw [d] at z; cases z⟩
 keep := fun i h h' st k => let ⟨o, ho, r⟩ := st; ⟨o, k it (by simp) o ho, r⟩
 item := by
  intro X hP hw hK hc i pins s σ H E I hf st hg
  subst hP hw hK
  obtain ⟨f0, f1, f2, f3, f4, f5⟩ := hf it (by simp)
  obtain ⟨hd, hi⟩ := hg
  obtain ⟨vs, rel, da⟩ := k6j I.hok hd hod
  have hl := rel.length
  have hi' : i < vs.length := by omega
  have hx : vs[i]? = some vs[i] := List.getElem?_eq_getElem hi'
  rw [hl] at st
  refine wpAny_pyNext_dict_item (k := vs[i].1) (v := vs[i].2) st da hx fun key h' hk st' hs' => ?_
  have I1 : Inv X pins σ H { s with heap := h' } := I.turned (t' := s.toks) (fun b o hb e => hs'.extBut b o hb e) f0 f1 f3 f4 f5
  obtain ⟨o2, e2, c2, d2⟩ := id st'
  refine ⟨_, rfl, k4a (s := { s with heap := h' }) e2 c2 d2 (by decide) ⟨kV vs[i].1, H, I1, k9f hk, ⟨rfl, kvs[i], List.getElem?_eq_getElem hi, ?_⟩, by rw [hl]; exact st', fun b hb => (hf b hb).1⟩⟩
  have ek := rel.keys
  have e3 : (kvs.map (·.1))[i]? = (vs.map (·.1))[i]? := by rw [ek]
  rw [List.getElem?_map, List.getElem?_map, List.getElem?_eq_getElem hi, hx] at e3
  have e4 : kvs[i].1 = vs[i].1 := Option.some.inj e3
  rw [e4]
 done := by
  intro X hP hw hK hc i pins s σ H E I hf st hg
  subst hP hw hK
  obtain ⟨f0, f1, f2, f3, f4, f5⟩ := hf it (by simp)
  obtain ⟨hd, hi⟩ := hg
  obtain ⟨vs, rel, da⟩ := k6j I.hok hd hod
  have hl := rel.length
  rw [hl] at st
  exact wpAny_pyNext_dict_end (I.ok.hd hc) st da (by rw [List.getElem?_eq_none]; omega) fun h' eb => ⟨rfl, I.turned (t' := s.toks) (fun b o hb e => eb b o hb e) f0 f1 f3 f4 f5⟩
 self := fun _ _ _ _ _ st h => wpAny_pyIter_keyiter st h
def q1w (tl : TE) : TI := fun σ H R => tl σ H fun x H1 => ∃ d kvs, x = .ref d ∧ H1 d = some (.dK kvs) ∧ ∀ o, R (Itk d o kvs) (upd H1 d (.frz o (.dK kvs)))
theorem k7n {tg l : Expr} {tl : TE} (hl : PE X l tl) : PI X tg l (q1w tl) := by
 intro pins s σ H R I h
 refine thn (hl pins s σ H _ I h) fun v s1 ⟨x, H1, I1, r1, q1⟩ => ?_
 obtain ⟨d, kvs, e, hH, q⟩ := q1
 subst e
 cases (show v = Value.ref d from r1)
 obtain ⟨o, ho, I2⟩ := j57 I1 hH
 obtain ⟨z, hdm, vs, rel, dd⟩ := k1i I1.hok hH
 obtain ⟨ep, o', es, ho', r1, r2, r3⟩ := dd.dictAt
 have : o = o' := Option.some.inj (ho.symm.trans ho')
 subst this
 refine wpAny_pyIter_dict hdm ⟨o, es, ho', r1, r2, r3⟩ ?_
 refine ⟨s1.heap.objs.size, [s1.heap.objs.size], _, _, _, rfl, I2.kept (t' := s1.toks) fun b o e => Heap.get?_push_of_some _ e, j7e d _ o es ep kvs r2, ⟨_, Heap.get?_push_size _ rfl, rfl, by rw [rel.length]; rfl⟩, fun b hb => ?_, q o⟩
 have e : b = s1.heap.objs.size := by simpa using hb
 subst e
 exact I2.fpOk (Nat.le_refl _) (I2.hok.fresh (Nat.le_refl _))
end
section
variable {X : Cx} {elt tg : Expr} {ifs : List Expr} {scope : Scope} {σ : St} {H : Hp} {N' : List Str} {A a d : Addr} {xs : List V} {kvs : List (Key × V)} {after : Hp → Prop}
theorem j2h (Pv : Nat → St → Hp → Prop) (h0 : Pv 0 σ H) (hl : ∀ i σ' H', i ≤ xs.length → Pv i σ' H' → SqL X.K H' a xs)
  (hs : ∀ i x σ' H', xs[i]? = some x → Pv i σ' H' → CEg X N' scope tg x σ' H' fun σ2 H3 => CEi X N' scope ifs σ2 H3 fun b H4 =>
   if b = true then CEv X N' scope elt σ2 H4 fun v H5 => ∃ ys, H5 A = some (.lst ys) ∧ ys.length < sizeLine ∧ Pv (i + 1) σ2 (upd H5 A (.lst (ys ++ [v]))) else Pv (i + 1) σ2 H4)
  (hd : ∀ σ' H', Pv xs.length σ' H' → after H') : k1e X N' scope tg ifs elt (Itl X.K a) A after σ H := by
 refine ⟨fun i m σ' H' => m = xs.length - i ∧ i ≤ xs.length ∧ Pv i σ' H', ⟨_, rfl, Nat.zero_le _, h0⟩, ?_⟩
 rintro i m σ' H' ⟨rfl, hi, p⟩
 have q := hl i σ' H' hi p
 by_cases hlt : i < xs.length
 ·refine .inr ⟨⟨xs, xs[i], q, by simp [hlt]⟩, Pv (i + 1), fun σ' H' p' => ⟨xs.length - (i + 1), by omega, rfl, hlt, p'⟩, fun x H2 y => ?_⟩
  obtain ⟨e, y⟩ := y
  subst e
  exact hs i x σ' _ (y xs q) p
 ·have e : i = xs.length := by omega
  subst e
  exact .inl ⟨⟨xs, q, Nat.le_refl _⟩, hd σ' H' p⟩
theorem k1c {o : Obj} (Pv : Nat → St → Hp → Prop) (h0 : Pv 0 σ H) (hl : ∀ i σ' H', i ≤ kvs.length → Pv i σ' H' → H' d = some (.frz o (.dK kvs)))
  (hs : ∀ i p σ' H', kvs[i]? = some p → Pv i σ' H' → CEg X N' scope tg (kV p.1) σ' H' fun σ2 H3 => CEi X N' scope ifs σ2 H3 fun b H4 =>
   if b = true then CEv X N' scope elt σ2 H4 fun v H5 => ∃ ys, H5 A = some (.lst ys) ∧ ys.length < sizeLine ∧ Pv (i + 1) σ2 (upd H5 A (.lst (ys ++ [v]))) else Pv (i + 1) σ2 H4)
  (hd : ∀ σ' H', Pv kvs.length σ' H' → after H') : k1e X N' scope tg ifs elt (Itk d o kvs) A after σ H := by
 refine ⟨fun i m σ' H' => m = kvs.length - i ∧ i ≤ kvs.length ∧ Pv i σ' H', ⟨_, rfl, Nat.zero_le _, h0⟩, ?_⟩
 rintro i m σ' H' ⟨rfl, hi, p⟩
 have q := hl i σ' H' hi p
 by_cases hlt : i < kvs.length
 ·refine .inr ⟨⟨q, hlt⟩, Pv (i + 1), fun σ' H' p' => ⟨kvs.length - (i + 1), by omega, rfl, hlt, p'⟩, fun x H2 y => ?_⟩
  obtain ⟨e, p', ep, y⟩ := y
  subst e y
  exact hs i p' σ' _ ep p
 ·have e : i = kvs.length := by omega
  subst e
  exact .inl ⟨⟨q, Nat.le_refl _⟩, hd σ' H' p⟩
theorem j3j {zs : List Str} (f : Str → Bool) (hz : zs.length < sizeLine) (ha : H a = some (.lst (zs.map V.str))) (hA : H A = none)
  (hg : ∀ cl C s₀ H₀ ex v v0 H' R, R (σ ++ [some v]) H' → Eg (j1a X N' scope cl C s₀ H₀ ex) tg v (σ ++ [v0]) H' R)
  (hi : ∀ cl C s₀ H₀ ex z ys T, T (f z) (upd H A (.lst ys)) → Ei (j1a X N' scope cl C s₀ H₀ ex) ifs (σ ++ [some (.str z)]) (upd H A (.lst ys)) T)
  (he : ∀ cl C s₀ H₀ ex z H' R, R (V.str z) H' → Ev (j1a X N' scope cl C s₀ H₀ ex) elt (σ ++ [some (.str z)]) H' R) (q : after (upd H A (.lst ((zs.filter f).map V.str)))) :
  k1e X N' scope tg ifs elt (Itl X.K a) A after (σ ++ List.replicate 1 none) (upd H A (.lst [])) := by
 have ne : a ≠ A := j0d ha hA
 refine j2h (xs := zs.map V.str) (fun k σ' H' => (∃ v, σ' = σ ++ [v]) ∧ H' = upd H A (.lst (((zs.take k).filter f).map V.str))) ⟨⟨none, rfl⟩, by simp⟩ ?_ ?_ ?_
 ·rintro i σ' H' _ ⟨_, rfl⟩
  exact SqL.of (by rw [j0c ne]; exact ha)
 ·rintro i x σ' H' hx ⟨⟨v, rfl⟩, rfl⟩
  rw [List.getElem?_map, Option.map_eq_some_iff] at hx
  obtain ⟨z, hz', rfl⟩ := hx
  intro cl C s₀ H₀ ex
  refine hg cl C s₀ H₀ ex _ _ _ _ ?_
  intro cl C s₀ H₀ ex
  refine hi cl C s₀ H₀ ex z _ _ ?_
  have e : (zs.take (i + 1)).filter f = (zs.take i).filter f ++ (if f z = true then [z] else []) := by
   rw [List.take_add_one, hz', List.filter_append]
   congr 1
   cases hf : f z <;> simp [hf]
  have hlen : ((zs.take i).filter f).length ≤ zs.length := Nat.le_trans (List.length_filter_le _ _) (by rw [List.length_take]; omega)
  by_cases hf : f z = true
  ·rw [if_pos hf]
   intro cl C s₀ H₀ ex
   refine he cl C s₀ H₀ ex z _ _ ⟨_, j0b, by rw [List.length_map]; omega, ⟨_, rfl⟩, ?_⟩
   rw [j4l, e, if_pos hf, List.map_append]
   rfl
  ·rw [if_neg hf]
   refine ⟨⟨_, rfl⟩, ?_⟩
   rw [e, if_neg hf, List.append_nil]
 ·rintro σ' H' ⟨_, rfl⟩
  have e2 : zs.take (zs.map V.str).length = zs := List.take_of_length_le (by simp)
  rw [e2]
  exact q
theorem j2g (z : Str) (zs : List Str) : inV (.str z) (zs.map V.str) = zs.contains z := by
 unfold inV
 induction zs with
 | nil => rfl
 | cons y r ih =>
  rw [List.map_cons, List.any_cons, ih, List.contains_cons]
  congr 1
  show eqV (.str y) (.str z) = (z == y)
  by_cases h : y = z
  ·subst h; simp [eqV]
  ·have h' : z ≠ y := fun q => h q.symm
   show (y == z) = (z == y)
   rw [beq_eq_false_iff_ne.mpr h, beq_eq_false_iff_ne.mpr h']
theorem j1w (zs : List Str) : (zs.map V.str).all j5e = true := by
 rw [List.all_eq_true]
 intro x hx
 obtain ⟨z, _, rfl⟩ := List.mem_map.mp hx
 rfl
theorem Eg.mono {e : Expr} {v : V} {R R' : St → Hp → Prop} (h : Eg X e v σ H R) (f : ∀ σ' H', R σ' H' → R' σ' H') : Eg X e v σ H R' :=
 ⟨fun pins s u I r => thn (h.run pins s u I r) fun _ s' ⟨σ', H', I', q⟩ => ⟨σ', H', I', f σ' H' q⟩⟩
theorem j2a {e1 e2 : Expr} {k : Nat} {pos : Pos} {t : Addr} {x y : V} {R : St → Hp → Prop} (hc : X.calm = true) (ht : SqT X.K H t [x, y]) (h : Eg X e1 x σ H fun σ1 H1 => Eg X e2 y σ1 H1 R)
  (hn : (assignEach [e1, e2] X.env).length = 2 := by rfl) (hst : (assignEach [e1, e2] X.env).findIdx? (·.1) = none := by rfl)
  (hs1 : (assignEach [e1, e2] X.env).map (·.2) = assign e1 X.env :: (assignEach [e2] X.env).map (·.2) := by rfl) (hs2 : (assignEach [e2] X.env).map (·.2) = assign e2 X.env :: (assignEach [] X.env).map (·.2) := by rfl) :
  Eg X (.Tuple [e1, e2] k pos) (.ref t) σ H R :=
 k7d (k6a (t := k0i (fun v σ H Q => Eg X e1 v σ H Q) (k0i (fun v σ H Q => Eg X e2 v σ H Q) gNil)) hc (j33 j87 (j33 j87 k1z hs2) hs1) hn hst) ⟨t, _, rfl, ht, rfl, _, _, rfl, h.mono fun σ1 H1 h1 => ⟨_, _, rfl, h1.mono fun σ2 H2 q => ⟨rfl, q⟩⟩⟩
end
end L2
namespace Nt
open PySem L2
def j2l (n : Net) (ss : List Str) : Bool := n.all fun r => (r.2.filter fun z => ss.contains z).length % 2 == 0
theorem j2t {n : Net} (T : j02 n) {e x : End} {z : Str} (h : j0s n e = some z) : j0s n x = some z ↔ x = e ∨ x = other n e := by
 obtain ⟨o1, o2, o3⟩ := j1t T h
 refine ⟨fun hx => ?_, fun hx => ?_⟩
 ·obtain ⟨a, b, hp, hab, he⟩ := j4f T h
  have mx : x ∈ pos n z := mem_pos.mpr hx
  have mo : other n e ∈ pos n z := mem_pos.mpr o1
  rw [hp] at mx mo
  simp only [List.mem_cons, List.not_mem_nil, or_false] at mx mo
  rcases he with he | he
  ·rcases mx with m | m
   ·exact .inl (m.trans he.symm)
   ·rcases mo with m2 | m2
    ·exact absurd (m2.trans he.symm) o3
    ·exact .inr (m.trans m2.symm)
  ·rcases mx with m | m
   ·rcases mo with m2 | m2
    ·exact .inr (m.trans m2.symm)
    ·exact absurd (m2.trans he.symm) o3
   ·exact .inl (m.trans he.symm)
 ·rcases hx with rfl | rfl
  ·exact h
  ·exact o1
end Nt
namespace Nt
open PySem L2
abbrev Bl := Str × Str × Bool
def has (kvs : List (Key × V)) (x : Str) : Prop := ∃ v, valV kvs (Sum.inr x) = some v
def k0h (ls : List Bl) (x y : Str) (o : Bool) : Prop := (x, y, o) ∈ ls ∨ (y, x, o) ∈ ls
def k3z (ls : List Bl) : List Str := ls.flatMap fun l => [l.1, l.2.1]
theorem j7a : ∀ ls : List Bl, (k3z ls).length = 2 * ls.length
 | [] => rfl
 | l :: r => by
  show (k3z r).length + 1 + 1 = 2 * (r.length + 1)
  rw [j7a r]
  omega
theorem k4q {ls : List Bl} {x y : Str} {o : Bool} (h : k0h ls x y o) : y ∈ k3z ls := by
 rcases h with h | h
 ·exact List.mem_flatMap.mpr ⟨_, h, by simp⟩
 ·exact List.mem_flatMap.mpr ⟨_, h, by simp⟩
theorem k0x {κ : Type} [DecidableEq κ] (kvs : List (κ × V)) (k : κ) (v : V) : (putK kvs k v).map (·.1) = if k ∈ kvs.map (·.1) then kvs.map (·.1) else kvs.map (·.1) ++ [k] := by
 have e : (kvs.any fun kv => decide (kv.1 = k)) = decide (k ∈ kvs.map (·.1)) := by
  rw [Bool.eq_iff_iff, List.any_eq_true, decide_eq_true_iff, List.mem_map]
  exact ⟨fun ⟨p, h1, h2⟩ => ⟨p, h1, of_decide_eq_true h2⟩, fun ⟨p, h1, h2⟩ => ⟨p, h1, decide_eq_true h2⟩⟩
 unfold putK
 rw [e]
 by_cases h : k ∈ kvs.map (·.1)
 ·rw [if_pos (decide_eq_true h), if_pos h, List.map_map]
  refine List.map_congr_left fun p _ => ?_
  show (if p.1 = k then (p.1, v) else p).1 = p.1
  split <;> rfl
 ·rw [if_neg (by simpa using h), if_neg h, List.map_append]
  rfl
structure SpI (ls : List Bl) (f : Str) (hr : Option Str) (kvs : List (Key × V)) (wt : List Str) : Prop where
 nod : (kvs.map (·.1)).Nodup
 txt : ∀ k ∈ kvs.map (·.1), ∃ x, k = Sum.inr x ∧ x ∈ f :: k3z ls
 val : ∀ x v, valV kvs (Sum.inr x) = some v → ∃ b, v = .bl b ∧ Way ls f x b
 fst : has kvs f
 wtk : ∀ x ∈ wt, has kvs x
 hrh : ∀ x, some x = hr → has kvs x
 cls : ∀ x, has kvs x → x ∈ wt ∨ some x = hr ∨ ∀ y o, k0h ls x y o → has kvs y
theorem SpI.len {ls : List Bl} {f : Str} {hr : Option Str} {kvs : List (Key × V)} {wt : List Str} (I : SpI ls f hr kvs wt) : kvs.length ≤ 1 + 2 * ls.length := by
 have := nodup_le I.nod (b := (f :: k3z ls).map Sum.inr) fun k hk => by
  obtain ⟨x, e, hx⟩ := I.txt k hk
  rw [e]
  exact List.mem_map.mpr ⟨x, hx, rfl⟩
 rw [List.length_map, List.length_map, List.length_cons, j7a] at this
 omega
theorem j5m {kvs : List (Key × V)} {k : Key} {v : V} {x : Str} (h : has kvs x) : has (putK kvs k v) x := by
 obtain ⟨u, hu⟩ := h
 unfold has
 rw [j0q]
 split
 ·exact ⟨_, rfl⟩
 ·exact ⟨u, hu⟩
theorem SpI.start (ls : List Bl) (f : Str) : SpI ls f none (putK [] (Sum.inr f) (.bl false)) [f] := by
 have e : putK ([] : List (Key × V)) (Sum.inr f) (.bl false) = [(Sum.inr f, .bl false)] := rfl
 have hv : ∀ x, valV ([(Sum.inr f, .bl false)] : List (Key × V)) (Sum.inr x) = if x = f then some (.bl false) else none := fun x => by
  rw [← e, j0q]
  by_cases h : x = f
  ·rw [if_pos h, if_pos (by rw [h])]
  ·rw [if_neg h, if_neg (fun q => h (Sum.inr.inj q))]
   rfl
 rw [e]
 refine ⟨by simp, fun k hk => ⟨f, by simpa using hk, List.mem_cons_self ..⟩, fun x v h => ?_, ⟨.bl false, by rw [hv f, if_pos rfl]⟩, fun x hx => ?_, fun x hx => by (cases hx), fun x hx => ?_⟩
 ·rw [hv x] at h
  by_cases c : x = f
  ·rw [if_pos c] at h
   cases h
   subst c
   exact ⟨false, rfl, .here⟩
  ·rw [if_neg c] at h
   cases h
 ·rw [List.mem_singleton.mp hx]
  exact ⟨.bl false, by rw [hv f, if_pos rfl]⟩
 ·obtain ⟨v, h⟩ := hx
  rw [hv x] at h
  by_cases c : x = f
  ·exact .inl (List.mem_singleton.mpr c)
  ·rw [if_neg c] at h
   cases h
theorem SpI.pop {ls : List Bl} {f h : Str} {kvs : List (Key × V)} {wt : List Str} (I : SpI ls f none kvs (wt ++ [h])) : SpI ls f (some h) kvs wt := by
 refine ⟨I.nod, I.txt, I.val, I.fst, fun x hx => I.wtk x (List.mem_append_left _ hx), fun x hx => (by cases hx; exact I.wtk h (List.mem_append_right _ (List.mem_singleton.mpr rfl))), fun x hx => ?_⟩
 rcases I.cls x hx with c | c | c
 ·rcases List.mem_append.mp c with c | c
  ·exact .inl c
  ·exact .inr (.inl (by rw [List.mem_singleton.mp c]))
 ·cases c
 ·exact .inr (.inr c)
theorem SpI.close {ls : List Bl} {f h : Str} {kvs : List (Key × V)} {wt : List Str} (I : SpI ls f (some h) kvs wt) (c : ∀ y o, k0h ls h y o → has kvs y) : SpI ls f none kvs wt := by
 refine ⟨I.nod, I.txt, I.val, I.fst, I.wtk, fun x hx => (by cases hx), fun x hx => ?_⟩
 rcases I.cls x hx with d | d | d
 ·exact .inl d
 ·cases d
  exact .inr (.inr c)
 ·exact .inr (.inr d)
theorem SpI.notin {ls : List Bl} {f : Str} {hr : Option Str} {kvs : List (Key × V)} {wt : List Str} (I : SpI ls f hr kvs wt) {g : Str} (hg : valV kvs (Sum.inr g) = none) : Sum.inr g ∉ kvs.map (·.1) := by
 intro hm
 obtain ⟨p, hp, e⟩ := List.mem_map.mp hm
 have : ∃ i : Nat, kvs[i]? = some p := List.getElem?_of_mem hp
 obtain ⟨i, hi⟩ := this
 have : ∀ {l : List (Key × V)}, (∃ q ∈ l, q.1 = Sum.inr g) → valV l (Sum.inr g) ≠ none := fun {l} => by
  induction l with
  | nil => rintro ⟨q, hq, _⟩; cases hq
  | cons c r ih =>
   rintro ⟨q, hq, e⟩ hn
   by_cases hc : c.1 = Sum.inr g
   ·rw [j1g hc] at hn
    cases hn
   ·rw [j1f hc] at hn
    rcases List.mem_cons.mp hq with rfl | hq
    ·exact hc e
    ·exact ih ⟨q, hq, e⟩ hn
 exact this ⟨p, hp, e⟩ hg
theorem SpI.hrk {ls : List Bl} {f h : Str} {kvs : List (Key × V)} {wt : List Str} (I : SpI ls f (some h) kvs wt) : has kvs h := I.hrh h rfl
theorem SpI.add {ls : List Bl} {f h g : Str} {kvs : List (Key × V)} {wt : List Str} {b o : Bool} (I : SpI ls f (some h) kvs wt) (hg : valV kvs (Sum.inr g) = none) (hh : valV kvs (Sum.inr h) = some (.bl b)) (t : k0h ls h g o) :
  SpI ls f (some h) (putK kvs (Sum.inr g) (.bl (b != o))) (wt ++ [g]) := by
 have hng := I.notin hg
 have hw : Way ls f g (b != o) := by
  obtain ⟨b', e, hw⟩ := I.val h _ hh
  cases e
  rcases t with t | t
  ·exact .there hw t
  ·exact .back hw t
 refine ⟨?_, fun k hk => ?_, fun x v hv => ?_, j5m I.fst, fun x hx => ?_, fun x hx => j5m (I.hrh x hx), fun x hx => ?_⟩
 ·rw [k0x, if_neg hng]
  exact j23 I.nod hng
 ·rw [k0x, if_neg hng] at hk
  rcases List.mem_append.mp hk with hk | hk
  ·exact I.txt k hk
  ·exact ⟨g, List.mem_singleton.mp hk, List.mem_cons_of_mem _ (k4q t)⟩
 ·rw [j0q] at hv
  by_cases c : Sum.inr x = (Sum.inr g : Key)
  ·rw [if_pos c] at hv
   cases hv
   rw [Sum.inr.inj c]
   exact ⟨_, rfl, hw⟩
  ·rw [if_neg c] at hv
   exact I.val x v hv
 ·rcases List.mem_append.mp hx with hx | hx
  ·exact j5m (I.wtk x hx)
  ·rw [List.mem_singleton.mp hx]
   exact ⟨_, by rw [j0q, if_pos rfl]⟩
 ·obtain ⟨v, hv⟩ := hx
  rw [j0q] at hv
  by_cases c : Sum.inr x = (Sum.inr g : Key)
  ·exact .inl (List.mem_append_right _ (List.mem_singleton.mpr (Sum.inr.inj c)))
  ·rw [if_neg c] at hv
   rcases I.cls x ⟨v, hv⟩ with d | d | d
   ·exact .inl (List.mem_append_left _ d)
   ·exact .inr (.inl d)
   ·exact .inr (.inr fun y o' ht => j5m (d y o' ht))
theorem SpI.whole {ls : List Bl} {f : Str} {kvs : List (Key × V)} (I : SpI ls f none kvs []) : ∀ x b, Way ls f x b → ∃ b', valV kvs (Sum.inr x) = some (.bl b') := by
 have hall : ∀ x b, Way ls f x b → has kvs x := fun x b w => by
  induction w with
  | here => exact I.fst
  | there w hm ih =>
   rcases I.cls _ ih with d | d | d
   ·cases d
   ·cases d
   ·exact d _ _ (.inl hm)
  | back w hm ih =>
   rcases I.cls _ ih with d | d | d
   ·cases d
   ·cases d
   ·exact d _ _ (.inr hm)
 intro x b w
 obtain ⟨v, hv⟩ := hall x b w
 obtain ⟨b', e, _⟩ := I.val x v hv
 exact ⟨b', by rw [hv, e]⟩
end Nt
namespace Nt
open PySem L2
open PyProof.Rows (sortedS)
def Hang (n : Net) : Prop := ∀ P : Str → Prop, (∃ r ∈ n, P r.1) → (∀ r ∈ n, ∀ s ∈ n, ∀ t, t ∈ r.2 → t ∈ s.2 → P r.1 → P s.1) → ∀ r ∈ n, P r.1
theorem k2q {n m : Net} (h1 : ∀ r ∈ n, ∃ s ∈ m, s.1 = r.1 ∧ ∀ t ∈ r.2, t ∈ s.2) (h2 : ∀ s ∈ m, ∃ r ∈ n, r.1 = s.1) (h : Hang n) : Hang m := by
 rintro P ⟨s, hs, ps⟩ cl s' hs'
 obtain ⟨r, hr, er⟩ := h2 s hs
 obtain ⟨r', hr', er'⟩ := h2 s' hs'
 rw [← er']
 refine h P ⟨r, hr, by rw [er]; exact ps⟩ (fun a ha b hb t ta tb pa => ?_) r' hr'
 obtain ⟨a', ha', ea, sa⟩ := h1 a ha
 obtain ⟨b', hb', eb, sb⟩ := h1 b hb
 rw [← eb]
 exact cl a' ha' b' hb' t (sa t ta) (sb t tb) (by rw [ea]; exact pa)
theorem k4w (r : Str × List Str) : Hang [r] := by
 rintro P ⟨s, hs, ps⟩ _ x hx
 rw [List.mem_singleton] at hs hx
 rw [hx, ← hs]
 exact ps
theorem k3v (n : Net) (c : End) (z : Str) (i : Nat) : (ins n c z)[i]? = (n[i]?).map fun r => if c.1 = i then (r.1, r.2.take c.2 ++ z :: r.2.drop c.2) else r := by
 unfold ins
 rw [List.getElem?_modify]
 by_cases h : c.1 = i
 ·simp [h]
 ·simp [h]
theorem j6b {n : Net} {c : End} {z : Str} (h : Hang n) : Hang (ins n c z) := by
 refine k2q (fun r hr => ?_) (fun s hs => ?_) h
 ·obtain ⟨i, hi⟩ := List.getElem?_of_mem hr
  have e := k3v n c z i
  rw [hi] at e
  refine ⟨_, List.mem_of_getElem? e, ?_, fun t ht => ?_⟩
  ·split <;> rfl
  ·split
   ·show t ∈ r.2.take c.2 ++ z :: r.2.drop c.2
    rw [← List.take_append_drop c.2 r.2] at ht
    rcases List.mem_append.mp ht with q | q
    ·exact List.mem_append_left _ q
    ·exact List.mem_append_right _ (List.mem_cons_of_mem _ q)
   ·exact ht
 ·obtain ⟨i, hi⟩ := List.getElem?_of_mem hs
  rw [k3v, Option.map_eq_some_iff] at hi
  obtain ⟨r, hr, e⟩ := hi
  refine ⟨r, List.mem_of_getElem? hr, ?_⟩
  rw [← e]
  split <;> rfl
theorem k7z {n : Net} {c : End} {z : Str} (hc : c.1 < n.length) : ∃ r ∈ ins n c z, z ∈ r.2 := by
 have e := k3v n c z c.1
 rw [List.getElem?_eq_getElem hc] at e
 refine ⟨_, List.mem_of_getElem? e, ?_⟩
 show z ∈ (if c.1 = c.1 then ((n[c.1].1, n[c.1].2.take c.2 ++ z :: n[c.1].2.drop c.2) : Str × List Str) else n[c.1]).2
 rw [if_pos rfl]
 exact List.mem_append_right _ (List.mem_cons_self ..)
theorem k2o {n : Net} {z pt : Str} (h : Hang n) (hz : ∃ r ∈ n, z ∈ r.2) : Hang (n ++ [(pt, [z])]) := by
 obtain ⟨r, hr, zr⟩ := hz
 rintro P ⟨s, hs, ps⟩ cl x hx
 have mn : ((pt, [z]) : Str × List Str) ∈ n ++ [(pt, [z])] := List.mem_append_right _ (List.mem_singleton.mpr rfl)
 have ml : ∀ {y}, y ∈ n → y ∈ n ++ [(pt, [z])] := fun hy => List.mem_append_left _ hy
 have all : ∀ y ∈ n, P y.1 := by
  refine h P ?_ (fun a ha b hb t ta tb pa => cl a (ml ha) b (ml hb) t ta tb pa)
  rcases List.mem_append.mp hs with q | q
  ·exact ⟨s, q, ps⟩
  ·rw [List.mem_singleton] at q
   subst q
   exact ⟨r, hr, cl _ mn r (ml hr) z (List.mem_singleton.mpr rfl) zr ps⟩
 rcases List.mem_append.mp hx with q | q
 ·exact all x q
 ·rw [List.mem_singleton] at q
  subst q
  exact cl r (ml hr) _ mn z zr (List.mem_singleton.mpr rfl) (all r hr)
def Srt (zs : List Str) : Prop := zs.Pairwise (fun a b => a.cps.toList < b.cps.toList)
theorem j7d : ∀ {zs : List Str}, sortedS zs = true → zs.Nodup → Srt zs
 | [], _, _ => List.Pairwise.nil
 | z :: r, h, hn => by
  rw [List.nodup_cons] at hn
  refine List.Pairwise.cons (fun x hx => ?_) (j7d (SetT.rising_sorted h) hn.2)
  have h1 := SetT.rising_all r z h x hx
  rcases List.le_iff_lt_or_eq.mp h1 with q | q
  ·exact q
  ·exact absurd hx (by rw [← SetT.str_ext q]; exact hn.1)
theorem j19 {zs : List Str} (h : Srt zs) : zs.Nodup := h.imp fun q e => by rw [e] at q; exact List.lt_irrefl _ q
theorem j4j : ∀ {a b : List Str}, Srt a → Srt b → (∀ x, x ∈ a ↔ x ∈ b) → a = b
 | [], [], _, _, _ => rfl
 | [], y :: b, _, _, h => by have := (h y).mpr (List.mem_cons_self ..); cases this
 | x :: a, [], _, _, h => by have := (h x).mp (List.mem_cons_self ..); cases this
 | x :: a, y :: b, ha, hb, h => by
  unfold Srt at ha hb
  rw [List.pairwise_cons] at ha hb
  have exy : x = y := by
   rcases List.mem_cons.mp ((h x).mp (List.mem_cons_self ..)) with e | e
   ·exact e
   ·rcases List.mem_cons.mp ((h y).mpr (List.mem_cons_self ..)) with e2 | e2
    ·exact e2.symm
    ·exact absurd (List.lt_trans (ha.1 y e2) (hb.1 x e)) (List.lt_irrefl _)
  subst exy
  have nx : ∀ (l : List Str), (∀ z ∈ l, x.cps.toList < z.cps.toList) → x ∉ l := fun l hl hm => List.lt_irrefl _ (hl x hm)
  have : a = b := j4j ha.2 hb.2 fun z => by
   constructor
   ·intro hz
    rcases List.mem_cons.mp ((h z).mp (List.mem_cons_of_mem _ hz)) with e | e
    ·exact absurd (e ▸ hz) (nx a ha.1)
    ·exact e
   ·intro hz
    rcases List.mem_cons.mp ((h z).mpr (List.mem_cons_of_mem _ hz)) with e | e
    ·exact absurd (e ▸ hz) (nx b hb.1)
    ·exact e
  rw [this]
def j6a (n : Net) (ps : List Str) (z : Str) : Prop := ∃ e, j0s n e = some z ∧ nmA n e.1 ∈ ps ∧ nmA n (other n e).1 ∉ ps
theorem k7u {n : Net} {ps : List Str} {z : Str} (h : j6a n ps z) : z ∈ ties n := by
 obtain ⟨e, he, _⟩ := h
 exact j2s he
theorem j80 {n : Net} (T : j02 n) {ps : List Str} {z : Str} {e : End} (he : j0s n e = some z) : j6a n ps z ↔ (decide (nmA n e.1 ∈ ps) != decide (nmA n (other n e).1 ∈ ps)) = true := by
 have o := j1t T he
 constructor
 ·rintro ⟨x, hx, h1, h2⟩
  rcases (j2t T he).mp hx with q | q
  ·subst q
   simp [h1, h2]
  ·subst q
   rw [o.2.1] at h2
   simp [h1, h2]
 ·intro h
  by_cases h1 : nmA n e.1 ∈ ps
  ·by_cases h2 : nmA n (other n e).1 ∈ ps
   ·simp [h1, h2] at h
   ·exact ⟨e, he, h1, h2⟩
  ·by_cases h2 : nmA n (other n e).1 ∈ ps
   ·exact ⟨other n e, o.1, h2, by rw [o.2.1]; exact h1⟩
   ·simp [h1, h2] at h
theorem k0f {n : Net} (T : j02 n) {x : Lk} (h : j4n n x) : ∃ e, j0s n e = some x.1 ∧ x.2.1 = nmA n e.1 ∧ x.2.2 = nmA n (other n e).1 := by
 obtain ⟨a, b, hp, h1, h2⟩ := h
 have ha : j0s n a = some x.1 := mem_pos.mp (by rw [hp]; exact List.mem_cons_self ..)
 have hb : j0s n b = some x.1 := mem_pos.mp (by rw [hp]; simp)
 have hnd := j8a n x.1
 rw [hp] at hnd
 have hab : b ≠ a := fun q => by rw [q] at hnd; simp at hnd
 rcases (j2t T ha).mp hb with q | q
 ·exact absurd q hab
 ·exact ⟨a, ha, h1, by rw [h2, q]⟩
theorem j92 {n : Net} (T : j02 n) {e : End} {z : Str} (h : j0s n e = some z) : j4n n (z, nmA n e.1, nmA n (other n e).1) ∨ j4n n (z, nmA n (other n e).1, nmA n e.1) := by
 obtain ⟨a, b, hp, hab, hh⟩ := j4f T h
 have ha : j0s n a = some z := mem_pos.mp (by rw [hp]; exact List.mem_cons_self ..)
 have hb : j0s n b = some z := mem_pos.mp (by rw [hp]; simp)
 rcases hh with q | q
 ·subst q
  refine .inl ⟨e, b, hp, rfl, ?_⟩
  rcases (j2t T h).mp hb with q | q
  ·exact absurd q.symm hab
  ·show nmA n (other n e).1 = nmA n b.1
   rw [q]
 ·subst q
  refine .inr ⟨a, e, hp, ?_, rfl⟩
  rcases (j2t T h).mp ha with q | q
  ·exact absurd q hab
  ·show nmA n (other n e).1 = nmA n a.1
   rw [q]
theorem j6s {n : Net} (T : j02 n) {ps : List Str} {x : Lk} (h : j4n n x) : j6a n ps x.1 ↔ (decide (x.2.1 ∈ ps) != decide (x.2.2 ∈ ps)) = true := by
 obtain ⟨e, he, h1, h2⟩ := k0f T h
 rw [h1, h2]
 exact j80 T he
def fstN (n : Net) : Str := nmA n 0
structure IsSide (n : Net) (ss sd : List Str) : Prop where
 srt : Srt sd
 mem : ∀ x ∈ sd, x ∈ n.map (·.1)
 fst : fstN n ∉ sd
 cut : ∀ z, z ∈ ss ↔ j6a n sd z
structure Tells (n : Net) (ss : List Str) (ls : List Bl) : Prop where
 to : ∀ e z, j0s n e = some z → k0h ls (nmA n e.1) (nmA n (other n e).1) (decide (z ∈ ss))
 fro : ∀ l ∈ ls, ∃ e z, j0s n e = some z ∧ l = (nmA n e.1, nmA n (other n e).1, decide (z ∈ ss))
theorem k2k {n : Net} (T : j02 n) {ss sd : List Str} {ls : List Bl} (t : Tells n ss ls) (hc : ∀ z, z ∈ ss ↔ j6a n sd z) {f x : Str} {b : Bool} (w : Way ls f x b) : decide (x ∈ sd) = (decide (f ∈ sd) != b) := by
 have step : ∀ {x y : Str} {o : Bool}, (x, y, o) ∈ ls → o = (decide (x ∈ sd) != decide (y ∈ sd)) := fun {x y o} h => by
  obtain ⟨e, z, he, hl⟩ := t.fro _ h
  have h1 : x = nmA n e.1 := congrArg (·.1) hl
  have h2 : y = nmA n (other n e).1 := congrArg (·.2.1) hl
  have h3 : o = decide (z ∈ ss) := congrArg (·.2.2) hl
  rw [h1, h2, h3, Bool.eq_iff_iff, decide_eq_true_iff, hc z]
  exact j80 T he
 induction w with
 | here => simp
 | @there x y b o w h ih =>
  rw [step h, ih]
  cases decide (f ∈ sd) <;> cases b <;> cases decide (y ∈ sd) <;> rfl
 | @back x y b o w h ih =>
  rw [step h, ih]
  cases decide (f ∈ sd) <;> cases b <;> cases decide (y ∈ sd) <;> rfl
theorem j4v {n : Net} (T : j02 n) {ss sd : List Str} {ls : List Bl} (t : Tells n ss ls) (h : IsSide n ss sd) {x : Str} {b : Bool} (w : Way ls (fstN n) x b) : decide (x ∈ sd) = b := by
 rw [k2k T t h.cut w, decide_eq_false h.fst]
 simp
theorem j25 {n : Net} {i : Nat} (h : i < n.length) : nmA n i ∈ n.map (·.1) := by
 rw [j2x h]
 exact List.mem_map.mpr ⟨_, List.getElem_mem h, rfl⟩
theorem k73 {n : Net} (T : j02 n) (h : Hang n) (h0 : 0 < n.length) {ss : List Str} {ls : List Bl} (t : Tells n ss ls) : ∀ x ∈ n.map (·.1), ∃ b, Way ls (fstN n) x b := by
 intro x hx
 obtain ⟨r, hr, rfl⟩ := List.mem_map.mp hx
 refine h (fun x => ∃ b, Way ls (fstN n) x b) ⟨n[0], List.getElem_mem h0, false, ?_⟩ (fun r hr s hs z zr zs ⟨b, w⟩ => ?_) r hr
 ·have : fstN n = n[0].1 := j2x h0
  rw [← this]
  exact .here
 ·obtain ⟨i, hi, rfl⟩ := List.mem_iff_getElem.mp hr
  obtain ⟨j, hj, rfl⟩ := List.mem_iff_getElem.mp hs
  obtain ⟨p, hp⟩ := List.getElem?_of_mem zr
  obtain ⟨q, hq⟩ := List.getElem?_of_mem zs
  have h1 : j0s n (i, p) = some z := by show (row n i)[p]? = _; rw [j3r hi]; exact hp
  have h2 : j0s n (j, q) = some z := by show (row n j)[q]? = _; rw [j3r hj]; exact hq
  rcases (j2t T h1).mp h2 with e | e
  ·have : j = i := congrArg (·.1) e
   subst this
   exact ⟨b, w⟩
  ·have tt := t.to _ _ h1
   rw [← e] at tt
   rw [show nmA n ((i, p) : End).1 = n[i].1 from j2x hi, show nmA n ((j, q) : End).1 = n[j].1 from j2x hj] at tt
   rcases tt with tt | tt
   ·exact ⟨_, .there w tt⟩
   ·exact ⟨_, .back w tt⟩
noncomputable def lksE (n : Net) (ss : List Str) : List Bl := (ends n).map fun e => (nmA n e.1, nmA n (other n e).1, decide ((j0s n e).getD ⟨#[]⟩ ∈ ss))
theorem j4g {n : Net} {ss : List Str} : Tells n ss (lksE n ss) := by
 refine ⟨fun e z h => .inl (List.mem_map.mpr ⟨e, mem_ends.mpr ⟨z, h⟩, by rw [h]; rfl⟩), fun l hl => ?_⟩
 obtain ⟨e, he, q⟩ := List.mem_map.mp hl
 obtain ⟨z, hz⟩ := mem_ends.mp he
 exact ⟨e, z, hz, by rw [← q, hz]; rfl⟩
theorem k2d {n : Net} (T : j02 n) {ss : List Str} {ls : List Lk} (h : ∀ x, x ∈ ls ↔ j4n n x) : Tells n ss (ls.map fun x => (x.2.1, x.2.2, decide (x.1 ∈ ss))) := by
 refine ⟨fun e z he => ?_, fun l hl => ?_⟩
 ·rcases j92 T he with q | q
  ·exact .inl (List.mem_map.mpr ⟨_, (h _).mpr q, rfl⟩)
  ·exact .inr (List.mem_map.mpr ⟨_, (h _).mpr q, rfl⟩)
 ·obtain ⟨x, hx, q⟩ := List.mem_map.mp hl
  obtain ⟨e, he, h1, h2⟩ := k0f T ((h x).mp hx)
  exact ⟨e, x.1, he, by rw [← q, h1, h2]⟩
theorem j8e {n : Net} (T : j02 n) {ss sd : List Str} {ls : List Bl} (t : Tells n ss ls) (hs : Srt sd) (hm : ∀ x ∈ sd, x ∈ n.map (·.1)) (hc : ∀ z, z ∈ ss ↔ j6a n sd z) {b : Bool} (w : Way ls (fstN n) (fstN n) b) (hb : fstN n ∈ sd ↔ b = true) : IsSide n ss sd := by
 refine ⟨hs, hm, fun hf => ?_, hc⟩
 have e := k2k T t hc w
 rw [hb.mp hf, decide_eq_true hf] at e
 cases e
theorem j6c {n : Net} (T : j02 n) {e : End} {z : Str} (h : j0s n e = some z) : (other n e).1 < n.length := j1h (j1t T h).1
end Nt
namespace D4
open PySem L2 Nt Sort2
def k7a : Sp := fun vs H Q _ => ∃ (R : Addr) (as : List (Addr × Addr)) (n : Net) (b : Int) (z pt : Str), vs = [.ref R, .int b, .str z, .str pt] ∧ RowsAt H R as n ∧ j02 n ∧ Full n ∧ z ∉ ties n ∧ n.length ≤ 100 ∧ (ties n).length ≤ 100 ∧
 ∀ i as' n' H', RowsAt H' R as' n' → Keep H H' (R :: as.map (·.2)) → (∀ a ∈ as', a ∈ as ∨ H a.2 = none) → (ties n').Perm (z :: z :: ties n) → (n'.map (·.1) = n.map (·.1) ∨ n'.map (·.1) = n.map (·.1) ++ [pt]) → Full n' → (Hang n → Hang n') → Q (.int i) H'
section
variable {P : Program} {w : World} {K : PySem.W.Frag} {mg : Str → Option Value} {base : Heap}
abbrev NP : List Str := ["_law_rows", "_law_big_here", "_law_tie", "_law_point", "_law_corners", "_law_r", "_law_place", "_law_one", "_law_kind", "_law_face_here", "_law_other_here", "_law_spot"]
theorem scPut : FnScope NP ["_law_rows", "_law_big_here", "_law_tie", "_law_point"] (j0h sPut) := ⟨rfl, rfl, rfl, by decide +kernel, rfl, by decide +kernel, by decide +kernel⟩
theorem k2h {ts : List Addr} {j : Nat} {t : Addr} (h : ts[j]? = some t) : atI (ts.map V.ref) (j : Int) = some (.ref t) := j4c (by rw [List.getElem?_map, h]; rfl)
theorem k9h {f : Addr} {fd : FuncData} (F : Fun K "_law_put" "_law_put" sPut f fd) (T : Txt mg)
  (GS : Has P w K mg base 3 "_law_seats" ["_law_rows"] j6z)
  (GF : Has P w K mg base 3 "_law_face" ["_law_rows", "_law_seats_here", "_law_end"] k3e) :
  FnOk P w K mg base CX0 4 f fd ["_law_rows", "_law_big_here", "_law_tie", "_law_point"] k7a := by
 refine F.gb scPut (fun vs H Q E h => ?_) (fun b0 H vs Q E hr h => ?_)
 ·obtain ⟨R, as, n, b, z, pt, rfl, _⟩ := h
  rfl
 obtain ⟨R, as, n, b, z, pt, rfl, hR, hT, hF, hz, hn, htn, q⟩ := h
 have nd := scPut.nd
 have hu := hr.u100
 have hal := hR.len
 show Run _ _ _ [some (.ref R), some (.int b), some (.str z), some (.str pt), none, none, none, none, none, none, none, none] H
 refine j0i 4 nd (j1p (j0g ⟨(by show 0 ≤ sizeLine; decide), fun lc hlc => ?_⟩))
 have g0 := j0e hlc (.lst [])
 refine j17 T.range (j06 j0m T.len boot_len (j0a (ev_v 0 (j0g ⟨R, _, rfl, .inl (SqL.of (g0 _ _ hR.lst)), _, rfl, by omega, by rw [List.length_map]; omega, ?_⟩))))
 rw [List.length_map, hal, Int.toNat_natCast]
 refine j1v (fun r σ H3 => ∃ (ts : List Addr) (cs : List Nt.End) (u1 u2 : Option V), Same H H3 ∧ H3 lc = some (.lst (ts.map V.ref)) ∧ Pd H3 ts cs ∧ (∀ c ∈ cs, j22 n c) ∧ (0 < r → cs ≠ []) ∧ cs.length ≤ 101 * r ∧ σ = [some (.ref R), some (.int b), some (.str z), some (.str pt), some (.ref lc), u1, u2, none, none, none, none, none]) ⟨[], [], _, _, g0, j0b, .nil, fun c hc => (nomatch hc), fun h => absurd h (by decide), Nat.le_refl _, rfl⟩ ?_ ?_
 ·rintro r σ H3 hi ⟨ts, cs, u1, u2, sH, el, ep, hc, hne, hlen, rfl⟩
  rw [Int.zero_add]
  refine j0j 5 nd ?_
  obtain ⟨a, ea, eat, et, ell, er⟩ := (hR.same sH).at hi
  have hrl := j2y n r
  refine j17 T.range (j06 (j68 rfl) T.max PyProof.Rows.boot_max (j0a (j0f (j0a (j06 j0m T.len boot_len (j0a (j0r j0z (j0r j0x (ev_v 0 (ev_v 5 ⟨R, _, _, .ref a.1, rfl, rfl, SqL.of (sH _ _ hR.lst), eat, j0f ⟨a.1, _, _, .ref a.2, rfl, rfl, SqT.of et, rfl, j0g ⟨a.2, _, rfl, .inl (SqL.of ell), ?_⟩⟩⟩))))))))))
  rw [List.length_map]
  have em : (if ((row n r).length : Int) > 1 then ((row n r).length : Int) else 1) = ((max 1 (row n r).length : Nat) : Int) := by
   split <;> omega
  refine j0g ⟨1, _, rfl, ((max 1 (row n r).length : Nat) : Int), by rw [em], by omega, by omega, ?_⟩
  rw [Int.toNat_natCast]
  refine j1v (fun p σ H4 => ∃ (ts : List Addr) (cs : List Nt.End) (u2 : Option V), Same H H4 ∧ H4 lc = some (.lst (ts.map V.ref)) ∧ Pd H4 ts cs ∧ (∀ c ∈ cs, j22 n c) ∧ (0 < r + p → cs ≠ []) ∧ cs.length ≤ 101 * r + p ∧ σ = [some (.ref R), some (.int b), some (.str z), some (.str pt), some (.ref lc), some (.int (r : Int)), u2, none, none, none, none, none]) ⟨ts, cs, _, sH, el, ep, hc, hne, hlen, rfl⟩ ?_ ?_
  ·rintro p σ H4 hp ⟨ts, cs, u2, sH, el, ep, hc, hne, hlen, rfl⟩
   rw [Int.zero_add]
   refine j0j 6 nd ?_
   refine j1m (j1o (ev_v 4 ⟨lc, rfl, ⟨_, el⟩, j13 (j0a (ev_v 5 (j0a (ev_v 6 (j0g ⟨(by show 2 ≤ sizeLine; decide), fun t ht => ?_⟩)))))⟩))
   have htl : lc ≠ t := j0d el ht
   have s2 := j0e ht (Tp (r, p))
   have epl := ep.length
   refine ⟨ts.map V.ref, by rw [j0c htl]; exact el, by rw [List.length_map]; exact j0u (by omega), ?_⟩
   refine j0l ⟨ts ++ [t], cs ++ [(r, p)], _, j01 (sH.trans s2) hlc, by rw [j0b, List.map_append]; rfl, ?_, fun c h => ?_, fun _ => by simp, by rw [List.length_append]; simp; omega, rfl⟩
   ·refine Pd.append (ep.keep fun x e h => ?_) (.cons ?_ .nil)
    ·rw [j0c (j24 h el)]
     exact s2 _ _ h
    ·rw [j0c htl.symm, j0b]
   ·rcases List.mem_append.mp h with h | h
    ·exact hc c h
    ·rw [List.mem_singleton] at h
     subst h
     exact ⟨hi, hp⟩
  ·rintro σ H4 ⟨ts, cs, u2, sH, el, ep, hc, hne, hlen, rfl⟩
   refine j0l ⟨ts, cs, _, _, sH, el, ep, hc, fun _ => hne (by omega), by omega, rfl⟩
 rintro σ H3 ⟨ts, cs, u1, u2, sH, el, ep, hc, hne, hlen, rfl⟩
 have hn0 : 0 < n.length := List.length_pos_iff.mpr hF.some
 have cne := hne hn0
 have cpos : 0 < cs.length := List.length_pos_iff.mpr cne
 have epl := ep.length
 have m0 : 0 ≤ b % (cs.length : Int) := Int.emod_nonneg _ (by omega)
 have m1 : b % (cs.length : Int) < cs.length := Int.emod_lt_of_pos _ (by omega)
 obtain ⟨j, hj⟩ : ∃ j : Nat, b % (cs.length : Int) = j := ⟨(b % (cs.length : Int)).toNat, by omega⟩
 have hjl : j < cs.length := by omega
 have hce : cs[j]? = some cs[j] := List.getElem?_eq_getElem hjl
 obtain ⟨t1, et1, e1⟩ := ep.at hce
 have hcc : j22 n cs[j] := hc _ (List.getElem_mem hjl)
 generalize cs[j] = c1 at e1 hcc
 refine j0i 7 nd (j0r j0x (ev_v 4 (j0o j1b (ev_v 1 (j06 j0m T.len boot_len (j0a (ev_v 4 (j0g ⟨lc, _, rfl, .inl (SqL.of el), ?_⟩))))))))
 rw [List.length_map, epl]
 refine ⟨_, _, rfl, rfl, by omega, lc, _, _, .ref t1, rfl, rfl, SqL.of el, by rw [hj]; exact k2h et1, ?_⟩
 refine j0i 1 nd (j0o j1y (ev_v 1 (j06 j0m T.len boot_len (j0a (ev_v 4 (j0g ⟨lc, _, rfl, .inl (SqL.of el), ?_⟩))))))
 rw [List.length_map, epl]
 refine ⟨_, _, rfl, rfl, ⟨by omega, by omega⟩, ?_⟩
 show Run _ _ _ [some (.ref R), some (.int (b / (cs.length : Int))), some (.str z), some (.str pt), some (.ref lc), u1, u2, some (.ref t1), none, none, none, none] H3
 generalize b / (cs.length : Int) = b2
 refine j0i 8 nd (j0o j1b (ev_v 1 (j0f ⟨_, _, rfl, rfl, (by show (0 : Int) < 3; decide), ?_⟩)))
 refine j0i 1 nd (j0o j1y (ev_v 1 (j0f ⟨_, _, rfl, rfl, ⟨by decide, by decide⟩, ?_⟩)))
 show Run _ _ _ [some (.ref R), some (.int (b2 / 3)), some (.str z), some (.str pt), some (.ref lc), u1, u2, some (.ref t1), some (.int (b2 % 3)), none, none, none] H3
 generalize b2 / 3 = b3
 have hR3 := hR.same sH
 obtain ⟨a, ea, eat, eta, ela, era⟩ := hR3.at hcc.1
 have insOk : ∀ (m : Net), (ties m).length ≤ 200 → ∀ i, (row m i).length ≤ 200 := fun m h i => Nat.le_trans (j2y m i) h
 have cin : c1.2 ≤ (row n c1.1).length := by
  have := hcc.2
  omega
 refine j4b (j1e j4i (ev_v 8 (j0f ⟨rfl, _, rfl, ?_⟩)))
 refine ite2 (fun _ => ?_) (fun _ => j0l ?_)
 ·
  have rl := j2y n c1.1
  refine j1m (k71 PySem.F.plainAttrs_list PySem.F.slot_list_insert PySem.F.type_list_insert j73 (j0r j0z (j0r j0x (ev_v 0 (j0r j0z (ev_v 7 (j0f ⟨t1, _, _, .int (c1.1 : Int), rfl, rfl, SqT.of e1, rfl, R, _, _, .ref a.1, rfl, rfl, SqL.of hR3.lst, eat, j0f ⟨a.1, _, _, .ref a.2, rfl, rfl, SqT.of eta, rfl, Or.inl ⟨rfl, _, SqL.of ela⟩, ?_⟩⟩)))))))
  refine j0r j0z (ev_v 7 (j0f ⟨t1, _, _, .int (c1.2 : Int), rfl, rfl, SqT.of e1, rfl, ev_v 2 ⟨a.2, _, _, _, rfl, rfl, ela, by omega, by rw [Int.toNat_natCast, List.length_map]; exact cin, by rw [List.length_map]; exact j0u (by omega), ?_⟩⟩))
  rw [Int.toNat_natCast, k6m]
  have R4 := hR3.ins (z := z) ea hcc.1
  refine j1m (j1o (ev_v 0 ⟨R, rfl, ⟨_, R4.lst⟩, j13 (j0a (ev_v 3 (j0a (j1p (j0a (ev_v 2 (j0g ⟨(by show 1 ≤ sizeLine; decide), fun l1 hl1 => ?_⟩)))))))⟩))
  refine j0g ⟨(by show 2 ≤ sizeLine; decide), fun t2 ht2 => ?_⟩
  have s5 := j0e hl1 (Ls [z])
  have s6 := j0e ht2 (.tup [.str pt, .ref l1])
  have R6 := (R4.same s5).same s6
  refine ⟨_, R6.lst, by rw [List.length_map]; exact j0u (by omega), ?_⟩
  have l1f : H3 l1 = none := by
   by_cases q1 : l1 = a.2
   ·rw [q1, j0b] at hl1; cases hl1
   ·rwa [j0c q1] at hl1
  have l1n : l1 ∉ as.map (·.2) := fun hm => by
   obtain ⟨x, hx, e⟩ := List.mem_map.mp hm
   exact R4.fresh hl1 hx e.symm
  have l1R : l1 ≠ R := fun e => by rw [e, R4.lst] at hl1; cases hl1
  have R7 := R6.more (t := t2) (l := l1) (pt := pt) (zs := [z]) j0b (s6 _ _ j0b) l1n l1R
  refine j0p (ev_v 1 (q _ _ _ _ R7 (fun x o hx hbad => ?_) (fun x hx => ?_) ?_ (.inr ?_) ?_ fun hh => k2o (j6b hh) (k7z hcc.1)))
  ·have x1 : x ≠ R := fun e => hbad (by rw [e]; exact List.mem_cons_self)
   have x2 : x ≠ a.2 := fun e => hbad (List.mem_cons_of_mem _ (by rw [e]; exact List.mem_map.mpr ⟨a, List.mem_of_getElem? ea, rfl⟩))
   rw [j0c x1]
   refine s6 _ _ (s5 _ _ ?_)
   rw [j0c x2]
   exact sH _ _ hx
  ·rcases List.mem_append.mp hx with hx | hx
   ·exact .inl hx
   ·rw [List.mem_singleton] at hx
    subst hx
    exact .inr (sH.free l1f)
  ·unfold ties
   rw [List.flatMap_append]
   show (ties (ins n c1 z) ++ [z]).Perm _
   refine (List.perm_append_comm).trans ?_
   exact (j32 n c1 z hcc.1).cons z
  ·rw [List.map_append, j44]
   rfl
  ·refine .inr ⟨by simp, fun i hi => ?_⟩
   have hfi := (j6k (z := z) hF hcc.1 hF.either).1
   rw [List.length_append] at hi
   simp at hi
   rcases Nat.lt_or_ge i (ins n c1 z).length with h | h
   ·have := hfi i h
    unfold row at this ⊢
    rw [List.getElem?_append_left h]
    exact this
   ·unfold row
    rw [List.getElem?_append_right h, show i - (ins n c1 z).length = 0 by omega]
    simp
 ·
  refine j0i 9 nd (j1p (j0a (ev_v 7 (j0g ⟨(by show 1 ≤ sizeLine; decide), fun lf hlf => ?_⟩))))
  have s4 := j0e hlf (.lst [.ref t1])
  have sH4 := sH.trans s4
  have hR4 := hR3.same s4
  obtain ⟨a0, ea0, eat0, et0, el0, er0⟩ := hR4.at hn0
  have lf0 : ∀ x ∈ as, lf ≠ x.2 := fun x hx => hR3.fresh hlf hx
  show Run _ _ _ [some (.ref R), some (.int b3), some (.str z), some (.str pt), some (.ref lc), u1, u2, some (.ref t1), some (.int (b2 % 3)), some (.ref lf), none, none] (upd H3 lf (.lst [.ref t1]))
  refine k3s (fun k H' => Same (upd H3 lf (.lst [.ref t1])) H' ∧ (k = true → row n 0 ≠ [])) (fun σ' H' => ∃ (lf : Addr) (ts2 : List Addr) (fs : List Nt.End), Same H3 H' ∧ (∀ x ∈ as, lf ≠ x.2) ∧ H' lf = some (.lst (ts2.map V.ref)) ∧ Pd H' ts2 fs ∧ 0 < fs.length ∧ fs.length ≤ 1000 ∧ (∀ c ∈ fs, j22 n c) ∧
   σ' = [some (.ref R), some (.int b3), some (.str z), some (.str pt), some (.ref lc), u1, u2, some (.ref t1), some (.int (b2 % 3)), some (.ref lf), none, none]) ?_ ?_ (fun H5 ⟨s5, _⟩ => j0l ⟨lf, [t1], [c1], s4.trans s5, lf0, s5 _ _ j0b, .cons (s5 _ _ (s4 _ _ e1)) .nil, Nat.one_pos, by show 1 ≤ 1000; decide, fun c hcm => by rw [List.mem_singleton] at hcm; rw [hcm]; exact hcc, rfl⟩) ?_
  ·refine j1e (j7o hu) (j0r j0z (j0r j0x (ev_v 0 (j0f ⟨R, _, _, .ref a0.1, rfl, rfl, SqL.of hR4.lst, eat0, j0f ⟨a0.1, _, _, .ref a0.2, rfl, rfl, SqT.of et0, rfl, j1p (j0g ⟨(by show 0 ≤ sizeLine; decide), fun p hp => ?_⟩)⟩⟩))))
   have s5 := j0e hp (.lst [])
   by_cases h0 : row n 0 = []
   ·refine ⟨1, _, by decide, j6v (k := 0) (xs := []) (ys := []) (fun _ => true) (SqL.of (by rw [s5 _ _ el0, h0]; rfl)) (SqL.of j0b) rfl (fun j x y hx _ => by simp at hx), _, rfl, s5, fun h => by cases h⟩
   ·refine ⟨1, _, by decide, k0a (k := 1) (SqL.of (s5 _ _ el0)) (SqL.of (xs := []) j0b) (by rw [List.length_map]; intro h; exact h0 (List.length_eq_zero_iff.mp h)), _, rfl, s5, fun _ => h0⟩
  ·rintro H4 ⟨s45, h0⟩
   have h0 := h0 rfl
   have hR4 := hR4.same s45
   have he1 := hF.corner h0 hcc
   have hel := j4x n
   refine j0i 9 nd (j0t GF hr (j0a (ev_v 0 (j0a (j0t GS hr (j0a (ev_v 0 (j0g ⟨R, as, n, rfl, hR4, by omega, by omega, fun d ks H5 s5 n5 S5 => ?_⟩))))))))
   refine j0a (ev_v 7 (j0g ⟨R, d, t1, as, n, ks, c1, rfl, hR4.same s5, S5, hT, s5 _ _ (s45 _ _ (s4 _ _ e1)), he1, by omega, fun l6 ts6 fs6 H6 s6 n6 e6 p6 f6 => ?_⟩))
   exact j0l ⟨l6, ts6, fs6, s4.trans (s45.trans (s5.trans s6)), fun x hx => (hR4.same s5).fresh n6 hx, e6, p6, f6.pos, by have := f6.len; omega, fun c hcm => k20 (f6.ends hT he1 c hcm), rfl⟩
  ·rintro σ' H5 ⟨lf, ts2, fs, s5, lfn, elf, epf, fpos, flen, fcor, rfl⟩
   have epl2 := epf.length
   have n0 : 0 ≤ b3 % (fs.length : Int) := Int.emod_nonneg _ (by omega)
   have n1 : b3 % (fs.length : Int) < fs.length := Int.emod_lt_of_pos _ (by omega)
   obtain ⟨j2, hj2⟩ : ∃ j : Nat, b3 % (fs.length : Int) = j := ⟨(b3 % (fs.length : Int)).toNat, by omega⟩
   have hjl2 : j2 < fs.length := by omega
   have hce2 : fs[j2]? = some fs[j2] := List.getElem?_eq_getElem hjl2
   obtain ⟨t2, et2, e2⟩ := epf.at hce2
   have hcc2 : j22 n fs[j2] := fcor _ (List.getElem_mem hjl2)
   generalize fs[j2] = c2 at e2 hcc2
   have e1' := s5 _ _ e1
   refine j0i 10 nd (j0r j0x (ev_v 9 (j0o j1b (ev_v 1 (j06 j0m T.len boot_len (j0a (ev_v 9 (j0g ⟨lf, _, rfl, .inl (SqL.of elf), ?_⟩))))))))
   rw [List.length_map, epl2]
   refine ⟨_, _, rfl, rfl, by omega, lf, _, _, .ref t2, rfl, rfl, SqL.of elf, by rw [hj2]; exact k2h et2, ?_⟩
   have hR5 := hR3.same s5
   show Run _ _ _ [some (.ref R), some (.int b3), some (.str z), some (.str pt), some (.ref lc), u1, u2, some (.ref t1), some (.int (b2 % 3)), some (.ref lf), some (.ref t2), none] H5
   refine j2e (k0n T.sorted (j1p (j0a (ev_v 7 (j0a (ev_v 10 (j0g ⟨(by show 2 ≤ sizeLine; decide), fun l2 hl2 => ?_⟩)))))))
   have s6 := j0e hl2 (.lst [.ref t1, .ref t2])
   refine ⟨l2, t1, t2, (c1.1 : Int), (c1.2 : Int), (c2.1 : Int), (c2.2 : Int), rfl, j0b, s6 _ _ e1', s6 _ _ e2, fun rr hrr => ?_⟩
   have rn : ∀ x ∈ as, rr ≠ x.2 := fun x hx => (hR5.same s6).fresh hrr hx
   obtain ⟨x1, x2, k1, k2, hxs, f1, f2, q1, q2⟩ : ∃ x1 x2 k1 k2, (if lexLt ((c1.1 : Int), (c1.2 : Int)) ((c2.1 : Int), (c2.2 : Int)) = true then [V.ref t2, .ref t1] else [.ref t1, .ref t2]) = [.ref x1, .ref x2] ∧ (upd H5 l2 (.lst [.ref t1, .ref t2])) x1 = some (Tp k1) ∧ (upd H5 l2 (.lst [.ref t1, .ref t2])) x2 = some (Tp k2) ∧ j22 n k1 ∧ j22 n k2 := by
    cases lexLt ((c1.1 : Int), (c1.2 : Int)) ((c2.1 : Int), (c2.2 : Int)) with
    | true => exact ⟨t2, t1, c2, c1, rfl, s6 _ _ e2, s6 _ _ e1', hcc2, hcc⟩
    | false => exact ⟨t1, t2, c1, c2, rfl, s6 _ _ e1', s6 _ _ e2, hcc, hcc2⟩
   rw [hxs]
   have s7 := j0e hrr (.lst [.ref x1, .ref x2])
   have f1 := s7 _ _ f1
   have f2 := s7 _ _ f2
   have s6 := s6.trans s7
   have fr := j0b (H := upd H5 l2 (.lst [.ref t1, .ref t2])) (a := rr) (o := .lst [.ref x1, .ref x2])
   generalize upd (upd H5 l2 (.lst [.ref t1, .ref t2])) rr (.lst [.ref x1, .ref x2]) = H6 at f1 f2 s6 fr ⊢
   have sH6 : Same H H6 := sH.trans (s5.trans s6)
   have hR6 := hR5.same s6
   have keep0 : Keep H H6 (R :: as.map (·.2)) := fun x o hx _ => sH6 _ _ hx
   refine ⟨rr, rfl, ⟨_, SqL.of fr⟩, j1x (xs := [.ref x1, .ref x2]) (fun i σ H7 => ∃ (m : Net) (u : Option V), RowsAt H7 R as m ∧ Keep H H7 (R :: as.map (·.2)) ∧ H7 rr = some (.lst [.ref x1, .ref x2]) ∧ H7 lf = some (.lst (ts2.map V.ref)) ∧ H7 x1 = some (Tp k1) ∧ H7 x2 = some (Tp k2) ∧
    ((i = 0 ∧ m = n) ∨ (i = 1 ∧ m = ins n k1 z) ∨ (i = 2 ∧ m = ins (ins n k1 z) k2 z)) ∧ σ = [some (.ref R), some (.int b3), some (.str z), some (.str pt), some (.ref lc), u1, u2, some (.ref t1), some (.int (b2 % 3)), some (.ref lf), some (.ref t2), u]) ⟨n, _, hR6, keep0, fr, s6 _ _ elf, f1, f2, .inl ⟨rfl, rfl⟩, rfl⟩ ?_ ?_ ?_⟩
   ·rintro i σ H7 _ ⟨m, u, _, _, fr7, _⟩
    exact SqL.of fr7
   ·rintro i v σ H7 hv ⟨m, u, hR7, kp7, fr7, fl7, g1, g2, hm, rfl⟩
    have ti1 := (j32 n k1 z q1.1).length_eq
    rw [List.length_cons] at ti1
    obtain ⟨y, k, rfl, hy, hk, hnext, hml⟩ : ∃ y k, v = .ref y ∧ H7 y = some (Tp k) ∧ j22 m k ∧ ((i + 1 = 0 ∧ ins m k z = n) ∨ (i + 1 = 1 ∧ ins m k z = ins n k1 z) ∨ (i + 1 = 2 ∧ ins m k z = ins (ins n k1 z) k2 z)) ∧ (ties m).length ≤ 200 := by
     rcases hm with ⟨rfl, rfl⟩ | ⟨rfl, rfl⟩ | ⟨rfl, rfl⟩
     ·cases hv
      exact ⟨x1, k1, rfl, g1, q1, .inr (.inl ⟨rfl, rfl⟩), by omega⟩
     ·cases hv
      exact ⟨x2, k2, rfl, g2, j4k q2 q1.1, .inr (.inr ⟨rfl, rfl⟩), by omega⟩
     ·simp at hv
    refine j0j 11 nd ?_
    obtain ⟨a', ea', eat', eta', ela', era'⟩ := hR7.at hk.1
    have rl := j2y m k.1
    have kin : k.2 ≤ (row m k.1).length := by
     have := hk.2
     omega
    refine j1m (k71 PySem.F.plainAttrs_list PySem.F.slot_list_insert PySem.F.type_list_insert j73 (j0r j0z (j0r j0x (ev_v 0 (j0r j0z (ev_v 11 (j0f ⟨y, _, _, .int (k.1 : Int), rfl, rfl, SqT.of hy, rfl, R, _, _, .ref a'.1, rfl, rfl, SqL.of hR7.lst, eat', j0f ⟨a'.1, _, _, .ref a'.2, rfl, rfl, SqT.of eta', rfl, Or.inl ⟨rfl, _, SqL.of ela'⟩, ?_⟩⟩)))))))
    refine j0r j0z (ev_v 11 (j0f ⟨y, _, _, .int (k.2 : Int), rfl, rfl, SqT.of hy, rfl, ev_v 2 ⟨a'.2, _, _, _, rfl, rfl, ela', by omega, by rw [Int.toNat_natCast, List.length_map]; exact kin, by rw [List.length_map]; exact j0u (by omega), ?_⟩⟩))
    rw [Int.toNat_natCast, k6m]
    have am : a' ∈ as := List.mem_of_getElem? ea'
    refine j0l ⟨ins m k z, _, hR7.ins ea' hk.1, fun x o hx hbad => ?_, by rw [j0c (rn a' am)]; exact fr7, by rw [j0c (lfn a' am)]; exact fl7, by rw [j0c (j24 g1 ela')]; exact g1, by rw [j0c (j24 g2 ela')]; exact g2, hnext, rfl⟩
    have x2 : x ≠ a'.2 := fun e => hbad (List.mem_cons_of_mem _ (by rw [e]; exact List.mem_map.mpr ⟨a', am, rfl⟩))
    rw [j0c x2]
    exact kp7 x o hx hbad
   ·rintro σ H7 ⟨m, u, hR7, kp7, fr7, fl7, g1, g2, hm, rfl⟩
    have em : m = ins (ins n k1 z) k2 z := by
     rcases hm with ⟨h, _⟩ | ⟨h, _⟩ | ⟨_, h⟩
     ·exact absurd h (by show ¬ (2 = 0); decide)
     ·exact absurd h (by show ¬ (2 = 1); decide)
     ·exact h
    refine j0p (j0o j1y (ev_v 1 (j06 j0m T.len boot_len (j0a (ev_v 9 (j0g ⟨lf, _, rfl, .inl (SqL.of fl7), ?_⟩))))))
    rw [List.length_map, epl2]
    refine ⟨_, _, rfl, rfl, ⟨by omega, by omega⟩, ?_⟩
    have fi := j6k (z := z) hF q1.1 hF.either
    have F2 : Full (ins n k1 z) := .inr ⟨fi.2, fi.1⟩
    have fi2 := j6k (z := z) F2 (j4k (z := z) q2 q1.1).1 F2.either
    subst em
    exact q _ as _ H7 hR7 kp7 (fun x hx => .inl hx) ((j32 _ k2 z (j4k (z := z) q2 q1.1).1).trans ((j32 n k1 z q1.1).cons z)) (.inl (by rw [j44, j44])) (.inr ⟨fi2.2, fi2.1⟩) fun hh => j6b (j6b hh)
end
end D4
namespace D4
open PySem L2 Nt Sort2
def k87 : Sp := fun vs H Q _ => ∃ (b m sm : Int), vs = [.int b, .int m, .int sm] ∧ 0 ≤ m ∧ m ≤ 35 ∧
 ∀ L as n H', Same H H' → H L = none → RowsAt H' L as n → j02 n → (n.map (·.1)).Nodup → Full n → Hang n → (ties n).length ≤ 2 * m.toNat → n.length ≤ m.toNat + 1 → (∀ a ∈ as, H a.2 = none) → Q (.ref L) H'
section
variable {P : Program} {w : World} {K : PySem.W.Frag} {mg : Str → Option Value} {base : Heap}
abbrev NB : List Str := ["_law_big_here", "_law_most", "_law_stem", "_law_many", "_law_ties", "_law_points", "_law_rows", "_law_k", "_law_told", "_law_row", "_law_size"]
theorem scNet : FnScope NB ["_law_big_here", "_law_most", "_law_stem"] (j0h sNet) := ⟨rfl, rfl, rfl, by decide +kernel, rfl, by decide +kernel, by decide +kernel⟩
theorem q08 {H : Hp} {d : Addr} {xs : List V} (h : H d = some (.lst xs)) : tyV K "list" (.ref d) H := Or.inl ⟨rfl, xs, SqL.of h⟩
theorem j25 {b : Int} {m i : Nat} (h : i < m) : atI ((namesOf b m).map V.str) (i : Int) = some (.str (nameOf b i)) := j5k (k0v h)
theorem q1g {f : Addr} {fd : FuncData} (F : Fun K "_law_net_by" "_law_net_by" sNet f fd) (T : Txt mg)
  (GN : Has P w K mg base 4 "_law_names" ["_law_stem", "_law_many"] j8q)
  (GP : Has P w K mg base 4 "_law_put" ["_law_rows", "_law_big_here", "_law_tie", "_law_point"] k7a) :
  FnOk P w K mg base CX0 5 f fd ["_law_big_here", "_law_most", "_law_stem"] k87 := by
 refine F.gb scNet (fun vs H Q E h => ?_) (fun b0 H vs Q E hr h => ?_)
 ·obtain ⟨b, m, sm, rfl, _⟩ := h
  rfl
 obtain ⟨b, m, sm, rfl, m0, m35, q⟩ := h
 have nd := scNet.nd
 have hu := hr.u100
 have k0 : 0 ≤ b % (m + 1) := Int.emod_nonneg _ (by omega)
 have k1 : b % (m + 1) < m + 1 := Int.emod_lt_of_pos _ (by omega)
 obtain ⟨mn, hmn⟩ : ∃ k : Nat, b % (m + 1) = k := ⟨(b % (m + 1)).toNat, by omega⟩
 have hmm : mn ≤ m.toNat := by omega
 show Run _ _ _ [some (.int b), some (.int m), some (.int sm), none, none, none, none, none, none, none, none] H
 refine j0i 3 nd (j0o j1b (ev_v 0 (j0o j11 (ev_v 1 (j0f ⟨_, _, rfl, rfl, ?_⟩)))))
 refine ⟨_, _, rfl, rfl, (by show 0 < m + 1; omega), ?_⟩
 refine j0i 0 nd (j0o j1y (ev_v 0 (j0o j11 (ev_v 1 (j0f ⟨_, _, rfl, rfl, ?_⟩)))))
 refine ⟨_, _, rfl, rfl, (by show CDiv b (m + 1); exact ⟨by omega, by omega⟩), ?_⟩
 show Run _ _ _ [some (.int (b / (m + 1))), some (.int m), some (.int sm), some (.int (b % (m + 1))), none, none, none, none, none, none, none] H
 rw [hmn]
 generalize b / (m + 1) = b1
 refine j0i 4 nd (j0t GN hr (j0a (ev_v 2 (j0a (ev_v 3 (j0g ⟨sm, (mn : Int), rfl, by omega, by omega, fun lt H1 s1 n1 e1 => ?_⟩))))))
 rw [Int.toNat_natCast] at e1
 refine j0i 5 nd (j0t GN hr (j0a (j0r j0x (j1p (j0a (j0o j11 (j0o j1y (ev_v 2 (j0f ⟨_, _, rfl, rfl, ⟨by decide, by decide⟩, j0f ⟨_, _, rfl, rfl, j0a (ev_v 2 (j0g ⟨(by show 2 ≤ sizeLine; decide), fun p hp => ?_⟩))⟩⟩)))))))))
 refine j5c j5n T.tint PyProof.Rows.boot_int (j0a (j21 j4i (j0o j1b (ev_v 2 (j0f ⟨_, _, rfl, rfl, (by show (0 : Int) < 4; decide), j0f ⟨rfl, j0g ⟨_, rfl, ?_⟩⟩⟩)))))
 have s2 := j0e hp (.lst [.int (sm / 3 + 1), .int sm])
 obtain ⟨s2m, ex⟩ : ∃ s2m : Int, atI [V.int (sm / 3 + 1), .int sm] (if decide (V.int (sm % 4) = V.int 1) = true then 1 else 0) = some (.int s2m) := by
  cases decide (V.int (sm % 4) = V.int 1) with
  | true => exact ⟨sm, rfl⟩
  | false => exact ⟨sm / 3 + 1, rfl⟩
 refine ⟨p, _, _, .int s2m, rfl, rfl, SqL.of j0b, ex, ?_⟩
 refine j0a (j0o j11 (ev_v 3 (j0f ⟨_, _, rfl, rfl, j0g ⟨s2m, (mn : Int) + 1, rfl, by omega, by omega, fun lp H2 s3 n3 e3 => ?_⟩⟩)))
 have em : ((mn : Int) + 1).toNat = mn + 1 := by omega
 rw [em] at e3
 have sH2 : Same H H2 := s1.trans (s2.trans s3)
 have e1 : H2 lt = some (Ls (namesOf sm mn)) := s3 _ _ (s2 _ _ e1)
 show Run _ _ _ [some (.int b1), some (.int m), some (.int sm), some (.int (mn : Int)), some (.ref lt), some (.ref lp), none, none, none, none, none] H2
 refine j0i 6 nd (j1p (j0a (j13 (j0a (j0r j0x (ev_v 5 (j0f ⟨lp, _, _, .str (nameOf s2m 0), rfl, rfl, SqL.of e3, j25 (Nat.succ_pos _), j0a (j1p (j0g ⟨(by show 0 ≤ sizeLine; decide), fun l1 hl1 => ?_⟩))⟩)))))))
 refine j0g ⟨(by show 2 ≤ sizeLine; decide), fun t1 ht1 => j0g ⟨(by show 1 ≤ sizeLine; decide), fun R hRn => ?_⟩⟩
 have s4 := j0e hl1 (Ls [])
 have s5 := j0e ht1 (.tup [.str (nameOf s2m 0), .ref l1])
 have s6 := j0e hRn (.lst [.ref t1])
 have hR0 : RowsAt (upd (upd (upd H2 l1 (.lst [])) t1 (.tup [.str (nameOf s2m 0), .ref l1])) R (.lst [.ref t1])) R [(t1, l1)] [(nameOf s2m 0, [])] := by
  refine ⟨rfl, j0b, fun i a r h1 h2 => ?_, by simp⟩
  cases i with
  | zero =>
   cases h1
   cases h2
   exact ⟨s6 _ _ j0b, s6 _ _ (s5 _ _ j0b)⟩
  | succ i => simp at h1
 have fR : H2 R = none := s4.free (s5.free hRn)
 show Run _ _ _ [some (.int b1), some (.int m), some (.int sm), some (.int (mn : Int)), some (.ref lt), some (.ref lp), some (.ref R), none, none, none, none] (upd (upd (upd H2 l1 (.lst [])) t1 (.tup [.str (nameOf s2m 0), .ref l1])) R (.lst [.ref t1]))
 refine j17 T.range (ev_v 3 ⟨(mn : Int), rfl, by omega, by omega, ?_⟩)
 rw [Int.toNat_natCast]
 refine j1v (fun k σ H3 => ∃ (as : List (Addr × Addr)) (n : Net) (b : Int) (u : Option V), RowsAt H3 R as n ∧ Same H2 H3 ∧ (∀ a ∈ as, H2 a.2 = none) ∧ Full n ∧ Hang n ∧ (ties n).Perm (dbl (namesOf sm k)) ∧ n.map (·.1) = namesOf s2m n.length ∧ n.length ≤ k + 1 ∧
  σ = [some (.int b), some (.int m), some (.int sm), some (.int (mn : Int)), some (.ref lt), some (.ref lp), some (.ref R), u, none, none, none]) ⟨_, _, b1, _, hR0, s4.trans (s5.trans s6), fun a ha => by rw [List.mem_singleton] at ha; rw [ha]; exact hl1, .inl ⟨_, rfl⟩, k4w _, List.Perm.refl _, rfl, Nat.le_refl _, rfl⟩ ?_ ?_
 ·rintro k σ H3 hk ⟨as, n, b, u, hR, sH, hfr, hF, hHg, hp, hnm, hlen, rfl⟩
  rw [Int.zero_add]
  refine j0j 7 nd ?_
  have hal := hR.len
  have tl := hp.length_eq
  rw [j81, j31] at tl
  have nz : nameOf sm k ∉ ties n := fun h => by
   have h1 := dbl_mem.mp (hp.mem_iff.mp h)
   have h2 := j2f (b := sm) (m := k + 1) (by omega)
   rw [j2q, List.nodup_append] at h2
   exact h2.2.2 _ h1 _ (List.mem_singleton.mpr rfl) rfl
  have n0 : 0 < n.length := List.length_pos_iff.mpr hF.some
  refine j0i 0 nd (j0t GP hr (j0a (ev_v 6 (j0a (ev_v 0 (j0a (j0r j0x (ev_v 4 (ev_v 7 ⟨lt, _, _, .str (nameOf sm k), rfl, rfl, SqL.of (sH _ _ e1), j25 hk, ?_⟩)))))))))
  refine j0a (j0r j0x (ev_v 5 (j06 j0m T.len boot_len (j0a (ev_v 6 (j0g ⟨R, _, rfl, .inl (SqL.of hR.lst), ?_⟩))))))
  rw [List.length_map, hal]
  refine ⟨lp, _, _, .str (nameOf s2m n.length), rfl, rfl, SqL.of (sH _ _ e3), j25 (by omega), ?_⟩
  refine j0g ⟨R, as, n, b, nameOf sm k, nameOf s2m n.length, rfl, hR, j9f (j2f (by omega)) hp, hF, nz, by omega, by omega, fun i as' n' H' hR' kp hfr' hp' hnm' hF' hHg' => ?_⟩
  have sH' : Same H2 H' := fun x o hx => by
   refine kp x o (sH _ _ hx) fun hm => ?_
   rcases List.mem_cons.mp hm with h | h
   ·rw [h, fR] at hx; cases hx
   ·obtain ⟨y, hy, e⟩ := List.mem_map.mp h
    rw [← e, hfr y hy] at hx; cases hx
  refine j0l ⟨as', n', i, _, hR', sH', fun y hy => ?_, hF', hHg' hHg, ?_, ?_, ?_, rfl⟩
  ·rcases hfr' y hy with h | h
   ·exact hfr y h
   ·exact sH.free h
  ·refine hp'.trans ?_
   rw [j2q, k52]
   refine List.Perm.trans ?_ List.perm_append_comm
   exact ((hp.cons _).cons _)
  ·rcases hnm' with h | h
   ·have hl := congrArg List.length h
    rw [List.length_map, List.length_map] at hl
    rw [h, hl]
    exact hnm
   ·have hl := congrArg List.length h
    rw [List.length_map, List.length_append, List.length_map] at hl
    have hl' : n'.length = n.length + 1 := hl
    rw [h, hl', j2q, hnm]
  ·rcases hnm' with h | h
   ·have hl := congrArg List.length h
    rw [List.length_map, List.length_map] at hl
    omega
   ·have hl := congrArg List.length h
    rw [List.length_map, List.length_append, List.length_map] at hl
    have hl' : n'.length = n.length + 1 := hl
    omega
 rintro σ H3 ⟨as0, n0, b, u, hR, sH, hfr, hF, hHg, hp, hnm, hlen, rfl⟩
 have tl := hp.length_eq
 rw [j81, j31] at tl
 have hT0 : j02 n0 := j9f (j2f (by omega)) hp
 have hN0 : (n0.map (·.1)).Nodup := by rw [hnm]; exact j2f (by omega)
 refine j0i 8 nd (j1p (j0g ⟨(by show 0 ≤ sizeLine; decide), fun L hL => ?_⟩))
 have s7 := j0e hL (.lst [])
 have hRL : R ≠ L := j0d hR.lst hL
 have fL : H2 L = none := sH.free hL
 have hL0 : RowsAt (upd H3 L (.lst [])) L [] [] := ⟨rfl, j0b, fun i a r h1 => by simp at h1, by simp⟩
 refine j3d (fun k σ H4 => ∃ (as as2 : List (Addr × Addr)) (n n2 : Net) (b : Int) (u9 u10 : Option V), k = n.length ∧ RowsAt H4 R as n ∧ RowsAt H4 L as2 n2 ∧ Same H2 H4 ∧ (∀ a ∈ as, a.2 ≠ L) ∧ (∀ a ∈ as2, a.2 ≠ R) ∧ (∀ a ∈ as2, H2 a.2 = none) ∧ n.length + n2.length = n0.length ∧
   (ties n ++ ties n2).Perm (ties n0) ∧ (n.map (·.1) ++ n2.map (·.1)).Perm (n0.map (·.1)) ∧ (NE n0 → NE n ∧ NE n2) ∧ (∀ r ∈ n0, ∃ x ∈ n ++ n2, x.1 = r.1 ∧ ∀ t ∈ r.2, t ∈ x.2) ∧ (∀ x ∈ n ++ n2, ∃ r ∈ n0, r.1 = x.1) ∧
   σ = [some (.int b), some (.int m), some (.int sm), some (.int (mn : Int)), some (.ref lt), some (.ref lp), some (.ref R), u, some (.ref L), u9, u10])
  (m0 := n0.length) ⟨as0, [], n0, [], b, _, _, rfl, hR.same s7, hL0, sH.trans s7, fun a ha => (hR.fresh hL ha).symm, fun a ha => (nomatch ha), fun a ha => (nomatch ha), rfl, by simp [ties], by simp, fun h => ⟨h, fun r hr => (nomatch hr)⟩, fun r hr => ⟨r, by rw [List.append_nil]; exact hr, rfl, fun t ht => ht⟩, fun x hx => ⟨x, by rw [List.append_nil] at hx; exact hx, rfl⟩, rfl⟩ ?_
 rintro k σ H4 ⟨as, as2, n, n2, b, u9, u10, rfl, hR, hL2, sH, aL, aR, fr2, hlen2, pt, pn, hne, hg1, hg2, rfl⟩
 have hal := hR.len
 have hal2 := hL2.len
 have tlen : (ties n).length ≤ 70 := by
  have := pt.length_eq
  rw [List.length_append] at this
  omega
 refine j1e (j7o hu) (ev_v 6 (j1p (j0g ⟨(by show 0 ≤ sizeLine; decide), fun p hp2 => ?_⟩)))
 have s8 := j0e hp2 (.lst [])
 by_cases h0 : n = []
 ·subst h0
  have ea : as = [] := List.length_eq_zero_iff.mp (by simpa using hal)
  subst ea
  refine ⟨1, _, by decide, j6v (k := 0) (xs := []) (ys := []) (fun _ => true) (SqL.of (s8 _ _ hR.lst)) (SqL.of j0b) rfl (fun j x y hx _ => by simp at hx), _, rfl, iteF (j0p (ev_v 8 ?_))⟩
  have pt' : (ties n2).Perm (ties n0) := pt
  have pn' : (n2.map (·.1)).Perm (n0.map (·.1)) := pn
  have l2 : n2.length = n0.length := by simpa using hlen2
  refine q L as2 n2 _ (sH2.trans (sH.trans s8)) (sH2.free fL) (hL2.same s8) (fun z hz => ?_) (pn'.nodup_iff.mpr hN0) ?_ (k2q hg1 hg2 hHg) (by rw [pt'.length_eq]; omega) (by omega) fun a ha => sH2.free (fr2 a ha)
  ·rw [pt'.count_eq]
   exact hT0 z (pt'.mem_iff.mp hz)
  ·rcases hF.ne with ⟨nm, h⟩ | h
   ·subst h
    have t0 : ties n2 = [] := List.Perm.eq_nil pt'
    match n2, l2, t0 with
    | [(nm2, zs)], _, t0 =>
     have : zs = [] := by simpa [ties] using t0
     subst this
     exact .inl ⟨_, rfl⟩
   ·refine k7f (hne h).2 fun e => ?_
    rw [e] at l2
    exact hF.some (List.length_eq_zero_iff.mp l2.symm)
 ·have np : 0 < n.length := List.length_pos_iff.mpr h0
  refine ⟨1, _, by decide, k0a (k := 1) (SqL.of (s8 _ _ hR.lst)) (SqL.of (xs := []) j0b) (by rw [List.length_map, hal]; exact Nat.ne_of_gt np), _, rfl, iteT ?_⟩
  have hR := hR.same s8
  have hL2 := hL2.same s8
  have sH := sH.trans s8
  generalize upd H4 p (.lst []) = H5 at hR hL2 sH ⊢
  have r0 : 0 ≤ b % (n.length : Int) := Int.emod_nonneg _ (by omega)
  have r1 : b % (n.length : Int) < n.length := Int.emod_lt_of_pos _ (by omega)
  obtain ⟨j, hj⟩ : ∃ k : Nat, b % (n.length : Int) = k := ⟨(b % (n.length : Int)).toNat, by omega⟩
  have hjn : j < n.length := by omega
  obtain ⟨a, ea, eat, et, el, er⟩ := hR.at hjn
  refine j0i 9 nd (k7p PySem.F.plainAttrs_list PySem.F.slot_list_pop PySem.F.type_list_pop k55 (ev_v 6 ⟨q08 hR.lst, j0o j1b (ev_v 0 (j06 j0m T.len boot_len (j0a (ev_v 6 (j0g ⟨R, _, rfl, .inl (SqL.of hR.lst), ?_⟩)))))⟩))
  rw [List.length_map, hal]
  refine ⟨_, _, rfl, rfl, by omega, R, _, _, j, .ref a.1, rfl, rfl, hR.lst, by rw [hj]; omega, by rw [hj]; omega, ?_, ?_, ?_⟩
  ·rw [hj, List.length_map, hal]
   unfold seqIndex?
   have c1 : ¬ ((j : Int) < 0) := by omega
   simp only [c1, if_false]
   have c2 : (decide (0 ≤ (j : Int)) && decide ((j : Int) < (n.length : Int))) = true := by
    rw [Bool.and_eq_true, decide_eq_true_eq, decide_eq_true_eq]
    omega
   rw [if_pos c2, Int.toNat_natCast]
  ·rw [List.getElem?_map, ea]
   rfl
  have R6 := hR.erase hjn
  have am : a ∈ as := List.mem_of_getElem? ea
  have lneR : ∀ x ∈ as, x.2 ≠ R := fun x hx e => by
   obtain ⟨zs, e2⟩ := hR.lists hx
   have h3 := hR.lst
   rw [← e, e2] at h3
   have h4 := HO.lst.inj (Option.some.inj h3)
   cases as with
   | nil => cases hx
   | cons b' bs =>
    cases zs with
    | nil => simp at h4
    | cons y r => simp at h4
  have L6 := hL2.upd (o := .lst ((as.map fun a => V.ref a.1).eraseIdx j)) hR.lst hRL.symm aR
  have et6 : (upd H5 R (.lst ((as.map fun a => V.ref a.1).eraseIdx j))) a.1 = some (.tup [.str n[j].1, .ref a.2]) := by rw [j0c (j1j et hR.lst fun e => nomatch e)]; exact et
  have el6 : (upd H5 R (.lst ((as.map fun a => V.ref a.1).eraseIdx j))) a.2 = some (Ls (row n j)) := by rw [j0c (lneR a am)]; exact el
  have sH6 : Same H2 (upd H5 R (.lst ((as.map fun a => V.ref a.1).eraseIdx j))) := j01 sH fR
  generalize upd H5 R (.lst ((as.map fun a => V.ref a.1).eraseIdx j)) = H6 at R6 L6 et6 el6 sH6 ⊢
  have le6 := R6.len
  have len6 : (n.eraseIdx j).length = n.length - 1 := by rw [List.length_eraseIdx, if_pos hjn]
  refine j0i 0 nd (j0o j1y (ev_v 0 (j0o j11 (j06 j0m T.len boot_len (j0a (ev_v 6 (j0g ⟨R, _, rfl, .inl (SqL.of R6.lst), j0f ⟨_, _, rfl, rfl, ?_⟩⟩)))))))
  rw [List.length_map, le6, len6]
  refine ⟨_, _, rfl, rfl, ⟨by omega, by omega⟩, ?_⟩
  have rlen := j2y n j
  refine j0i 10 nd (j06 (j68 rfl) T.max PyProof.Rows.boot_max (j0a (j0f (j0a (j06 j0m T.len boot_len (j0a (j0r j0z (ev_v 9 (j0f ⟨a.1, _, _, .ref a.2, rfl, rfl, SqT.of et6, rfl, j0g ⟨a.2, _, rfl, .inl (SqL.of el6), ?_⟩⟩)))))))))
  rw [List.length_map]
  refine j0g ⟨1, _, rfl, ?_⟩
  have emx : (if ((row n j).length : Int) > 1 then ((row n j).length : Int) else 1) = ((max 1 (row n j).length : Nat) : Int) := by
   split <;> omega
  rw [emx]
  show Run _ _ _ [some (.int (b / ((n.length - 1 : Nat) + 1 : Int))), some (.int m), some (.int sm), some (.int (mn : Int)), some (.ref lt), some (.ref lp), some (.ref R), u, some (.ref L), some (.ref a.1), some (.int ((max 1 (row n j).length : Nat) : Int))] H6
  generalize b / ((n.length - 1 : Nat) + 1 : Int) = b2
  have z0 : 0 ≤ b2 % ((max 1 (row n j).length : Nat) : Int) := Int.emod_nonneg _ (by omega)
  obtain ⟨i, hi⟩ : ∃ k : Nat, b2 % ((max 1 (row n j).length : Nat) : Int) = k := ⟨(b2 % ((max 1 (row n j).length : Nat) : Int)).toNat, by omega⟩
  refine j1m (j1o (ev_v 8 ⟨L, rfl, ⟨_, L6.lst⟩, j13 (j0a (j0r j0z (ev_v 9 (j0f ⟨a.1, _, _, .str n[j].1, rfl, rfl, SqT.of et6, rfl, ?_⟩))))⟩))
  refine j0a (j0o k3b (j35 j5b (j0r j0z (ev_v 9 (j0f ⟨a.1, _, _, .ref a.2, rfl, rfl, SqT.of et6, rfl, j5h (j0o j1b (ev_v 0 (ev_v 10 ⟨b2, ((max 1 (row n j).length : Nat) : Int), rfl, rfl, by omega, _, rfl, j46 ⟨a.2, _, rfl, SqL.of el6, fun p1 hp1 => ?_⟩⟩)))⟩)))))
  rw [hi, j9t]
  have t1 := j0e hp1 (Ls ((row n j).drop i))
  refine j35 j5b (j0r j0z (ev_v 9 (j0f ⟨a.1, _, _, .ref a.2, rfl, rfl, SqT.of (t1 _ _ et6), rfl, j46 (j5h (j0o j1b (ev_v 0 (ev_v 10 ⟨b2, ((max 1 (row n j).length : Nat) : Int), rfl, rfl, by omega, _, rfl, a.2, _, rfl, SqL.of (t1 _ _ el6), fun p2 hp2 => ?_⟩))))⟩)))
  rw [hi, k6e]
  have t2 := j0e hp2 (Ls ((row n j).take i))
  refine ⟨p1, p2, _, _, rfl, rfl, t2 _ _ j0b, j0b, ?_, fun p3 hp3 => ?_⟩
  ·rw [List.length_map, List.length_map, List.length_drop, List.length_take]
   exact small (by omega)
  rw [← List.map_append]
  have t3 := j0e hp3 (Ls ((row n j).drop i ++ (row n j).take i))
  refine j0g ⟨(by show 2 ≤ sizeLine; decide), fun t4 ht4 => ?_⟩
  have s4 := j0e ht4 (.tup [.str n[j].1, .ref p3])
  have sAll := t1.trans (t2.trans (t3.trans s4))
  have L7 := L6.same sAll
  have R7 := R6.same sAll
  have p3L : p3 ≠ L := fun e => by rw [e, (t1.trans t2) _ _ L6.lst] at hp3; cases hp3
  have p3R : p3 ≠ R := fun e => by rw [e, (t1.trans t2) _ _ R6.lst] at hp3; cases hp3
  have p3n : p3 ∉ as2.map (·.2) := fun hm => by
   obtain ⟨y, hy, e⟩ := List.mem_map.mp hm
   exact (L6.same (t1.trans t2)).fresh hp3 hy e.symm
  have L8 := L7.more (t := t4) (l := p3) (pt := n[j].1) (zs := (row n j).drop i ++ (row n j).take i) j0b (s4 _ _ j0b) p3n p3L
  refine ⟨_, L7.lst, by rw [List.length_map, hal2]; exact j0u (by omega), ?_⟩
  have aL6 : ∀ x ∈ as.eraseIdx j, x.2 ≠ L := fun x hx => aL x (List.mem_of_mem_eraseIdx hx)
  have R8 := R7.upd (o := .lst (as2.map (fun a => V.ref a.1) ++ [.ref t4])) L7.lst hRL aL6
  refine j0i 0 nd (j0o j1y (ev_v 0 (ev_v 10 ⟨b2, ((max 1 (row n j).length : Nat) : Int), rfl, rfl, ⟨by omega, by omega⟩, ?_⟩)))
  have pe := j5z n j hjn
  have ne := j8o n j hjn
  refine j0l ⟨n.length - 1, by omega, as.eraseIdx j, as2 ++ [(t4, p3)], n.eraseIdx j, n2 ++ [(n[j].1, (row n j).drop i ++ (row n j).take i)], _, _, _, len6.symm, R8, L8, j01 (sH6.trans sAll) fL, aL6, fun x hx => ?_, fun x hx => ?_, ?_, ?_, ?_, fun h => ⟨fun r hr => ?_, fun r hr => ?_⟩, fun r hr => ?_, fun x hx => ?_, rfl⟩
  ·rcases List.mem_append.mp hx with hx | hx
   ·exact aR x hx
   ·rw [List.mem_singleton] at hx
    rw [hx]
    exact p3R
  ·rcases List.mem_append.mp hx with hx | hx
   ·exact fr2 x hx
   ·rw [List.mem_singleton] at hx
    rw [hx]
    exact sH6.free (t1.free (t2.free hp3))
  ·rw [List.length_append, len6]
   simp
   omega
  ·refine List.Perm.trans ?_ pt
   unfold ties
   rw [List.flatMap_append]
   show (ties (n.eraseIdx j) ++ (ties n2 ++ (((row n j).drop i ++ (row n j).take i) ++ []))).Perm _
   rw [List.append_nil, er]
   have w1 : (n[j].2.drop i ++ n[j].2.take i).Perm n[j].2 := j6i _ _
   refine ((w1.append_left _).append_left _).trans ?_
   have w2 : (ties n ++ ties n2).Perm ((n[j].2 ++ ties (n.eraseIdx j)) ++ ties n2) := pe.append_right _
   refine List.Perm.trans ?_ w2.symm
   rw [List.append_assoc]
   refine List.Perm.trans ?_ (List.perm_append_comm (l₁ := ties (n.eraseIdx j) ++ ties n2))
   rw [List.append_assoc]
  ·refine List.Perm.trans ?_ pn
   rw [List.map_append]
   show ((n.eraseIdx j).map (·.1) ++ (n2.map (·.1) ++ [n[j].1])).Perm _
   refine List.Perm.trans ?_ (ne.append_right _).symm
   rw [← List.append_assoc]
   exact List.perm_append_comm
  ·exact (hne h).1 r (List.mem_of_mem_eraseIdx hr)
  ·rcases List.mem_append.mp hr with hr | hr
   ·exact (hne h).2 r hr
   ·rw [List.mem_singleton] at hr
    rw [hr]
    intro e
    have w1 := (j6i (row n j) i).length_eq
    have e' : (row n j).drop i ++ (row n j).take i = [] := e
    rw [e'] at w1
    have := (hne h).1 n[j] (List.getElem_mem hjn)
    rw [er] at w1
    exact this (List.length_eq_zero_iff.mp w1.symm)
  ·obtain ⟨x, hx, e1, e2⟩ := hg1 r hr
   rcases List.mem_append.mp hx with hx | hx
   ·rcases (SetT.pick_perm n j hjn).symm.mem_iff.mp hx |> List.mem_cons.mp with q | q
    ·refine ⟨(n[j].1, (row n j).drop i ++ (row n j).take i), List.mem_append_right _ (List.mem_append_right _ (List.mem_singleton.mpr rfl)), by rw [← e1, q], fun t ht => ?_⟩
     refine (j6i (row n j) i).mem_iff.mpr ?_
     rw [er, ← q]
     exact e2 t ht
    ·exact ⟨x, List.mem_append_left _ q, e1, e2⟩
   ·exact ⟨x, List.mem_append_right _ (List.mem_append_left _ hx), e1, e2⟩
  ·rcases List.mem_append.mp hx with hx | hx
   ·exact hg2 x (List.mem_append_left _ (List.mem_of_mem_eraseIdx hx))
   ·rcases List.mem_append.mp hx with hx | hx
    ·exact hg2 x (List.mem_append_right _ hx)
    ·rw [List.mem_singleton] at hx
     obtain ⟨r, hr, e⟩ := hg2 n[j] (List.mem_append_left _ (List.getElem_mem hjn))
     exact ⟨r, hr, by rw [e, hx]⟩
end
end D4
namespace PySem
theorem getAttr?_miss_list {prog : Program} {w : World} {A : Around} {E : Value → Shared → Prop} {s : Shared} {a : Addr} {o : Obj} {xs : Array Value} {k : Nat} {name : Str} {Q : Option Value → Shared → Prop}
  (hx : s.heap.get? a = some o) (hc : o.cls = .type "list") (hdat : o.data = .seq xs k) (hd : o.dict = none) (hmiss : typeLookup (.type "list") name = pure none) (hname : (["__module__", "__name__", "__qualname__", "__doc__", "__annotations__"] : List Str).contains name = false) (hA : A.handled = none)
  (h : ∀ h' tk e, Heap.NewExcOf s.heap h' e "AttributeError" → Q none { s with heap := h', toks := tk }) (hsz : name.length + 100 ≤ sizeLine := by size_fits) :
  wpAny (model prog w) A (getAttr? (.ref a) name) Q E s := by
 obtain ⟨c, dct, dat, sl⟩ := o
 simp only at hc hdat hd
 subst hc hdat hd
 obtain ⟨hp, g, d, tk, os⟩ := s
 have hT : ∀ tk', (⟨hp, g, d, tk', os⟩ : Shared).TypeIs (.ref a) "list" := fun _ => ⟨_, hx, rfl⟩
 have f1 := sub_AttributeError
 have f3 := F.slot_list_getattribute.lookup
 have f4 := F.slot_list_getattribute.bind (.ref a)
 have f5 := am_list_getattr_none
 unfold getAttr? getAttrBy? getAttrBy
 repeat (any_goals (first | assumption | exact hT _ | ((with_reducible show wpAny _ _ (call (Value.builtin "list.__getattribute__") _ _) _ _ _); refine call_meets F.slot_list_getattribute (hT _) am_entry_list_getattribute (F.args_list_getattribute_2 _ _) (meets_getattribute_miss_list a xs k sl name _ hmiss hname hsz) ⟨hx, hA, fun h' tk' e hx' => ?_⟩) | wp_step))
 obtain ⟨t', u', he⟩ := hx'.there
 show wpAny _ _ (getattributeRaised _ _ _ _ _ _ _) _ _ _
 unfold getattributeRaised
 repeat (any_goals (first | assumption | wp_step))
 exact h _ _ _ hx'.of
end PySem
namespace PySem
namespace F
theorem entry_dict_update_loop : entryFor table "dict.update.loop" = some Builtin.«dict.update.loop» := entryFor_of_tree (by kernel_rfl)
theorem plain_dict_update_loop : plainId "dict.update.loop" = true := by decide +kernel
theorem list_no_keys : typeLookup (.type "list") "keys" = pure none := by rw [typeLookup_type, builtinLookup_eq_fast]; kernel_rfl
end F
section
variable {prog : Program} {w : World} {K : Type} [DecidableEq K] {knd : KeyKind prog w K} {A : Around} {R : Result → Shared → Prop}
def j8x (knd : KeyKind prog w K) (h : Heap) (items : List Value) (prs : List (K × Value)) : Prop :=
 items.length = prs.length ∧ ∀ (j : Nat) it, items[j]? = some it → ∃ T key k v o n, it = .ref T ∧ prs[j]? = some (k, v) ∧ knd.is k key = true ∧ h.get? T = some o ∧ o.cls = .type "tuple" ∧ o.data = .seq #[key, v] n
theorem j6r (kvs : List (K × Value)) (k : K) (v : Value) : (stored kvs k v).length ≤ kvs.length + 1 := by
 unfold stored
 split
 ·rw [List.length_map]; omega
 ·rw [List.length_append]; simp
theorem k0l {hB : Heap} {d I l : Addr} {items : List Value} {prs : List (K × Value)} (hd : hB.objs.size ≤ d) (hI : hB.objs.size ≤ I) (hdI : d ≠ I) (hl : hB.IsList l items.toArray) (hp : j8x knd hB items prs) (hn : items.length < sizeLine) (hh : A.handled = none) :
  ∀ (k i : Nat) (s : Shared) (acc : List (K × Value)), items.length - i = k → i ≤ items.length → (∀ b o, hB.get? b = some o → s.heap.get? b = some o) → s.heap.IsListIter I l i → s.heap.DictOf knd d acc → acc.length ≤ i →
   (∀ h' tk, (∀ b o, b ≠ I → b ≠ d → s.heap.get? b = some o → h'.get? b = some o) → h'.DictOf knd d ((prs.drop i).foldl (fun a p => stored a p.1 p.2) acc) → R (.ok (.ret .none)) { s with heap := h', toks := tk }) →
   codeAny (model prog w) A (.builtin "dict.update.loop" ⟨[.ref d, .ref I, rawInt i, .none], []⟩) R s := by
 have nb : ∀ b o, hB.get? b = some o → b ≠ I ∧ b ≠ d := fun b o e => ⟨Nat.ne_of_lt (Nat.lt_of_lt_of_le (Heap.lt_size e) hI), Nat.ne_of_lt (Nat.lt_of_lt_of_le (Heap.lt_size e) hd)⟩
 intro k
 induction k with
 | zero =>
  intro i s acc hk hi hkeep hst hD hal hR
  have hin : i = items.length := by omega
  refine codeAny_builtin F.entry_dict_update_loop ?_
  rw [Around.under_plainId F.plain_dict_update_loop _]
  show wpAny _ A.in1 (pyNext (.ref I) >>= _) _ _ s
  have hl' : s.heap.IsList l items.toArray := let ⟨o, ho, r⟩ := hl; ⟨o, hkeep _ _ ho, r⟩
  refine wpAny_bind (wpAny_pyNext_list_end hh hst hl' (by simp; omega) fun h' eb => ?_)
  show wpAny _ A.in1 (Builtin.Dict.addKeywords d [] >>= _) _ _ _
  refine wpAny_bind (wpAny_pure (wpAny_pure ?_))
  refine hR h' s.toks (fun b o hb _ e => eb b o hb e) ?_
  rw [List.drop_eq_nil_of_le (by have := hp.1; omega)]
  exact hD.extBut eb hdI
 | succ k ih =>
  intro i s acc hk hi hkeep hst hD hal hR
  have hlt : i < items.length := by omega
  have hx : items[i]? = some items[i] := List.getElem?_eq_getElem hlt
  obtain ⟨T, key, kk, v, o, n, e1, e2, e3, e4, e5, e6⟩ := hp.2 i _ hx
  rw [e1] at hx
  refine codeAny_builtin F.entry_dict_update_loop ?_
  rw [Around.under_plainId F.plain_dict_update_loop _]
  show wpAny _ A.in1 (pyNext (.ref I) >>= _) _ _ s
  have hl' : s.heap.IsList l items.toArray := let ⟨o, ho, r⟩ := hl; ⟨o, hkeep _ _ ho, r⟩
  refine wpAny_bind (wpAny_pyNext_list_item hst hl' (x := .ref T) (by simpa using hx) fun h' st' sb => ?_)
  have eT : h'.get? T = some o := (sb.2 T (nb T o e4).1).trans (hkeep _ _ e4)
  refine wpAny_bind (wpAny_holding (wpAny_bind (wpAny_tryCatch ?_)))
  unfold Builtin.Dict.pairItems
  refine wpAny_bind (wpAny_typeOf (T := "tuple") ⟨o, eT, e5⟩ ?_)
  rw [if_pos (by decide)]
  refine wpAny_bind (wpAny_seqItems (s := { s with heap := h' }) eT e6 (wpAny_pure ?_))
  show wpAny _ _ (holding [key, v] (dictSet d key v)) _ _ _
  refine wpAny_holding (wpAny_dictSet_pairs (knd := knd) (s := { s with heap := h' }) (k := kk) e3 (hD.extBut sb.extBut hdI) (fun h2 D2 sb2 => ?_) (by omega))
  refine wpAny_pure ⟨plainId_quiet F.plain_dict_update_loop _, ?_⟩
  have hki : ∀ b o, b ≠ I → b ≠ d → s.heap.get? b = some o → h2.get? b = some o := fun b o h1 h3 e => (sb2.2 b h3).trans ((sb.2 b h1).trans e)
  refine ih (i + 1) { s with heap := h2, toks := s.toks + 1 } (stored acc kk v) (by omega) hlt (fun b o e => hki b o (nb b o e).1 (nb b o e).2 (hkeep _ _ e)) (st'.extBut sb2.extBut (Ne.symm hdI)) D2 (by have := j6r acc kk v; omega) fun h3 tk k3 D3 => ?_
  refine hR h3 tk (fun b o h1 h2' e => k3 b o h1 h2' (hki b o h1 h2' e)) ?_
  have e7 : prs.drop i = (kk, v) :: prs.drop (i + 1) := by
   obtain ⟨hj, e8⟩ := List.getElem?_eq_some_iff.mp e2
   rw [List.drop_eq_getElem_cons hj, e8]
  rw [e7]
  exact D3
theorem j5a {E : Value → Shared → Prop} {s : Shared} {Q : Value → Shared → Prop} {l : Addr} {ol : Obj} {nl : Nat} {items : List Value} {prs : List (K × Value)} (ho : s.heap.get? l = some ol) (hc : ol.cls = .type "list") (hod : ol.dict = none) (hdt : ol.data = .seq items.toArray nl) (hp : j8x knd s.heap items prs) (hn : items.length < sizeLine) (hh : A.handled = none)
  (h : ∀ h' tk, (∀ b o, s.heap.get? b = some o → h'.get? b = some o) → h'.DictOf knd s.heap.objs.size (prs.foldl (fun a p => stored a p.1 p.2) []) → Q (.ref s.heap.objs.size) { s with heap := h', toks := tk }) :
  wpAny (model prog w) A (call (.type "dict") [.ref l]) Q E s := by
 refine callType_codes (Q₁ := fun obj s₁ => obj = .ref s.heap.objs.size ∧ s₁ = { s with heap := s.heap.push { cls := .type "dict", data := .dict #[] } }) F.kt_called_dict (F.kt_typeCall_dict_1 _) F.entry_dict_init (kt_code_dict_new _ ⟨rfl, rfl⟩) ?_
 rintro obj s₁ ⟨rfl, rfl⟩
 have hnew : (s.heap.push { cls := .type "dict", data := .dict #[] }).DictOf knd s.heap.objs.size [] := Heap.DictOf.new s.heap
 have ho' : (s.heap.push { cls := .type "dict", data := .dict #[] }).get? l = some ol := Heap.get?_push_of_some _ ho
 refine ⟨hnew.typeIs, F.args_dict_init_2 _ _, ?_⟩
 unfold Builtin.«dict.__init__»
 refine wpAny_bind ?_
 unfold Builtin.Dict.selfAndRest
 refine wpAny_bind (wpAny_notOrdered_dict hnew.typeIs ?_)
 show wpAny _ _ (pure (s.heap.objs.size, [Value.ref l])) _ _ _
 refine wpAny_pure ?_
 show wpAny _ _ (Builtin.Dict.updateFrom "dict.__init__" s.heap.objs.size (.ref l) [] .none) _ _ _
 unfold Builtin.Dict.updateFrom
 refine wpAny_bind (wpAny_typeOf (T := "list") ⟨ol, ho', hc⟩ ?_)
 rw [if_pos (by decide)]
 refine wpAny_bind (getAttr?_miss_list ho' hc hdt hod F.list_no_keys (by decide) (by exact hh) (fun h' tk e ne => ?_))
 rw [if_pos (show (none : Option Value).isNone = true from rfl)]
 have kp : ∀ b o, s.heap.get? b = some o → h'.get? b = some o := fun b o e => ne.keeps b o (Heap.get?_push_of_some _ e)
 refine wpAny_bind (wpAny_rule ?_)
 have hL : h'.IsList l items.toArray := ⟨ol, kp _ _ ho, hc, nl, hdt⟩
 refine wpAny_bind (wpAny_pyIter_list hL ?_)
 refine wpAny_pure ⟨plainId_quiet F.plain_dict_update_loop _, ?_⟩
 have hD' : h'.DictOf knd s.heap.objs.size [] := let ⟨o, es, ep, ho, r⟩ := hnew; ⟨o, es, ep, ne.keeps _ _ ho, r⟩
 have hlt : s.heap.objs.size < h'.objs.size := let ⟨o, es, ep, ho, r⟩ := hD'; Heap.lt_size ho
 refine k0l (hB := s.heap) (d := s.heap.objs.size) (I := h'.objs.size) (l := l) (Nat.le_refl _) (Nat.le_of_lt hlt) (Nat.ne_of_lt hlt) ⟨ol, ho, hc, nl, hdt⟩ hp hn (by exact hh) _ 0 _ [] rfl (Nat.zero_le _) (fun b o e => Heap.get?_push_of_some _ (kp b o e)) ⟨_, Heap.get?_push_size _ rfl, rfl, rfl⟩ (hD'.push _) (Nat.zero_le _) fun h2 tk2 k2 D2 => ?_
 refine ⟨rfl, h h2 tk2 (fun b o e => k2 b o (Nat.ne_of_lt (Heap.lt_size (kp b o e))) (Nat.ne_of_lt (Heap.lt_size e)) (Heap.get?_push_of_some _ (kp b o e))) D2⟩
end
end PySem
namespace L2
open PySem PySem.Spec PyProof.Rows
section
variable {X : Cx} {pins : List (Addr × Obj)} {σ : St} {H : Hp} {s : Shared}
theorem j85 {kvs : List (Key × V)} : ∀ {ps : List (Key × V)} {acc : List (Key × Value)} {rs : List (Key × Value)}, KV ps acc → KV kvs rs → KV (kvs.foldl (fun a p => putK a p.1 p.2) ps) (rs.foldl (fun a p => stored a p.1 p.2) acc) := by
 induction kvs with
 | nil => intro ps acc rs h g; cases g; exact h
 | cons p r ih =>
  intro ps acc rs h g
  cases g with
  | @cons _ q _ r' hq hr =>
   obtain ⟨e1, e2⟩ := hq
   rw [List.foldl_cons, List.foldl_cons]
   refine ih ?_ hr
   rw [← e1]
   exact h.put p.1 e2
theorem j9m {P : Program} {w : World} {h : Heap} : ∀ {kvs : List (Key × V)} {ts : List Addr}, ts.length = kvs.length → (∀ (j : Nat) t kv, ts[j]? = some t → kvs[j]? = some kv → ∃ key v o m, (j03 P w).is kv.1 key = true ∧ RelV kv.2 v ∧ h.get? t = some o ∧ o.cls = .type "tuple" ∧ o.data = .seq #[key, v] m) →
  ∃ rs : List (Key × Value), KV kvs rs ∧ ∀ (j : Nat) t, ts[j]? = some t → ∃ key k v o m, rs[j]? = some (k, v) ∧ (j03 P w).is k key = true ∧ h.get? t = some o ∧ o.cls = .type "tuple" ∧ o.data = .seq #[key, v] m
 | [], ts, hl, _ => by
  have : ts = [] := List.length_eq_zero_iff.mp hl
  subst this
  exact ⟨[], .nil, fun j t h => by simp at h⟩
 | kv :: r, [], hl, _ => by simp at hl
 | kv :: r, t :: ts, hl, hp => by
  obtain ⟨key, v, o, m, q1, q2, q3, q4, q5⟩ := hp 0 t kv rfl rfl
  obtain ⟨rs, hk, hr⟩ := j9m (kvs := r) (ts := ts) (by simpa using hl) fun j t kv h1 h2 => hp (j + 1) t kv (by simpa using h1) (by simpa using h2)
  refine ⟨(kv.1, v) :: rs, .cons ⟨rfl, q2⟩ hk, fun j t' ht => ?_⟩
  cases j with
  | zero =>
   cases ht
   exact ⟨key, kv.1, v, o, m, rfl, q1, q3, q4, q5⟩
  | succ j =>
   obtain ⟨key, k, v, o, m, e, z⟩ := hr j t' (by simpa using ht)
   exact ⟨key, k, v, o, m, by simpa using e, z⟩
theorem j3p (hc : X.calm = true) : j3z X (.type "dict") (fun xs H Q => ∃ (a : Addr) (ts : List Addr) (kvs : List (Key × V)), xs = [.ref a] ∧ H a = some (.lst (ts.map V.ref)) ∧ ts.length = kvs.length ∧ ts.length < sizeLine ∧ (∀ (j : Nat) t kv, ts[j]? = some t → kvs[j]? = some kv → H t = some (.tup [kV kv.1, kv.2])) ∧
  ∀ d, H d = none → Q (.ref d) (upd H d (.dK (kvs.foldl (fun a p => putK a p.1 p.2) [])))) := by
 intro pins s σ H xs us Q I r h
 obtain ⟨a, ts, kvs, rfl, hH, hl, hz, ht, q⟩ := h
 obtain ⟨u, rfl, ru⟩ := vals1 r
 cases (show u = Value.ref a from ru)
 obtain ⟨z, its, n, rv, e⟩ := (show ObjOk X.prog X.w H s.heap a (.lst (ts.map V.ref)) from I.hok a _ hH)
 have hil := rv.length
 rw [List.length_map] at hil
 have its_at : ∀ (j : Nat) t, ts[j]? = some t → its[j]? = some (.ref t) := fun j t hj => by
  obtain ⟨u, hu, ru⟩ := rv.get (i := j) (x := .ref t) (by rw [List.getElem?_map, hj]; rfl)
  cases (show u = Value.ref t from ru)
  exact hu
 have pair : ∀ (j : Nat) t kv, ts[j]? = some t → kvs[j]? = some kv → ∃ key v o m, (j03 X.prog X.w).is kv.1 key = true ∧ RelV kv.2 v ∧ s.heap.get? t = some o ∧ o.cls = .type "tuple" ∧ o.data = .seq #[key, v] m := fun j t kv h1 h2 => by
  obtain ⟨z2, its2, rv2, o, eo, co, m, dm⟩ := (show ObjOk X.prog X.w H s.heap t (.tup [kV kv.1, kv.2]) from I.hok t _ (ht j t kv h1 h2))
  obtain ⟨key, v, e3, r1, r2⟩ := rv2.two
  refine ⟨key, v, o, m, j7v r1, r2, eo, co, ?_⟩
  rw [dm, e3]
 obtain ⟨rs, hk, hr⟩ := j9m hl pair
 have hkl := hk.length
 have hP : j8x (j03 X.prog X.w) s.heap its rs := by
  refine ⟨by omega, fun j it hj => ?_⟩
  have hjl : j < ts.length := by have := (List.getElem?_eq_some_iff.mp hj).1; omega
  have htj : ts[j]? = some ts[j] := List.getElem?_eq_getElem hjl
  have e2 := its_at j _ htj
  rw [hj] at e2
  obtain ⟨key, k, v, o, m, q1, q2, q3, q4, q5⟩ := hr j _ htj
  exact ⟨ts[j], key, k, v, o, m, Option.some.inj e2, q1, q2, q3, q4, q5⟩
 refine j5a (knd := j03 X.prog X.w) e rfl rfl rfl hP (by omega) (I.ok.hd hc) fun h' tk kp D => ?_
 have hlen : ∀ (l : List (Key × V)) (a : List (Key × V)), (l.foldl (fun a p => putK a p.1 p.2) a).length ≤ a.length + l.length := by
  intro l
  induction l with
  | nil => intro a; exact Nat.le_refl _
  | cons p r ih =>
   intro a
   rw [List.foldl_cons, List.length_cons]
   have h1 := ih (putK a p.1 p.2)
   have h2 := j0y a p.1 p.2
   omega
 have hb := I.big
 refine ⟨.ref s.heap.objs.size, _, I.laid (t' := tk) kp (Nat.le_refl _) (show ObjOk X.prog X.w _ h' _ (.dK (kvs.foldl (fun a p => putK a p.1 p.2) [])) from ⟨?_, ?_, _, j85 (kvs := kvs) (ps := []) (acc := []) .nil hk, D⟩), rfl, q _ (I.hok.fresh (Nat.le_refl _))⟩
 ·have := hlen kvs []
  rw [List.length_nil] at this
  omega
 ·exact beq_eq_false_iff_ne.mpr (Nat.ne_of_gt hb)
end
end L2
namespace L2
open PySem PySem.Spec PyProof.Rows
section
variable {X : Cx} {pins : List (Addr × Obj)} {σ : St} {H : Hp} {s : Shared} {h' : Heap}
theorem Inv.turnedL {t' : Nat} {ch : List Addr} (I : Inv X pins σ H s) (hf : ∀ b ∈ ch, FpOk X pins H b) (k : ∀ b o, b ∉ ch → s.heap.get? b = some o → h'.get? b = some o) : Inv X pins σ H { s with heap := h', toks := t' } := by
 have nit : ∀ b u, H b = some u → b ∉ ch := fun b u e z => by rw [(hf b z).1] at e; cases e
 refine I.step (g' := s.gens) (d' := s.drawn) (ch := ch) (fun b hb => ?_) (fun b o _ _ hc e _ => k b o hc e) (fun b o _ _ hc e _ => ⟨o.slots, k b o hc e⟩) (fun _ _ _ _ n => n)
  (fun b o hc e => ⟨o, k b o hc e⟩) (fun _ _ e => e) (fun _ _ _ e => e) (fun b ps e => ⟨#[], by rw [e]; simp⟩) (fun m hm => ?_) (fun b u e => ?_) I.bare
 ·obtain ⟨f0, f1, f2, f3, f4, f5⟩ := hf b hb
  exact ⟨f3, f1, f4, f5⟩
 ·obtain ⟨o, es, ep, ho, r⟩ := hm
  exact ⟨o, es, ep, k _ o (fun z => (hf _ z).2.1 rfl) ho, r⟩
 ·refine (I.hok b u e).stay (fun c v hc q => k c v ?_ q) (fun _ q => q) fun _ _ q => q
  rcases hc with z | z
  ·rw [z]; exact nit b u e
  ·exact nit c _ z
def Itz (K : PySem.W.Frag) (a b : Addr) : It :=
  ⟨fun i H => ∃ xs ys x y, SqL K H a xs ∧ SqL K H b ys ∧ xs[i]? = some x ∧ ys[i]? = some y,
   fun i H v H' => ∃ T x y, H T = none ∧ v = .ref T ∧ H' = upd H T (.tup [x, y]) ∧ (∀ xs, SqL K H a xs → xs[i]? = some x) ∧ ∀ ys, SqL K H b ys → ys[i]? = some y,
   fun i H => ∃ xs ys, SqL K H a xs ∧ SqL K H b ys ∧ (xs.length ≤ i ∨ ys.length ≤ i)⟩
def q0r (m a b : Addr) (i : Nat) (h : Heap) : Prop :=
 IsZip h (m + 4) (m + 2) (m + 3) .none ∧ IsPair h (m + 2) (.ref m) (.ref (m + 1)) ∧ (∃ x y, IsPair h (m + 3) x y) ∧ h.IsListIter m a i ∧ h.IsListIter (m + 1) b i
theorem j7h {h : Heap} {m a b : Addr} {i : Nat} {xs ys : Array Value} (z : q0r m a b i h) (ha : h.IsList a xs) (hb : h.IsList b ys) : ZipApart (m + 4) (m + 2) (m + 3) m (m + 1) a b := by
  obtain ⟨z1, z2, ⟨x, y, z3⟩, ⟨o4, e4, c4, _⟩, ⟨o5, e5, c5, _⟩⟩ := z
  have cls : ∀ {l : Addr} {vs : Array Value} {c : Addr} {o : Obj}, h.IsList l vs → h.get? c = some o → o.cls ≠ .type "list" → l ≠ c := fun hl hc hn e => by
    obtain ⟨ol, hol, hcl, _⟩ := hl
    rw [e, hc] at hol
    cases hol
    exact hn hcl
  exact { TIz := by simp, TOz := by simp, i1z := by simp, i2z := by simp, TITO := by simp, TIi1 := by simp, TIi2 := by simp, TOi1 := by simp, TOi2 := by simp, i12 := by simp
          l1z := cls ha z1 (by show Value.type "zip" ≠ Value.type "list"; decide), l1TO := cls ha z3 (by show Value.type "tuple" ≠ Value.type "list"; decide), l1i1 := cls ha e4 (by rw [c4]; decide), l1i2 := cls ha e5 (by rw [c5]; decide)
          l2z := cls hb z1 (by show Value.type "zip" ≠ Value.type "list"; decide), l2TO := cls hb z3 (by show Value.type "tuple" ≠ Value.type "list"; decide), l2i1 := cls hb e4 (by rw [c4]; decide), l2i2 := cls hb e5 (by rw [c5]; decide) }
theorem k50 {P : Program} {w : World} {K : PySem.W.Frag} {elts : List Expr} {k : Nat} {tp : Pos} (m a b : Addr) : Turn P w K (.Tuple elts k tp) (Itz K a b) [m, m + 1, m + 2, m + 3, m + 4] (m + 4) (q0r m a b) where
 mem := by simp
 obj := fun i h st c hc => by
  obtain ⟨z1, z2, ⟨x, y, z3⟩, ⟨o4, e4, c4, d4⟩, ⟨o5, e5, c5, d5⟩⟩ := st
  simp only [List.mem_cons, List.not_mem_nil, or_false] at hc
  rcases hc with rfl | rfl | rfl | rfl | rfl
  ·exact ⟨_, e4, fun v z => by rw [d4] at z; cases z⟩
  ·exact ⟨_, e5, fun v z => by rw [d5] at z; cases z⟩
  ·exact ⟨_, z2, fun v z => by cases z⟩
  ·exact ⟨_, z3, fun v z => by cases z⟩
  ·exact ⟨_, z1, fun v z => by cases z⟩
 keep := fun i h h' st kp => by
  obtain ⟨z1, z2, ⟨x, y, z3⟩, ⟨o4, e4, r4⟩, ⟨o5, e5, r5⟩⟩ := st
  exact ⟨kp _ (by simp) _ z1, kp _ (by simp) _ z2, ⟨x, y, kp _ (by simp) _ z3⟩, ⟨o4, kp _ (by simp) _ e4, r4⟩, ⟨o5, kp _ (by simp) _ e5, r5⟩⟩
 item := by
  intro X hP hw hK hc i pins s σ H E I hf st hg
  subst hP hw hK
  obtain ⟨xs, ys, x, y, hxs, hys, hx, hy⟩ := hg
  obtain ⟨its1, rv1, p1, hz1⟩ := I.list hxs
  obtain ⟨its2, rv2, p2, hz2⟩ := I.list hys
  obtain ⟨u1, hu1, ru1⟩ := rv1.get hx
  obtain ⟨u2, hu2, ru2⟩ := rv2.get hy
  have D := j7h st p1.isList p2.isList
  obtain ⟨z1, z2, ⟨x0, y0, z3⟩, z4, z5⟩ := id st
  refine wpAny_pyNext_zip_item D z1 z2 z3 z4 z5 p1.isList p2.isList (x := u1) (y := u2) (by simpa using hu1) (by simpa using hu2) fun h' a1 a2 a3 a4 a5 a6 kp => ?_
  have hT : H s.heap.objs.size = none := I.hok.fresh (Nat.le_refl _)
  have nT : ∀ c ∈ [m, m + 1, m + 2, m + 3, m + 4], c ≠ s.heap.objs.size := fun c hc' => by
   have : ∃ o, s.heap.get? c = some o := by
    obtain ⟨o4, e4, _⟩ := z4
    obtain ⟨o5, e5, _⟩ := z5
    simp only [List.mem_cons, List.not_mem_nil, or_false] at hc'
    rcases hc' with rfl | rfl | rfl | rfl | rfl
    ·exact ⟨_, e4⟩
    ·exact ⟨_, e5⟩
    ·exact ⟨_, z2⟩
    ·exact ⟨_, z3⟩
    ·exact ⟨_, z1⟩
   obtain ⟨o, e⟩ := this
   exact Nat.ne_of_lt (Heap.lt_size e)
  have I1 : Inv X pins σ (upd H s.heap.objs.size (.tup [x, y])) { s with heap := s.heap.push { cls := .type "tuple", data := .seq #[u1, u2] } } :=
   I.laid (t' := s.toks) (fun b o e => Heap.get?_push_of_some _ e) (Nat.le_refl _) (show ObjOk X.prog X.w _ _ _ (.tup [x, y]) from ⟨(by show 2 ≤ sizeLine; decide), [u1, u2], .cons ru1 (.cons ru2 .nil), ⟨_, Heap.get?_push_size _ rfl, rfl, _, rfl⟩⟩)
  have f1 : ∀ c ∈ [m, m + 1, m + 2, m + 3, m + 4], FpOk X pins (upd H s.heap.objs.size (.tup [x, y])) c := fun c hc' => ⟨by rw [j0c (nT c hc')]; exact (hf c hc').1, (hf c hc').2⟩
  have kp2 : ∀ c o, c ∉ [m, m + 1, m + 2, m + 3, m + 4] → (s.heap.push { cls := .type "tuple", data := .seq #[u1, u2] }).get? c = some o → h'.get? c = some o := fun c o hc' e => by
   rcases Heap.get?_push_cases e with ⟨ec, eo⟩ | e'
   ·rw [ec, eo]
    exact a5
   ·simp only [List.mem_cons, List.not_mem_nil, or_false, not_or] at hc'
    exact kp c o hc'.2.2.2.2 hc'.2.2.2.1 hc'.1 hc'.2.1 e'
  have I2 := Inv.turnedL (h' := h') (t' := s.toks) I1 f1 kp2
  refine ⟨_, rfl, wpAny_letOwnedTupleGo_zip (s := { s with heap := h' }) a1 fun h2 b1 sb => ?_⟩
  have z2' : IsPair h' (m + 2) (.ref m) (.ref (m + 1)) := kp _ _ (by simp) (by simp) (by simp) (by simp) z2
  have kp3 : ∀ c o, c ∉ [m + 4] → h'.get? c = some o → h2.get? c = some o := fun c o hc' e => (sb.2 c (by simpa using hc')).trans e
  have I3 := Inv.turnedL (h' := h2) (t' := s.toks) I2 (ch := [m + 4]) (fun c hc' => f1 c (by simp at hc'; simp [hc'])) kp3
  refine ⟨.ref s.heap.objs.size, _, I3, rfl, ⟨_, x, y, hT, rfl, rfl, fun zs hz => by rw [I.list_inj hz hxs]; exact hx, fun zs hz => by rw [I.list_inj hz hys]; exact hy⟩, ?_, fun c hc' => (f1 c hc').1⟩
  have sx : ∀ c o, c ≠ m + 4 → h'.get? c = some o → h2.get? c = some o := fun c o hc' e => (sb.2 c hc').trans e
  obtain ⟨o3, e3, r3⟩ := a3
  obtain ⟨o4, e4, r4⟩ := a4
  exact ⟨b1, sx _ _ (by simp) z2', ⟨u1, u2, sx _ _ (by simp) a2⟩, ⟨o3, sx _ _ (by simp) e3, r3⟩, ⟨o4, sx _ _ (by simp) e4, r4⟩⟩
 done := by
  intro X hP hw hK hc i pins s σ H E I hf st hg
  subst hP hw hK
  obtain ⟨xs, ys, hxs, hys, hend⟩ := hg
  obtain ⟨its1, rv1, p1, hz1⟩ := I.list hxs
  obtain ⟨its2, rv2, p2, hz2⟩ := I.list hys
  have l1 := rv1.length
  have l2 := rv2.length
  have D := j7h st p1.isList p2.isList
  obtain ⟨z1, z2, ⟨x0, y0, z3⟩, z4, z5⟩ := id st
  refine wpAny_pyNext_zip_end (I.ok.hd hc) D z1 z2 z3 z4 z5 p1.isList p2.isList ?_ fun h' kp => ⟨rfl, I.turnedL (t' := s.toks) (ch := [m, m + 1, m + 2, m + 3, m + 4]) hf fun c o hc' e => ?_⟩
  ·rcases hend with h | h
   ·exact .inl (by simp; omega)
   ·exact .inr (by simp; omega)
  ·simp only [List.mem_cons, List.not_mem_nil, or_false, not_or] at hc'
   exact kp c o hc'.2.2.2.2 hc'.2.2.2.1 hc'.1 hc'.2.1 e
 self := fun _ _ _ _ _ st h => wpAny_pyIter_zip st.1 h
end
section
variable {X : Cx}
def iZip (K : PySem.W.Frag) (ta : TA) : TI := fun σ H R => ta σ H fun vs H1 => ∃ a b, vs = [.ref a, .ref b] ∧ (∃ xs, SqL K H1 a xs) ∧ (∃ ys, SqL K H1 b ys) ∧ R (Itz K a b) H1
theorem k6d {elts : List Expr} {k : Nat} {tp : Pos} {a b : Expr} {ta : TA} {p pos : Pos} (hg : Gl X "zip") (hm : X.mg "zip" = none) (ha : PA X [a, b] ta) (hs : starEach [a, b] X.env = [(false, eval a X.env), (false, eval b X.env)] := by rfl) (hs2 : starEach [b] X.env = [(false, eval b X.env)] := by rfl) :
  PI X (.Tuple elts k tp) (.Call (.Name "zip" p) [a, b] [] pos) (iZip X.K ta) := by
 intro pins s σ H R I h
 refine Call_ (j4p I hg hm boot_zip (PyProof.Rows.callWith_type1 (thn (ha pos pins s σ H _ I h) fun us s1 ⟨vs, H1, I1, r1, q1⟩ => ?_) (by rw [hs, hs2]) (by rw [hs2]; rfl)))
 obtain ⟨x, y, e, ⟨xs, hx⟩, ⟨ys, hy⟩, q⟩ := q1
 subst e
 obtain ⟨u, v, rfl, ru, rv⟩ := r1.two
 cases (show u = Value.ref x from ru)
 cases (show v = Value.ref y from rv)
 obtain ⟨its1, rv1, p1, hz1⟩ := I1.list hx
 obtain ⟨its2, rv2, p2, hz2⟩ := I1.list hy
 refine call_zip_2 p1.isList p2.isList fun h' a1 a2 a3 a4 a5 a6 kp => ?_
 refine wpAny_pyIter_zip (s := { s1 with heap := h' }) a1 ?_
 refine ⟨s1.heap.objs.size + 4, [s1.heap.objs.size, s1.heap.objs.size + 1, s1.heap.objs.size + 2, s1.heap.objs.size + 3, s1.heap.objs.size + 4], _, _, H1, rfl, I1.kept (t' := s1.toks) kp, k50 s1.heap.objs.size x y, ⟨a1, a2, ⟨_, _, a3⟩, a4, a5⟩, fun b hb => ?_, q⟩
 have hle : s1.heap.objs.size ≤ b := by
  simp only [List.mem_cons, List.not_mem_nil, or_false] at hb
  rcases hb with rfl | rfl | rfl | rfl | rfl <;> omega
 exact I1.fpOk hle (I1.hok.fresh hle)
end
end L2
namespace L2
open PySem PySem.Spec PyProof.Rows
structure Clause (e : Expr) (d : Nat) (tg iter : Expr) (ifs : List Expr) (acc : Value) (env : Env) (inner : Sem Unit) : Prop where
 at' : (clausesOf e)[d]? = some ⟨tg, iter, ifs, 0⟩
 quiet : ∀ it, (Code.compLoop e d it acc env).quiet = true
 den : ∀ (prog : Program) (w : World) it, (model prog w).den (.compLoop e d it acc env) = (compTurn e d it acc env).onRaise (fun x => do noteFrame x env; theTreesLotGoes x)
 und : ∀ (A : Around) it, A.under (.compLoop e d it acc env) = A
 denS : ∀ (prog : Program) (w : World) it, (model prog w).den (.compStart e d it acc env) = (compStart e d it acc env).onRaise (fun x => do noteFrame x env; standAt theWindowsPlace)
 undS : ∀ (A : Around) it, A.under (.compStart e d it acc env) = A
 turn : ∀ it, compTurn e d it acc env = (do
   standAt iter.pos
   match ← pyNext it with
   | none => pure (.done .next)
   | some v =>
    letOwnedTupleGo tg it v
    assign tg env v
    let mut ok := true
    for c in ifs do
     if ok then ok ← isTrue c env (eval c env)
    if ok then
     inner
    again (.compLoop e d it acc env))
section
variable {prog : Program} {w : World} {A : Around} {R : Result → Shared → Prop} {s : Shared}
theorem j3o {e : Expr} {d : Nat} {tg iter : Expr} {ifs : List Expr} {it acc : Value} {env : Env} {inner : Sem Unit} (C : Clause e d tg iter ifs acc env inner) (I : Nat → Shared → Prop)
  (turn : ∀ n s, I n s → wpAny (model prog w) A (pyNext it) (fun r s₁ => match r with
   | none => R (.ok .next) s₁
   | some v => wpAny (model prog w) A (letOwnedTupleGo tg it v) (fun _ s₁' => wpAny (model prog w) A (assign tg env v) (fun _ s₂ =>
     wpAny (model prog w) A (forIn ifs true fun c r => if r = true then do let ok ← isTrue c env (eval c env); pure (ForInStep.yield ok) else pure (ForInStep.yield r)) (fun ok s₃ =>
      if ok = true then wpAny (model prog w) A inner (fun _ s₄ => ∃ m, m < n ∧ I m s₄) (notedBy (model prog w) A env fun e s' => R (.error e) s') s₃
      else ∃ m, m < n ∧ I m s₃) (notedBy (model prog w) A env fun e s' => R (.error e) s') s₂) (notedBy (model prog w) A env fun e s' => R (.error e) s') s₁') (notedBy (model prog w) A env fun e s' => R (.error e) s') s₁) (notedBy (model prog w) A env fun e s' => R (.error e) s') s)
  (n : Nat) (h : I n s) :
  codeAny (model prog w) A (.compLoop e d it acc env) R s := by
 refine codeAny_loop (C.quiet it) I (fun n s hI => ?_) n h
 rw [C.und, C.den]
 refine wpAny_noted ?_
 rw [C.turn]
 refine wpAny_bind (wpAny_standAt (wpAny_bind (wpAny_mono (turn n s hI) (fun r s₁ h₁ => ?_) fun _ _ h' => h')))
 cases r with
 | none => exact wpAny_pure h₁
 | some v =>
  refine wpAny_bind (wpAny_mono h₁ (fun _ s₁' h₁' => ?_) fun _ _ h' => h')
  refine wpAny_bind (wpAny_mono h₁' (fun _ s₂ h₂ => wpAny_bind (wpAny_mono h₂ (fun ok s₃ h₃ => ?_) fun _ _ h' => h')) fun _ _ h' => h')
  cases ok with
  | false => exact wpAny_pure ⟨rfl, h₃⟩
  | true => exact wpAny_bind (wpAny_mono h₃ (fun _ s₄ h₄ => wpAny_pure ⟨rfl, h₄⟩) fun _ _ h' => h')
theorem j29 {e : Expr} {d : Nat} {tg iter : Expr} {ifs : List Expr} {it acc : Value} {env : Env} {inner : Sem Unit} (C : Clause e d tg iter ifs acc env inner)
  (h0 : codeAny (model prog w) A (.compLoop e d it acc env) R s)
  (h : wpAny (model prog w) A (pyIter it) (fun it' s' => codeAny (model prog w) A (.compLoop e d it' acc env) R s') (notedBy (model prog w) A env fun x s' => R (.error x) s') s) :
  codeAny (model prog w) A (.compStart e d it acc env) R s := by
 refine codeAny_of_tree ?_
 rw [C.undS, C.denS]
 refine wpAny_notedAt ?_
 unfold compStart
 rw [C.at']
 show wpAny _ _ (ask >>= _) _ _ s
 refine wpAny_bind (wpAny_askSetting (wpAny_ite ?_))
 split
 ·first
   | exact wpAny_bind (wpAny_pure (wpAny_pure (And.intro (C.quiet _) h0)))
   | exact wpAny_pure (And.intro (C.quiet _) h0)
 ·first
   | exact wpAny_bind (wpAny_rule (wpAny_bind (wpAny_standAt (wpAny_bind (wpAny_mono h (fun it' s' h' => wpAny_pure (And.intro (C.quiet _) h')) fun _ _ x => x)))))
   | (refine wpAny_bind (wpAny_rule ?_); show wpAny _ _ (standAt iter.pos >>= _) _ _ s; exact wpAny_bind (wpAny_standAt (wpAny_bind (wpAny_mono h (fun it' s' h' => wpAny_pure (And.intro (C.quiet _) h')) fun _ _ x => x))))
end
structure Ein (X : Cx) (m : Sem Unit) (σ : St) (H : Hp) (Q : St → Hp → Prop) : Prop where
 run : ∀ (pins : List (Addr × Obj)) (s : Shared), Inv X pins σ H s → wpAny (model X.prog X.w) X.A m (fun _ s' => ∃ σ' H', Inv X pins σ' H' s' ∧ Q σ' H') X.xe s
def j2m (X : Cx) (tg : Expr) (ifs : List Expr) (inner : Sem Unit) (J : It) (after : St → Hp → Prop) (σ : St) (H : Hp) : Prop :=
 ∃ W : Nat → Nat → St → Hp → Prop, (∃ m, W 0 m σ H) ∧ ∀ i m σ' H', W i m σ' H' →
  (J.stop i H' ∧ after σ' H') ∨ (J.go i H' ∧ ∃ N : St → Hp → Prop, (∀ σ' H', N σ' H' → ∃ m', m' < m ∧ W (i + 1) m' σ' H') ∧ ∀ x H2, J.yld i H' x H2 → Eg X tg x σ' H2 fun σ2 H3 => Ei X ifs σ2 H3 fun b H4 =>
   if b = true then Ein X inner σ2 H4 N else N σ2 H4)
theorem j30 {X : Cx} (hxe : X.xe = fun _ _ => False) (hc : X.calm = true) {e : Expr} {d : Nat} {tg iter : Expr} {ifs : List Expr} {acc : Value} {inner : Sem Unit} (C : Clause e d tg iter ifs acc X.env inner) {pins : List (Addr × Obj)} {σ : St} {H : Hp} {s : Shared}
  {it : Addr} {fp : List Addr} {tn : Nat → Heap → Prop} {J : It} {after : St → Hp → Prop} {R : Result → Shared → Prop} (I : Inv X pins σ H s) (T : Turn X.prog X.w X.K tg J fp it tn) (st : tn 0 s.heap) (hf : ∀ b ∈ fp, FpOk X pins H b) (h : j2m X tg ifs inner J after σ H)
  (hR : ∀ σ' H' s', Inv X pins σ' H' s' → after σ' H' → R (.ok .next) s') :
  codeAny (model X.prog X.w) X.A (.compStart e d (.ref it) acc X.env) R s := by
 obtain ⟨W, ⟨m0, w0⟩, turn⟩ := h
 have stat : ∀ {H' : Hp}, (∀ b ∈ fp, H' b = none) → ∀ b ∈ fp, FpOk X pins H' b := fun hn b hb => ⟨hn b hb, (hf b hb).2⟩
 have loop : codeAny (model X.prog X.w) X.A (.compLoop e d (.ref it) acc X.env) R s := by
  refine j3o C (fun k s' => ∃ i σ' H', Inv X pins σ' H' s' ∧ tn i s'.heap ∧ (∀ b ∈ fp, H' b = none) ∧ W i k σ' H') ?_ m0 ⟨0, σ, H, I, st, fun b hb => (hf b hb).1, w0⟩
  rintro k s4 ⟨i, σ4, H4, J4, st4, fr4, w4⟩
  rcases turn i k σ4 H4 w4 with ⟨stop, qn⟩ | ⟨go, N, hN, step⟩
  ·have d1 := T.done X rfl rfl rfl hc i pins s4 σ4 H4 (fun _ _ => False) J4 (stat fr4) st4 stop
   refine thnF d1 fun r s5 ⟨hr, I5⟩ => ?_
   subst hr
   exact hR _ _ _ I5 qn
  ·have d1 := T.item X rfl rfl rfl hc i pins s4 σ4 H4 (fun _ _ => False) J4 (stat fr4) st4 go
   refine thnF d1 fun r s5 ⟨u, hr, h5⟩ => ?_
   subst hr
   refine thnF h5 fun _ s6 ⟨x, H6, I6, r6, y6, st6, fr6⟩ => ?_
   have I6' := I6.pinned (stat fr6) (T.obj _ _ st6)
   have again : ∀ {σ7 : St} {H7 : Hp} {s7 : Shared}, Inv X (pins ++ j45 fp s6.heap) σ7 H7 s7 → N σ7 H7 → ∃ m, m < k ∧ ∃ i σ' H', Inv X pins σ' H' s7 ∧ tn i s7.heap ∧ (∀ b ∈ fp, H' b = none) ∧ W i m σ' H' := fun {σ7 H7 s7} I7 n7 => by
    obtain ⟨m', hm, w7⟩ := hN σ7 H7 n7
    refine ⟨m', hm, i + 1, σ7, H7, I7.unpinned, T.keep _ _ _ st6 fun b hb o e => (I7.pin (b, o) (List.mem_append_right _ (List.mem_append_right _ (j1u hb e)))).1, fun b hb => ?_, w7⟩
    obtain ⟨o, e, d⟩ := T.obj _ _ st6 b hb
    exact (I7.pin (b, o) (List.mem_append_right _ (List.mem_append_right _ (j1u hb e)))).2.1
   have a1 := (step x H6 y6).run _ s6 u I6' r6
   rw [hxe] at a1
   refine thnF a1 fun _ s7 ⟨σ7, H7, I7, q7⟩ => ?_
   have a2 := q7.run _ s7 I7
   rw [hxe] at a2
   refine thnF a2 fun ok s8 ⟨H8, I8, q8⟩ => ?_
   cases ok with
   | false =>
    rw [if_neg Bool.false_ne_true] at q8 ⊢
    exact again I8 q8
   | true =>
    rw [if_pos rfl] at q8 ⊢
    have a3 := q8.run _ s8 I8
    rw [hxe] at a3
    exact thnF a3 fun _ s9 ⟨σ9, H9, I9, q9⟩ => again I9 q9
 exact j29 C loop (T.self _ 0 _ _ _ st loop)
end L2
namespace L2
open PySem PySem.Spec PyProof.Rows
theorem j2z {X : Cx} {e : Expr} {tg iter : Expr} {ifs : List Expr} {scope : Scope} {N' : List Str} {newAcc : Sem Value} {o0 : Obj} {u0 : Addr → HO} {n : Nat} {inner : Value → Env → Sem Unit} {pins : List (Addr × Obj)} {σ : St} {H2 : Hp} {s2 : Shared} {E : Value → Shared → Prop} {RR : Value → Addr → Result → Shared → Prop} {it : Addr} {fp : List Addr} {tn : Nat → Heap → Prop} {J : It} {Q : VK}
  (hnew : ∀ (Q : Value → Shared → Prop) (E : Value → Shared → Prop) (s : Shared), Q (.ref s.heap.objs.size) { s with heap := s.heap.push o0 } → wpAny (model X.prog X.w) X.A newAcc Q E s) (hobj : ∀ (H : Hp) (h : Heap), sysModules < h.objs.size → ObjOk X.prog X.w H (h.push o0) h.objs.size (u0 h.objs.size))
  (hc : X.calm = true) (ck : CompOk X.env.scope scope X.N N') (hl : N'.length = X.N.length + n) (hC : ∀ acc env, Clause e 0 tg iter ifs acc env (inner acc env))
  (I2 : Inv X pins σ H2 s2) (T : Turn X.prog X.w X.K tg J fp it tn) (st2 : tn 0 s2.heap) (f2 : ∀ b ∈ fp, FpOk X pins H2 b)
  (q : ∀ D, H2 D = none → ∀ cl C s₀ H₀ ex, j2m (j1a X N' scope cl C s₀ H₀ ex) tg ifs (inner (.ref D) (compEnvC scope cl C X.env)) J (fun _ H' => Q (.ref D) H') (σ ++ List.replicate n none) (upd H2 D (u0 D)))
  (hRR : ∀ D C H' s' m, Inv X pins σ H' s' → s'.heap.Ns C m → H' C = none → C ≠ X.env.locals → X.s₀.heap.objs.size ≤ C → (∀ x c, X.env.cells.lookup x = some c → c ≠ C) → (∀ p ∈ X.pn ++ pins, p.1 ≠ C) → Q (.ref D) H' → RR (.ref D) C (.ok .next) s') :
  wpAny (model X.prog X.w) X.A newAcc (fun acc s₃ => wpAny (model X.prog X.w) X.A (newFunctionEnv scope X.env.globals (j0v scope.names X.env.cells []) [] X.env.qual none .none (some X.env)) (fun cenv s₄ =>
   codeAny (model X.prog X.w) X.A (.compStart e 0 (.ref it) acc { cenv with scope := relabel scope X.env }) (RR acc cenv.locals) s₄) E s₃) E s2 := by
 refine hnew _ _ _ (wpAny_newFunctionEnv ck.cell (by intro y hy; simp at hy) (fun h₁ hns₁ hsb₁ => ?_) ck.kind)
 have hD : H2 s2.heap.objs.size = none := I2.hok.fresh (Nat.le_refl _)
 have q0 := q s2.heap.objs.size hD (j0v scope.names X.env.cells [])
 have fl : ∀ b ∈ fp, b < s2.heap.objs.size := fun b hb => by
  obtain ⟨o, e, _⟩ := T.obj 0 _ st2 b hb
  exact Heap.lt_size e
 have I3 : Inv X pins σ (upd H2 s2.heap.objs.size (u0 s2.heap.objs.size)) { s2 with heap := s2.heap.push o0 } :=
  I2.laid (t' := s2.toks) (fun b o e => Heap.get?_push_of_some _ e) (Nat.le_refl _) (hobj _ _ I2.big)
 generalize hs3 : ({ s2 with heap := s2.heap.push o0 } : Shared) = s3 at I3 hns₁ hsb₁ ⊢
 have hz3 : s3.heap.objs.size = s2.heap.objs.size + 1 := by rw [← hs3]; exact Heap.size_push ..
 have old2 : ∀ b o, s2.heap.get? b = some o → s3.heap.get? b = some o := fun b o e => by rw [← hs3]; exact Heap.get?_push_of_some _ e
 have old : ∀ b o, s3.heap.get? b = some o → h₁.get? b = some o := fun b o e =>
  hsb₁.extBut b o (Nat.ne_of_lt (Heap.lt_size e)) (Heap.get?_push_of_some _ e)
 have f3 : ∀ b ∈ fp, FpOk X pins (upd H2 s2.heap.objs.size (u0 s2.heap.objs.size)) b ∧ b < s3.heap.objs.size := fun b hb => by
  refine ⟨⟨?_, (f2 b hb).2⟩, by rw [hz3]; exact Nat.lt_succ_of_lt (fl b hb)⟩
  rw [j0c (Nat.ne_of_lt (fl b hb))]
  exact (f2 b hb).1
 have I4 := fun (t' : Nat) => j90 (N' := N') (scope := scope) (n := n) (fp := fp) (h₁ := h₁) (t' := t') I3 ck hl hns₁ old f3
 generalize hX : j1a X N' scope (j0v scope.names X.env.cells []) s3.heap.objs.size s3 (upd H2 s2.heap.objs.size (u0 s2.heap.objs.size)) fp = X' at I4
 have eP : X'.prog = X.prog := by rw [← hX]; rfl
 have ew : X'.w = X.w := by rw [← hX]; rfl
 have eK : X'.K = X.K := by rw [← hX]; rfl
 have eA : X'.A = X.A := by rw [← hX]; rfl
 have eE : X'.env = compEnvC scope (j0v scope.names X.env.cells []) s3.heap.objs.size X.env := by rw [← hX]; rfl
 have ec : X'.calm = true := by rw [← hX]; exact hc
 have ex' : X'.xe = fun _ _ => False := by rw [← hX]; rfl
 have stat : ∀ {H' : Hp}, (∀ b ∈ fp, H' b = none) → ∀ b ∈ fp, FpOk X' [] H' b := fun hn b hb => by
  refine ⟨hn b hb, ?_, ?_, ?_, ?_, ?_⟩
  ·rw [eE]; exact Nat.ne_of_lt (f3 b hb).2
  ·rw [← hX]
   intro hf
   rcases List.mem_cons.mp (I3.stkSub b hf) with z | z
   ·exact (f3 b hb).1.2.1 z
   ·exact (f3 b hb).1.2.2.1 z
  ·rw [← hX]; exact .inl hb
  ·rw [eE]
   intro x c e
   exact (f3 b hb).1.2.2.2.2.1 x c (j2k _ _ _ (fun _ _ z => by simp at z) x c (PySem.mem_of_lookup e))
  ·rw [← hX]; intro p hp; exact absurd hp (by simp [j1a])
 have fin : ∀ {σ' : St} {H' : Hp} {s' : Shared}, Inv X' [] σ' H' s' → Q (.ref s2.heap.objs.size) H' → RR (.ref s2.heap.objs.size) s3.heap.objs.size (.ok .next) s' := fun {σ' H' s'} I' q' => by
  obtain ⟨m', hn', _⟩ := id I'.loc
  rw [eE] at hn'
  have hos : s'.os = s3.os := by have := I'.os; rw [← hX] at this; exact this
  have hun : Un (frs X.stack) fp (upd H2 s2.heap.objs.size (u0 s2.heap.objs.size)) H' s3.heap s'.heap := by have := I'.base; rw [← hX] at this; exact this
  have hok : HOk X.prog X.w H' s'.heap := by have := I'.hok; rw [eP, ew] at this; exact this
  have IX : Inv X pins σ H' s' := I3.call' (ch := fp) hos hun hok I'.bare fun b hb => ⟨(f3 b hb).1.2.2.2.1, (f3 b hb).1.2.1, (f3 b hb).1.2.2.2.2.1, (f3 b hb).1.2.2.2.2.2⟩
  have hfr := I'.free
  rw [eE] at hfr
  refine hRR _ _ H' s' m' IX hn' hfr (Nat.ne_of_gt I3.lt) I3.sz (fun x c e z => ?_) (fun p hp z => ?_) q'
  ·obtain ⟨v, o, ho, _⟩ := I3.cell x c e
   exact absurd (Heap.lt_size ho) (by rw [z]; exact Nat.lt_irrefl _)
  ·exact absurd (Heap.lt_size (I3.pin p hp).1) (by rw [z]; exact Nat.lt_irrefl _)
 have fs0 : ∀ b ∈ fp, FpOk X' [] (upd H2 s2.heap.objs.size (u0 s2.heap.objs.size)) b := stat fun b hb => (f3 b hb).1.1
 have q1 : j2m X' tg ifs (inner (.ref s2.heap.objs.size) X'.env) J (fun _ H' => Q (.ref s2.heap.objs.size) H') (σ ++ List.replicate n none) (upd H2 s2.heap.objs.size (u0 s2.heap.objs.size)) := by
  rw [eE, ← hX]
  exact q0 _ _ _ _
 have T' : Turn X'.prog X'.w X'.K tg J fp it tn := by rw [eP, ew, eK]; exact T
 have fin2 := j30 (s := { s3 with heap := h₁, toks := s3.toks }) ex' ec (hC (.ref s2.heap.objs.size) X'.env) (I4 s3.toks) T' (T.keep 0 _ _ st2 fun b _ o e => old b o (old2 b o e)) fs0 q1 (R := RR (.ref s2.heap.objs.size) s3.heap.objs.size) fun σ' H' s' I' a' => fin I' a'
 rw [eP, ew, eA, eE] at fin2
 exact fin2
end L2
namespace L2
open PySem PySem.Spec PyProof.Rows
def k09 (elt t1 i1 : Expr) (f1 : List Expr) (t2 i2 : Expr) (f2 : List Expr) (scope : Scope) (pos : Pos) (acc : Value) (env : Env) : Sem Unit := do
 let x ← eval i2 env
 standAt i2.pos
 let x ← foldedSetIterable i2 env x
 let _ ← runOwn (.compStart (.ListComp elt [⟨t1, i1, f1, 0⟩, ⟨t2, i2, f2, 0⟩] scope pos) 1 (← holding [x] (pyIter x)) acc env) env
def emit (elt : Expr) (acc : Value) (env : Env) : Sem Unit := do let _ ← call (.builtin "list.append") [acc, ← eval elt env]
section
variable {X : Cx} {elt t1 i1 t2 i2 : Expr} {f1 f2 : List Expr} {scope : Scope} {pos : Pos} {σ : St} {H : Hp} {acc : Value} {env : Env}
theorem k7o : Clause (.ListComp elt [⟨t1, i1, f1, 0⟩, ⟨t2, i2, f2, 0⟩] scope pos) 0 t1 i1 f1 acc env (k09 elt t1 i1 f1 t2 i2 f2 scope pos acc env) := ⟨rfl, fun _ => rfl, fun _ _ _ => rfl, fun _ _ => rfl, fun _ _ _ => rfl, fun _ _ => rfl, fun it => by
 unfold k09
 simp only [bind_assoc, pure_bind]
 rfl⟩
theorem k9b : Clause (.ListComp elt [⟨t1, i1, f1, 0⟩, ⟨t2, i2, f2, 0⟩] scope pos) 1 t2 i2 f2 acc env (emit elt acc env) := ⟨rfl, fun _ => rfl, fun _ _ _ => rfl, fun _ _ => rfl, fun _ _ _ => rfl, fun _ _ => rfl, fun _ => rfl⟩
theorem k47 {D : Addr} {Q : St → Hp → Prop} (h : Ev X elt σ H fun v H1 => ∃ ys, H1 D = some (.lst ys) ∧ ys.length < sizeLine ∧ Q σ (upd H1 D (.lst (ys ++ [v])))) : Ein X (emit elt (.ref D) X.env) σ H Q := by
 refine ⟨fun pins s I => ?_⟩
 unfold emit
 refine wpAny_bind (thn (h.run pins s I) fun v s1 ⟨x, H1, I1, r1, ys, hy, hz, q⟩ => ?_)
 refine wpAny_bind (thn (j4a (X := X) _ s1 σ H1 (.ref D) [x] (.ref D) [v] (fun _ H' => Q σ H') I1 rfl (.cons r1 .nil) ⟨_, ys, x, rfl, rfl, hy, hz, q⟩) fun _ s2 ⟨_, H2, I2, _, q2⟩ => wpAny_pure ⟨σ, H2, I2, q2⟩)
theorem k5a {wi : TI} {Q : St → Hp → Prop} (hxe : X.xe = fun _ _ => False) (hc : X.calm = true) (hi : PI X t2 i2 wi) (h : wi σ H fun J H1 => j2m X t2 f2 (emit elt acc X.env) J Q σ H1)
  (hs : ∀ x, foldedSetIterable i2 X.env x = pure x := by intro _; rfl) : Ein X (k09 elt t1 i1 f1 t2 i2 f2 scope pos acc X.env) σ H Q := by
 refine ⟨fun pins s I => ?_⟩
 unfold k09
 refine wpAny_bind (thn (hi pins s σ H _ I h) fun x s1 h1 => ?_)
 refine wpAny_bind (wpAny_standAt (wpAny_bind (wpAny_of_eq (hs x) (wpAny_bind (wpAny_holding (wpAny_mono h1 (fun itv s2 h2 => ?_) fun _ _ e => e))))))
 obtain ⟨it, fp, tn, J, H2, e, I2, T, st2, f2', q⟩ := h2
 subst e
 refine wpAny_bind (wpAny_runOwn (Q := fun _ s' => wpAny (model X.prog X.w) X.A (pure ()) (fun _ s' => ∃ σ' H', Inv X pins σ' H' s' ∧ Q σ' H') X.xe s') ?_)
 exact j30 hxe hc k9b I2 T st2 f2' q fun σ' H' s' I' q' => wpAny_pure ⟨σ', H', I', q'⟩
theorem k37 {wi : TI} {Q : VK} (sc : Scope) (N N' : List Str) (n : Nat) (hi : PI X t1 i1 wi)
  (h : wi σ H fun J H1 => ∀ D, H1 D = none → ∀ cl C s₀ H₀ ex, j2m (j1a X N' scope cl C s₀ H₀ ex) t1 f1 (k09 elt t1 i1 f1 t2 i2 f2 scope pos (.ref D) (compEnvC scope cl C X.env)) J (fun _ H' => Q (.ref D) H') (σ ++ List.replicate n none) (upd H1 D (.lst [])))
  (hc : X.calm = true := by rfl) (hsc : X.env.scope = sc := by rfl) (hN : X.N = N := by rfl) (hk : j36 sc scope N N' = true := by decide +kernel) (hl : N'.length = N.length + n := by rfl)
  (hs : ∀ x, foldedSetIterable i1 X.env x = pure x := by intro _; rfl) : Ev X (.ListComp elt [⟨t1, i1, f1, 0⟩, ⟨t2, i2, f2, 0⟩] scope pos) σ H Q := by
 refine ⟨fun pins s I => ?_⟩
 subst hsc hN
 have ck := CompOk.of hk
 rw [eval_ListComp]
 refine wpAny_comprehension_free (use := none) rfl hs (j2j fun x hx hf => I.ok.has x.1 (ck.free x hx hf)) ck.kind ck.names (thn (hi pins s σ H _ I h) fun v s1 h1 => thn h1 fun itv s2 h2 => ?_)
 obtain ⟨it, fp, tn, J, H2, e, I2, T, st2, f2', q⟩ := h2
 subst e
 refine j2z (e := .ListComp elt [⟨t1, i1, f1, 0⟩, ⟨t2, i2, f2, 0⟩] scope pos) (newAcc := newList []) (o0 := { cls := .type "list", dict := none, data := .seq ([] : List Value).toArray }) (u0 := fun _ => .lst []) (fun _ _ _ h => wpAny_newObj_type h (by show (0 : Nat) ≤ sizeLine; exact Nat.zero_le _)) (fun _ _ _ => ⟨Nat.zero_le _, [], 0, .nil, Heap.get?_push_size _ rfl⟩) (Q := Q) (RR := fun acc C => compPost (model X.prog X.w) X.A X.xe none (EP X pins σ Q) acc C) hc ck hl (inner := k09 elt t1 i1 f1 t2 i2 f2 scope pos) (fun _ _ => k7o) I2 T st2 f2' q ?_
 intro D C H' s' m IX hn hC c1 c2 c3 c4 qq
 exact ⟨m, hn, fun h' hs' => ⟨.ref D, H', IX.turned (t' := s'.toks) (fun b o hb e => hs'.extBut b o hb e) hC (Ne.symm (Ne.symm c1)) (.inr c2) c3 c4, rfl, qq⟩⟩
end
end L2
namespace L2
open PySem PySem.Spec PyProof.Rows
section
variable {X : Cx} {pins : List (Addr × Obj)} {σ : St} {H : Hp} {s : Shared} {a : Addr} {y v : V} {u r : Value} {A : Around} {E : Value → Shared → Prop}
theorem j7r {H' : Hp} {Q : Unit → Shared → Prop} (hu : A.units + 1 < cLine) (I : Inv X pins σ H s) (g : DPut H a y v H') (ry : RelV y u) (rv : RelV v r) (h : ∀ s', Inv X pins σ H' s' → Q () s') :
  wpAny (model X.prog X.w) A (dictSet a u r) Q E s := by
 rcases g with ⟨kvs, k, e, ey, l, eH⟩ | ⟨kvs, k, b, e, ey, eb, l, eH⟩
 ·subst ey eH
  obtain ⟨z, hd, vs, rel, dd⟩ := k1i I.hok e
  have hz : vs.length ≤ sizeLine := by rw [← rel.length]; exact z
  have hl : (putK kvs k v).length ≤ sizeLine := by have := j0y kvs k v; omega
  refine wpAny_dictSet_pairs (hsz := hz) (j7v ry) dd fun h' dd' hs => h _ ?_
  have he : ∃ q, h'.get? a = some q := let ⟨q, _, _, hq, _⟩ := dd'; ⟨q, hq⟩
  exact j3a I (by rw [e]; exact True.intro) hs he (k3u hl hd (rel.put k rv) dd')
 ·subst ey eH
  cases (show u = Value.ref b from ry)
  obtain ⟨z, hd, xs, rel, dd⟩ := k9w I.hok e
  have hz : xs.length ≤ sizeLine := by rw [← Paired.length rel]; exact z
  have hl : (putK kvs k v).length ≤ sizeLine := by have := j0y kvs k v; omega
  have room : (tupleKind (j03 X.prog X.w)).room A := by first | exact hu | exact Nat.lt_of_succ_lt hu | exact Nat.lt_of_le_of_lt (Nat.le_succ _) hu
  refine wpAny_dictSet_heap (hsz := hz) room (j53 I.hok eb) dd fun h' dd' hs => h _ ?_
  obtain ⟨q, es, ep, hq, h2, h3, h4, _, h5⟩ := dd'
  refine j3a I (by rw [e]; exact True.intro) hs ⟨q, hq⟩ ⟨hl, hd, _, (rel.put k eb rv).keeps fun c ys ec => ?_, q, es, ep, hq, h2, h3, h4, h5⟩
  rw [j0c (j1j ec e (fun z => nomatch z))]
  exact ec
end
def j62 (k v : Expr) (acc : Value) (env : Env) : Sem Unit := do
 let kv ← eval k env
 let vv ← holding [kv] (eval v env)
 match acc with
 | .ref d => do
  standAt { k.pos with endLine := v.pos.endLine, endCol := v.pos.endCol }
  holding [kv, vv] (dictSet d kv vv)
 | _ => unsupported "internal:dictcomp"
def k0o (k v t1 i1 : Expr) (f1 : List Expr) (t2 i2 : Expr) (f2 : List Expr) (scope : Scope) (pos : Pos) (acc : Value) (env : Env) : Sem Unit := do
 let x ← eval i2 env
 standAt i2.pos
 let x ← foldedSetIterable i2 env x
 let _ ← runOwn (.compStart (.DictComp k v [⟨t1, i1, f1, 0⟩, ⟨t2, i2, f2, 0⟩] scope pos) 1 (← holding [x] (pyIter x)) acc env) env
section
variable {X : Cx} {k v t1 i1 t2 i2 : Expr} {f1 f2 : List Expr} {scope : Scope} {pos : Pos} {σ : St} {H : Hp} {acc : Value} {env : Env}
theorem k7q : Clause (.DictComp k v [⟨t1, i1, f1, 0⟩] scope pos) 0 t1 i1 f1 acc env (j62 k v acc env) := ⟨rfl, fun _ => rfl, fun _ _ _ => rfl, fun _ _ => rfl, fun _ _ _ => rfl, fun _ _ => rfl, fun it => by
 unfold j62
 cases acc <;> first | rfl | (simp only [bind_assoc, pure_bind]; rfl)⟩
theorem k4v : Clause (.DictComp k v [⟨t1, i1, f1, 0⟩, ⟨t2, i2, f2, 0⟩] scope pos) 0 t1 i1 f1 acc env (k0o k v t1 i1 f1 t2 i2 f2 scope pos acc env) := ⟨rfl, fun _ => rfl, fun _ _ _ => rfl, fun _ _ => rfl, fun _ _ _ => rfl, fun _ _ => rfl, fun it => by
 unfold k0o
 simp only [bind_assoc, pure_bind]
 rfl⟩
theorem k5w : Clause (.DictComp k v [⟨t1, i1, f1, 0⟩, ⟨t2, i2, f2, 0⟩] scope pos) 1 t2 i2 f2 acc env (j62 k v acc env) := ⟨rfl, fun _ => rfl, fun _ _ _ => rfl, fun _ _ => rfl, fun _ _ _ => rfl, fun _ _ => rfl, fun it => by
 unfold j62
 cases acc <;> first | rfl | (simp only [bind_assoc, pure_bind]; rfl)⟩
theorem j5j {D : Addr} {Q : St → Hp → Prop} (hu : X.A.units + 1 < cLine) (h : Ev X k σ H fun y H1 => Ev X v σ H1 fun x H2 => ∃ H3, DPut H2 D y x H3 ∧ Q σ H3) : Ein X (j62 k v (.ref D) X.env) σ H Q := by
 refine ⟨fun pins s I => ?_⟩
 unfold j62
 refine wpAny_bind (thn (h.run pins s I) fun kv s1 ⟨y, H1, I1, r1, h1⟩ => ?_)
 refine wpAny_bind (wpAny_holding (thn (h1.run pins s1 I1) fun vv s2 ⟨x, H2, I2, r2, H3, dp, q⟩ => ?_))
 show wpAny _ _ (standAt _ >>= fun _ => holding [kv, vv] (dictSet D kv vv)) _ _ _
 exact wpAny_bind (wpAny_standAt (wpAny_holding (j7r hu I2 dp r1 r2 fun s' I' => ⟨σ, H3, I', q⟩)))
theorem k3q {wi : TI} {Q : St → Hp → Prop} (hxe : X.xe = fun _ _ => False) (hc : X.calm = true) (hi : PI X t2 i2 wi) (h : wi σ H fun J H1 => j2m X t2 f2 (j62 k v acc X.env) J Q σ H1)
  (hs : ∀ x, foldedSetIterable i2 X.env x = pure x := by intro _; rfl) : Ein X (k0o k v t1 i1 f1 t2 i2 f2 scope pos acc X.env) σ H Q := by
 refine ⟨fun pins s I => ?_⟩
 unfold k0o
 refine wpAny_bind (thn (hi pins s σ H _ I h) fun x s1 h1 => ?_)
 refine wpAny_bind (wpAny_standAt (wpAny_bind (wpAny_of_eq (hs x) (wpAny_bind (wpAny_holding (wpAny_mono h1 (fun itv s2 h2 => ?_) fun _ _ e => e))))))
 obtain ⟨it, fp, tn, J, H2, e, I2, T, st2, f2', q⟩ := h2
 subst e
 refine wpAny_bind (wpAny_runOwn (Q := fun _ s' => wpAny (model X.prog X.w) X.A (pure ()) (fun _ s' => ∃ σ' H', Inv X pins σ' H' s' ∧ Q σ' H') X.xe s') ?_)
 exact j30 hxe hc k5w I2 T st2 f2' q fun σ' H' s' I' q' => wpAny_pure ⟨σ', H', I', q'⟩
theorem j7q {wi : TI} {Q : VK} (sc : Scope) (N N' : List Str) (n : Nat) (hi : PI X t1 i1 wi)
  (h : wi σ H fun J H1 => ∀ D, H1 D = none → ∀ cl C s₀ H₀ ex, j2m (j1a X N' scope cl C s₀ H₀ ex) t1 f1 (j62 k v (.ref D) (compEnvC scope cl C X.env)) J (fun _ H' => Q (.ref D) H') (σ ++ List.replicate n none) (upd H1 D (.dT [])))
  (hc : X.calm = true := by rfl) (hsc : X.env.scope = sc := by rfl) (hN : X.N = N := by rfl) (hk : j36 sc scope N N' = true := by decide +kernel) (hl : N'.length = N.length + n := by rfl)
  (hs : ∀ x, foldedSetIterable i1 X.env x = pure x := by intro _; rfl) : Ev X (.DictComp k v [⟨t1, i1, f1, 0⟩] scope pos) σ H Q := by
 refine ⟨fun pins s I => ?_⟩
 subst hsc hN
 have ck := CompOk.of hk
 show wpAny _ _ (comprehension (.DictComp k v [⟨t1, i1, f1, 0⟩] scope pos) scope X.env (firstIterPos [⟨t1, i1, f1, 0⟩] pos) newDict (firstAsync [⟨t1, i1, f1, 0⟩]) (firstIter [⟨t1, i1, f1, 0⟩] X.env)) _ _ _
 refine wpAny_comprehension_free (use := none) rfl hs (j2j fun x hx hf => I.ok.has x.1 (ck.free x hx hf)) ck.kind ck.names (thn (hi pins s σ H _ I h) fun xv s1 h1 => thn h1 fun itv s2 h2 => ?_)
 obtain ⟨it, fp, tn, J, H2, e, I2, T, st2, f2', q⟩ := h2
 subst e
 refine j2z (e := .DictComp k v [⟨t1, i1, f1, 0⟩] scope pos) (newAcc := newDict) (o0 := { cls := .type "dict", data := .dict #[] }) (u0 := fun _ => .dT []) (fun _ _ _ h => wpAny_newObj_type h) (fun _ h hb => j6n h hb) (Q := Q) (RR := fun acc C => compPost (model X.prog X.w) X.A X.xe none (EP X pins σ Q) acc C) hc ck hl (inner := j62 k v) (fun _ _ => k7q) I2 T st2 f2' q ?_
 intro D C H' s' m IX hn hC c1 c2 c3 c4 qq
 exact ⟨m, hn, fun h' hs' => ⟨.ref D, H', IX.turned (t' := s'.toks) (fun b o hb e => hs'.extBut b o hb e) hC (Ne.symm (Ne.symm c1)) (.inr c2) c3 c4, rfl, qq⟩⟩
theorem k02 {wi : TI} {Q : VK} (sc : Scope) (N N' : List Str) (n : Nat) (hi : PI X t1 i1 wi)
  (h : wi σ H fun J H1 => ∀ D, H1 D = none → ∀ cl C s₀ H₀ ex, j2m (j1a X N' scope cl C s₀ H₀ ex) t1 f1 (k0o k v t1 i1 f1 t2 i2 f2 scope pos (.ref D) (compEnvC scope cl C X.env)) J (fun _ H' => Q (.ref D) H') (σ ++ List.replicate n none) (upd H1 D (.dT [])))
  (hc : X.calm = true := by rfl) (hsc : X.env.scope = sc := by rfl) (hN : X.N = N := by rfl) (hk : j36 sc scope N N' = true := by decide +kernel) (hl : N'.length = N.length + n := by rfl)
  (hs : ∀ x, foldedSetIterable i1 X.env x = pure x := by intro _; rfl) : Ev X (.DictComp k v [⟨t1, i1, f1, 0⟩, ⟨t2, i2, f2, 0⟩] scope pos) σ H Q := by
 refine ⟨fun pins s I => ?_⟩
 subst hsc hN
 have ck := CompOk.of hk
 show wpAny _ _ (comprehension (.DictComp k v [⟨t1, i1, f1, 0⟩, ⟨t2, i2, f2, 0⟩] scope pos) scope X.env (firstIterPos [⟨t1, i1, f1, 0⟩, ⟨t2, i2, f2, 0⟩] pos) newDict (firstAsync [⟨t1, i1, f1, 0⟩, ⟨t2, i2, f2, 0⟩]) (firstIter [⟨t1, i1, f1, 0⟩, ⟨t2, i2, f2, 0⟩] X.env)) _ _ _
 refine wpAny_comprehension_free (use := none) rfl hs (j2j fun x hx hf => I.ok.has x.1 (ck.free x hx hf)) ck.kind ck.names (thn (hi pins s σ H _ I h) fun xv s1 h1 => thn h1 fun itv s2 h2 => ?_)
 obtain ⟨it, fp, tn, J, H2, e, I2, T, st2, f2', q⟩ := h2
 subst e
 refine j2z (e := .DictComp k v [⟨t1, i1, f1, 0⟩, ⟨t2, i2, f2, 0⟩] scope pos) (newAcc := newDict) (o0 := { cls := .type "dict", data := .dict #[] }) (u0 := fun _ => .dT []) (fun _ _ _ h => wpAny_newObj_type h) (fun _ h hb => j6n h hb) (Q := Q) (RR := fun acc C => compPost (model X.prog X.w) X.A X.xe none (EP X pins σ Q) acc C) hc ck hl (inner := k0o k v t1 i1 f1 t2 i2 f2 scope pos) (fun _ _ => k4v) I2 T st2 f2' q ?_
 intro D C H' s' m IX hn hC c1 c2 c3 c4 qq
 exact ⟨m, hn, fun h' hs' => ⟨.ref D, H', IX.turned (t' := s'.toks) (fun b o hb e => hs'.extBut b o hb e) hC (Ne.symm (Ne.symm c1)) (.inr c2) c3 c4, rfl, qq⟩⟩
end
end L2
namespace L2
open PySem PySem.Spec PyProof.Rows SetT
theorem k5s {prog : Program} {w : World} {A : Around} {E : Value → Shared → Prop} {s : Shared} {a : Addr} {zs : List Str} {z : Str} {tk : Tok} {Q : Value → Shared → Prop} (S : SetAt prog w s.heap a zs) (hb : zs.length + 1 < 1000)
  (h : ∀ h', Heap.SameBut a s.heap h' → SetAt prog w h' a (added zs z) → Q .none { s with heap := h', toks := s.toks + 1 }) :
  wpAny (model prog w) A (call (.builtin "set.add") [.ref a, .str z tk]) Q E s := by
 have hT : s.TypeIs (.ref a) "set" := let ⟨o, _, _, _, ho, hx, _⟩ := S; ⟨o, ho, hx.1⟩
 refine wpAny_call_entry F.slot_set_add hT F.entry_set_add ?_ (F.args_set_add_2 _ _)
 unfold Builtin.«set.add» Builtin.Frozenset.oneOther
 simp only [List.isEmpty_nil, bind_assoc]
 unfold Builtin.Frozenset.addrOf setAdd
 refine wpAny_bind (wpAny_pure ?_)
 try dsimp only
 refine wpAny_bind (wpAny_pure ?_)
 try dsimp only
 refine wpAny_bind ?_
 refine wpAny_holding ?_
 refine wpAny_bind ((PySem.strKind prog w).pyHash (k := z) (v := .str z tk) (by simp [PySem.strKind, Value.isStrOf]) ?_)
 refine k9z (s := { s with toks := s.toks + 1 }) S hb fun b h' sb S' => ?_
 show wpAny _ _ (ret Value.none) _ _ _
 exact wpAny_pure ⟨_, rfl, h h' sb S'⟩
section
variable {X : Cx} {elt t1 i1 t2 i2 : Expr} {f1 f2 : List Expr} {scope : Scope} {pos : Pos} {σ : St} {H : Hp} {acc : Value} {env : Env}
end
end L2
namespace Spl
open PySem PySem.Builtin PySem.Builtin.Str PySem.StrLaws
end Spl
namespace L2
open PySem PySem.Builtin PySem.Builtin.Str
section
variable {X : Cx} {σ : St} {H : Hp} {Q : VK}
end
end L2
namespace PySem
def Plain (h : Heap) (d : Addr) (es : Array DictEntry) (ep : Nat) : Prop := ∃ o, h.get? d = some o ∧ o.ExactDict ∧ o.data = .dict es ep
section
variable {P : Program} {w : World} {A : Around} {E : Value → Shared → Prop} {s : Shared}
theorem k0k (d : Addr) (hd : (d == sysModules) = false) : MeetsIn P w (Builtin.«dict.items» ⟨[.ref d], []⟩) (fun _ R u => u.TypeIs (.ref d) "dict" ∧
  R (.ok (.ret (.ref u.heap.objs.size))) { u with heap := u.heap.push { cls := .type "dict_items", data := .fields #[.ref d] } }) := by
 refine .of_wp fun B R u ⟨hT, k⟩ => ?_
 unfold Builtin.«dict.items» Builtin.Dict.noArgs
 refine wpAny_bind (wpAny_bind (wpAny_notOrdered_dict hT ?_))
 show wpAny _ _ (pure d) _ _ u
 refine wpAny_pure ?_
 show wpAny _ _ (Builtin.Dict.showsAll d >>= _) _ _ u
 unfold Builtin.Dict.showsAll
 rw [if_neg (by rw [hd]; exact Bool.false_ne_true)]
 exact wpAny_bind (wpAny_pure (wpAny_bind (wpAny_newObj_type (wpAny_pure ⟨_, rfl, k⟩))))
theorem k1a {v d : Addr} {es : Array DictEntry} {ep : Nat} {Q : Value → Shared → Prop} (hv : s.heap.IsItemsView v d) (hm : Plain s.heap d es ep)
  (k : Q (.ref s.heap.objs.size) { s with heap := s.heap.push { cls := .type "dict_itemiterator", data := .fields #[.none, .bool false, .ref d, .int 0 0, .int es.size 0, .int ep 0, .none, .none] } }) :
  wpAny (model P w) A (pyIter (.ref v)) Q E s := by
 obtain ⟨vo, e1, e2, e3⟩ := id hv
 obtain ⟨o, f1, f2, f3⟩ := hm
 refine wpAny_pyIter_slot hv.typeIs F.slot_dict_items_iter (wpAny_call_entry F.slot_dict_items_iter hv.typeIs F.entry_dict_items_iter ?_ (F.args_dict_items_iter_1 _))
 unfold Builtin.«dict_items.__iter__» Builtin.Dict_items.dictOf Builtin.Dict_items.newIterator
 refine wpAny_bind (wpAny_pure (wpAny_bind (wpAny_bind (wpAny_field e1 e3 (x := .ref d) rfl (wpAny_pure ?_)))))
 refine wpAny_bind (wpAny_bind (wpAny_dictEntries f1 f3 (wpAny_bind (wpAny_dictEpoch f1 f3 ?_))))
 have ow : Builtin.Dict_items.ownsTuple "dict_itemiterator" = true := by decide
 simp only [ow, if_true]
 refine wpAny_newObj_type (wpAny_pure ⟨_, rfl, "dict_itemiterator", _, ⟨_, Heap.get?_push_size _ rfl, rfl⟩, F.slot_dict_itemiterator_next.lookup, ?_⟩) ?_
 ·simpa [rawInt, Builtin.Dict_items.ownedTupleFields] using k
 ·simp only [sizeOk, Builtin.Dict_items.ownedTupleFields, List.size_toArray, List.length_append, List.length_cons, List.length_nil, sizeLine_eq]
  omega
theorem k0w {it d : Addr} {i ep : Nat} {es : Array DictEntry} {en : DictEntry} {y z : Value} {Q : Option Value → Shared → Prop} (hit : IsItemIter s.heap it d i es.size ep y z) (hm : Plain s.heap d es ep) (hx : es[i]? = some en)
  (k : ∀ h', IsItemIterOut h' it d (i + 1) es.size ep en.key en.val s.heap.objs.size → h'.get? s.heap.objs.size = some { cls := .type "tuple", data := .seq #[en.key, en.val] } →
   (∀ b o, b ≠ it → s.heap.get? b = some o → h'.get? b = some o) → Q (some (.ref s.heap.objs.size)) { s with heap := h' }) : wpAny (model P w) A (pyNext (.ref it)) Q E s := by
 obtain ⟨hp, g, dr, tk, os⟩ := s
 obtain ⟨o, f1, f2, f3⟩ := hm
 have ty : Shared.TypeIs ⟨hp, g, dr, tk, os⟩ (.ref it) "dict_itemiterator" := ⟨_, hit, rfl⟩
 have lt : i < es.size := by
  rcases Nat.lt_or_ge i es.size with h | h
  ·exact h
  ·rw [Array.getElem?_eq_none h] at hx
   cases hx
 have ow : Builtin.Dict_items.ownsTuple "dict_itemiterator" = true := by decide
 unfold pyNext
 refine wpAny_bind (wpAny_attempt (wpAny_callSpecial?_slot (name := Str.ofString "__next__") ty F.slot_dict_itemiterator_next (wpAny_call_entry F.slot_dict_itemiterator_next ty F.entry_dict_itemiterator_next ?_ (F.args_dict_itemiterator_next_1 _))))
 refine wpAny_bind (wpAny_pure (wpAny_bind (wpAny_bind ?_)))
 first | refine wpAny_bind (wpAny_typeNameOfWhole_itemiter ty (wpAny_pure ?_)) | refine wpAny_bind (wpAny_typeNameOf_itemiter ty (wpAny_pure ?_))
 refine wpAny_bind (wpAny_fieldsOf hit rfl ?_)
 simp only [ow, if_true]
 show wpAny _ _ (if (Value.ref d == Value.none) = true then _ else _) _ _ _
 rw [if_neg (show ¬ ((Value.ref d == Value.none) = true) from Bool.false_ne_true)]
 refine wpAny_bind (wpAny_pure (wpAny_bind (wpAny_dictEntries f1 f3 ?_)))
 rw [if_neg (by simp)]
 refine wpAny_bind (wpAny_pure (wpAny_bind (wpAny_dictEpoch f1 f3 ?_)))
 rw [if_neg (by simp)]
 refine wpAny_pure ?_
 have ee : es[i] = en := Option.some.inj ((Array.getElem?_eq_getElem lt).symm.trans hx)
 simp only [show ¬ ((i : Int) < 0) from by omega, if_false, Int.toNat_natCast, hx]
 refine wpAny_bind ?_
 first | refine wpAny_bind (wpAny_typeNameOfWhole_itemiter ty (wpAny_pure ?_)) | refine wpAny_bind (wpAny_typeNameOf_itemiter ty (wpAny_pure ?_))
 refine wpAny_bind (wpAny_isOneOf_itemiter ty ?_)
 show wpAny _ _ (setField (.ref it) 3 (rawInt ((i : Int) + 1)) >>= _) _ _ ⟨hp, g, dr, tk, os⟩
 refine wpAny_bind (wpAny_setField_rec hit (by simp) fun ha ea sa => ?_)
 replace sa : Heap.SameBut it hp ha := sa
 replace ea : IsItemIter ha it d (i + 1) es.size ep y z := by
  have e : ((i + 1 : Nat) : Int) = (i : Int) + 1 := by omega
  unfold IsItemIter
  rw [e]
  simpa [rawInt] using ea
 have tya : Shared.TypeIs ⟨ha, g, dr, tk, os⟩ (.ref it) "dict_itemiterator" := ⟨_, ea, rfl⟩
 refine wpAny_bind (wpAny_holding (wpAny_bind (wpAny_isOneOf_itemiter tya (wpAny_bind (wpAny_isOneOf_itemiter tya ?_)))))
 show wpAny _ _ (Builtin.Dict_items.pairFromOwner (.ref it) 6 en.key en.val) _ _ ⟨ha, g, dr, tk, os⟩
 unfold Builtin.Dict_items.pairFromOwner Builtin.Dict_items.ownedTupleIsFree
 refine wpAny_bind (wpAny_newTuple ?_)
 have eb : IsItemIter (ha.push { cls := .type "tuple", data := .seq #[en.key, en.val] }) it d (i + 1) es.size ep y z := Heap.get?_push_of_some _ ea
 have za : ha.objs.size = hp.objs.size := sa.1
 have il : it < hp.objs.size := Heap.lt_size hit
 have tb : (ha.push { cls := .type "tuple", data := .seq #[en.key, en.val] }).get? hp.objs.size = some { cls := .type "tuple", data := .seq #[en.key, en.val] } := by rw [← za]; exact Heap.get?_push_size _ rfl
 have kb : ∀ b u, b ≠ it → hp.get? b = some u → (ha.push { cls := .type "tuple", data := .seq #[en.key, en.val] }).get? b = some u := fun b u hb e => Heap.get?_push_of_some _ (sa.extBut b u hb e)
 rw [za]
 generalize ha.push { cls := .type "tuple", data := .seq #[en.key, en.val] } = hb at eb tb kb
 refine wpAny_bind (wpAny_bind (wpAny_field (s := ⟨hb, g, dr, tk, os⟩) eb rfl (x := .none) rfl (wpAny_pure ?_)))
 simp only [if_true]
 refine wpAny_bind (wpAny_field (s := ⟨hb, g, dr, tk, os⟩) eb rfl (x := y) rfl (wpAny_bind (wpAny_field (s := ⟨hb, g, dr, tk, os⟩) eb rfl (x := z) rfl ?_)))
 refine wpAny_bind (wpAny_setField_rec eb (by simp) fun h3 e3 s3 => ?_)
 replace s3 : Heap.SameBut it hb h3 := s3
 replace e3 : IsItemIter h3 it d (i + 1) es.size ep en.key z := e3
 refine wpAny_bind (wpAny_setField_rec e3 (by simp) fun h4 e4 s4 => ?_)
 replace s4 : Heap.SameBut it h3 h4 := s4
 replace e4 : IsItemIter h4 it d (i + 1) es.size ep en.key en.val := e4
 refine wpAny_bind (wpAny_setField_rec e4 (by simp) fun h5 e5 s5 => ?_)
 replace s5 : Heap.SameBut it h4 h5 := s5
 replace e5 : IsItemIterOut h5 it d (i + 1) es.size ep en.key en.val hp.objs.size := e5
 refine wpAny_bind (wpAny_setField_rec e5 (by simp) fun h6 e6 s6 => ?_)
 replace s6 : Heap.SameBut it h5 h6 := s6
 replace e6 : IsItemIterOut h6 it d (i + 1) es.size ep en.key en.val hp.objs.size := e6
 have all := ((s3.trans s4).trans s5).trans s6
 exact wpAny_bind (wpAny_letGo (wpAny_pure (wpAny_pure ⟨_, rfl, wpAny_pure (k h6 e6 (all.extBut _ _ (Nat.ne_of_gt il) tb) fun b u hb' e => all.extBut b u hb' (kb b u hb' e))⟩)))
theorem k1j {it d : Addr} {i ep : Nat} {es : Array DictEntry} {y z : Value} {Q : Option Value → Shared → Prop} (hh : A.handled = none) (hit : IsItemIter s.heap it d i es.size ep y z) (hm : Plain s.heap d es ep) (hx : es.size ≤ i)
  (k : ∀ h', Heap.ExtBut it s.heap h' → Q none { s with heap := h' }) : wpAny (model P w) A (pyNext (.ref it)) Q E s := by
 obtain ⟨o, f1, f2, f3⟩ := hm
 have ty : s.TypeIs (.ref it) "dict_itemiterator" := ⟨_, hit, rfl⟩
 have ow : Builtin.Dict_items.ownsTuple "dict_itemiterator" = true := by decide
 unfold pyNext
 refine wpAny_bind (wpAny_attempt (wpAny_callSpecial?_slot (name := Str.ofString "__next__") ty F.slot_dict_itemiterator_next (wpAny_call_entry F.slot_dict_itemiterator_next ty F.entry_dict_itemiterator_next ?_ (F.args_dict_itemiterator_next_1 _))))
 refine wpAny_bind (wpAny_pure (wpAny_bind (wpAny_bind ?_)))
 first | refine wpAny_bind (wpAny_typeNameOfWhole_itemiter ty (wpAny_pure ?_)) | refine wpAny_bind (wpAny_typeNameOf_itemiter ty (wpAny_pure ?_))
 refine wpAny_bind (wpAny_fieldsOf hit rfl ?_)
 simp only [ow, if_true]
 show wpAny _ _ (if (Value.ref d == Value.none) = true then _ else _) _ _ s
 rw [if_neg (show ¬ ((Value.ref d == Value.none) = true) from Bool.false_ne_true)]
 refine wpAny_bind (wpAny_pure (wpAny_bind (wpAny_dictEntries f1 f3 ?_)))
 rw [if_neg (by simp)]
 refine wpAny_bind (wpAny_pure (wpAny_bind (wpAny_dictEpoch f1 f3 ?_)))
 rw [if_neg (by simp)]
 refine wpAny_pure ?_
 simp only [show ¬ ((i : Int) < 0) from by omega, if_false, Int.toNat_natCast, Array.getElem?_eq_none hx]
 refine wpAny_bind ?_
 first | refine wpAny_bind (wpAny_typeNameOfWhole_itemiter ty (wpAny_pure ?_)) | refine wpAny_bind (wpAny_typeNameOf_itemiter ty (wpAny_pure ?_))
 show wpAny _ _ (setField (.ref it) 2 .none >>= _) _ _ s
 refine wpAny_bind (wpAny_setField hit rfl (by simp) ?_)
 show wpAny _ _ (newExc (.type "StopIteration") [] >>= _) _ _ _
 refine wpAny_bind ?_
 simp only [newExc, newTuple]
 refine wpAny_bind (wpAny_newObj_type ?_ (by size_fits))
 refine wpAny_bind (m := firstArgMember _ _) (wpAny_of_eq (a := Value.none) (by first | rfl | (simp only [firstArgMember]; rfl)) ?_)
 refine wpAny_newObj_type ?_ (by size_fits)
 simp only [raiseNew]
 refine wpAny_bind (wpAny_handled ?_)
 rw [show A.in1.handled = none from hh]
 refine wpAny_bind (wpAny_pure (wpAny_throw ?_))
 exact wpAny_bind (wpAny_isInstance (T := "StopIteration") (b := true) ⟨_, Heap.get?_push_size _ rfl, rfl⟩ isSubtype_stop (wpAny_pure (k _ (((Heap.SameBut.update ..).extBut.push _).push _))))
theorem j5w : entryFor table "dict_itemiterator.__iter__" = some Builtin.«dict_keyiterator.__iter__» :=
 entryFor_alias (id' := "dict_keyiterator.__iter__") (by kernel_rfl) rfl (by decide +kernel) (by kernel_rfl)
theorem k0g {it d : Addr} {i n ep : Nat} {y z : Value} {Q : Value → Shared → Prop} (e : IsItemIter s.heap it d i n ep y z) (h : Q (.ref it) s) : wpAny (model P w) A (pyIter (.ref it)) Q E s := by
 have ty : s.TypeIs (.ref it) "dict_itemiterator" := ⟨_, e, rfl⟩
 refine wpAny_pyIter_slot ty F.slot_dict_itemiterator_iter (wpAny_call_entry F.slot_dict_itemiterator_iter ty j5w ?_ (F.args_dict_itemiterator_iter_1 _))
 show wpAny _ _ (ret (.ref it)) _ _ s
 exact wpAny_pure ⟨_, rfl, "dict_itemiterator", _, ty, F.slot_dict_itemiterator_next.lookup, h⟩
end
end PySem
namespace L2
open PySem PySem.Spec PyProof.Rows
section
variable {X : Cx} {pins : List (Addr × Obj)} {σ : St} {H : Hp} {s : Shared}
theorem j86 {d : Addr} {kvs : List (List Key × V)} (I : Inv X pins σ H s) (e : H d = some (.dT kvs)) : ∃ o, s.heap.get? d = some o ∧ Inv X pins σ (upd H d (.frz o (.dT kvs))) s := by
 obtain ⟨z, hd, xs, r, o, es, ep, ho, h2, h3, h4, h5⟩ := (show ObjOk X.prog X.w H s.heap d (.dT kvs) from I.hok d _ e)
 refine ⟨o, ho, ?_⟩
 have r' : KT (upd H d (.frz o (.dT kvs))) kvs xs := KT.keeps r fun b ys q => by
  rw [j0c (j1j q e fun z => nomatch z)]
  exact q
 exact j3a (t' := s.toks) I (by rw [e]; exact True.intro) ⟨rfl, fun _ _ => rfl⟩ ⟨o, ho⟩ (show ObjOk X.prog X.w _ s.heap d (.frz o (.dT kvs)) from ⟨ho, z, hd, xs, r', o, es, ep, ho, h2, h3, h4, h5⟩)
def Itm (d : Addr) (o : Obj) (kvs : List (List Key × V)) : It :=
  ⟨fun i H => H d = some (.frz o (.dT kvs)) ∧ i < kvs.length,
   fun i H v H' => ∃ T b k x, kvs[i]? = some (k, x) ∧ H b = some (.tup (k.map kV)) ∧ H T = none ∧ v = .ref T ∧ H' = upd H T (.tup [.ref b, x]),
   fun i H => H d = some (.frz o (.dT kvs)) ∧ kvs.length ≤ i⟩
theorem k3a {P : Program} {w : World} {h : Heap} {d : Addr} {o : Obj} {es : Array DictEntry} {ep : Nat} {kvs : List (List Key × V)} (hok : HOk P w H h) (e : H d = some (.frz o (.dT kvs))) (hd : o.data = .dict es ep) :
  Plain h d es ep ∧ ∃ xs, KT H kvs xs ∧ es.toList = xs.map (entryOfKey (tupleKind (j03 P w))) := by
 obtain ⟨ho, z, _, xs, r, o', es', ep', ho', h2, h3, h4, h5⟩ := (show ObjOk P w H h d (.frz o (.dT kvs)) from hok d _ e)
 have : o = o' := Option.some.inj (ho.symm.trans ho')
 subst this
 rw [hd] at h3
 injection h3 with e1 e2
 subst e1
 subst e2
 exact ⟨⟨o, ho, h2, hd⟩, xs, r, h4⟩
theorem kt_len {H : Hp} : ∀ {kvs : List (List Key × V)} {xs : List (List Key × Addr × Value)}, KT H kvs xs → kvs.length = xs.length := fun r => by
 induction r with
 | nil => rfl
 | cons _ _ ih => simp only [List.length_cons, ih]
theorem kt_at {H : Hp} : ∀ {kvs : List (List Key × V)} {xs : List (List Key × Addr × Value)}, KT H kvs xs → ∀ {i : Nat} {k : List Key} {x : V}, kvs[i]? = some (k, x) → ∃ b u, xs[i]? = some (k, b, u) ∧ H b = some (.tup (k.map kV)) ∧ RelV x u := fun r => by
 induction r with
 | nil => intro i k x h; simp at h
 | @cons p q ps qs hq t ih =>
  intro i k x h
  cases i with
  | zero =>
   simp only [List.getElem?_cons_zero, Option.some.injEq] at h
   subst h
   obtain ⟨a, b, c⟩ := q
   obtain ⟨q1, q2, q3⟩ := hq
   have q1 : k = a := q1
   subst q1
   exact ⟨b, c, rfl, q2, q3⟩
  | succ i => exact ih (by simpa using h)
theorem k0s {P : Program} {w : World} {K : PySem.W.Frag} {elts : List Expr} {kk : Nat} {tp : Pos} (d it : Addr) (o : Obj) (es : Array DictEntry) (ep : Nat) (kvs : List (List Key × V)) (hod : o.data = .dict es ep) :
  Turn P w K (.Tuple elts kk tp) (Itm d o kvs) [it] it (fun i h => ∃ y z, IsItemIter h it d i es.size ep y z) where
 mem := by simp
 obj := fun i h st b hb => by
  have e : b = it := by simpa using hb
  subst e
  obtain ⟨y, z, e⟩ := st
  exact ⟨_, e, fun v z => by cases z⟩
 keep := fun i h h' st k => let ⟨y, z, e⟩ := st; ⟨y, z, k it (by simp) _ e⟩
 item := by
  intro X hP hw hK hc i pins s σ H E I hf st hg
  subst hP hw hK
  obtain ⟨f0, f1, f2, f3, f4, f5⟩ := hf it (by simp)
  obtain ⟨hd, hi⟩ := hg
  obtain ⟨pd, xs, r, hes⟩ := k3a I.hok hd hod
  obtain ⟨y, z, st⟩ := st
  have hx : kvs[i]? = some (kvs[i].1, kvs[i].2) := List.getElem?_eq_getElem hi
  obtain ⟨b, u, hxs, hb, ru⟩ := kt_at r hx
  have hen := entry_at hes i
  rw [hxs] at hen
  refine k0w st pd (en := entryOfKey (tupleKind (j03 X.prog X.w)) (kvs[i].1, b, u)) hen fun h' q1 q2 kp => ?_
  have hT : H s.heap.objs.size = none := I.hok.fresh (Nat.le_refl _)
  have nT : it ≠ s.heap.objs.size := Nat.ne_of_lt (Heap.lt_size st)
  have I1 : Inv X pins σ (upd H s.heap.objs.size (.tup [.ref b, kvs[i].2])) { s with heap := s.heap.push { cls := .type "tuple", data := .seq #[Value.ref b, u] } } :=
   I.laid (t' := s.toks) (fun b o e => Heap.get?_push_of_some _ e) (Nat.le_refl _) (show ObjOk X.prog X.w _ _ _ (.tup [.ref b, kvs[i].2]) from ⟨(by show 2 ≤ sizeLine; decide), [Value.ref b, u], .cons rfl (.cons ru .nil), ⟨_, Heap.get?_push_size _ rfl, rfl, _, rfl⟩⟩)
  have fp : ∀ c ∈ [it], FpOk X pins (upd H s.heap.objs.size (.tup [.ref b, kvs[i].2])) c := fun c hc' => by
   have e : c = it := by simpa using hc'
   subst e
   exact ⟨by rw [j0c nT]; exact f0, f1, f2, f3, f4, f5⟩
  have I2 := Inv.turnedL (h' := h') (t' := s.toks) I1 fp fun c v hc' e => by
   have nc : c ≠ it := by simpa using hc'
   rcases Heap.get?_push_cases e with ⟨ec, eo⟩ | e'
   ·rw [ec, eo]
    exact q2
   ·exact kp c v nc e'
  refine ⟨_, rfl, wpAny_letOwnedTupleGo_items (s := { s with heap := h' }) q1 fun h2 b1 sb => ?_⟩
  have I3 := Inv.turnedL (h' := h2) (t' := s.toks) I2 fp fun c v hc' e => (sb.2 c (by simpa using hc')).trans e
  exact ⟨.ref s.heap.objs.size, _, I3, rfl, ⟨_, b, kvs[i].1, kvs[i].2, hx, hb, hT, rfl, rfl⟩, ⟨_, _, b1⟩, fun c hc' => (fp c hc').1⟩
 done := by
  intro X hP hw hK hc i pins s σ H E I hf st hg
  subst hP hw hK
  obtain ⟨hd, hi⟩ := hg
  obtain ⟨pd, xs, r, hes⟩ := k3a I.hok hd hod
  obtain ⟨y, z, st⟩ := st
  have hl : es.size = kvs.length := by rw [kt_len r, ← Array.length_toList, hes, List.length_map]
  exact k1j (I.ok.hd hc) st pd (by omega) fun h' eb => ⟨rfl, I.turnedL (t' := s.toks) hf fun c v hc' e => eb c v (by simpa using hc') e⟩
 self := fun _ _ _ _ _ st h => let ⟨y, z, e⟩ := st; k0g e h
end
section
variable {X : Cx}
def q0d (to : TE) : TI := fun σ H R => to σ H fun x H1 => ∃ d kvs, x = .ref d ∧ H1 d = some (.dT kvs) ∧ ∀ o, R (Itm d o kvs) (upd H1 d (.frz o (.dT kvs)))
theorem j9s {elts : List Expr} {kk : Nat} {tp ap cp : Pos} {l : Expr} {to : TE} (ho : PE X l to) (hbase : attributeBase l "items" X.env (eval l X.env) = eval l X.env := by rfl) (hline : (ap.endLine == cp.line) = true := by rfl) :
  PI X (.Tuple elts kk tp) (.Call (.Attribute l "items" ap) [] [] cp) (q0d to) := by
 intro pins s σ H R I h
 refine wpAny_Call_method0_late hbase hline (thn (ho pins s σ H _ I h) fun v s1 ⟨x, H1, I1, r1, q1⟩ => ?_)
 obtain ⟨d, kvs, e, hd, q⟩ := q1
 subst e
 cases (show v = Value.ref d from r1)
 obtain ⟨_, hsy, _, _, o, es, ep, e1, e2, e3, _⟩ := (show ObjOk X.prog X.w H1 s1.heap d (.dT kvs) from I1.hok d _ hd)
 have ty : s1.TypeIs (.ref d) "dict" := ⟨o, e1, e2.1⟩
 refine ⟨"dict", "dict.items", F.plainAttrs_dict, F.slot_dict_items, F.type_dict_items, ty, fun a ea => ?_, Calls.callWith_builtin rfl (PySem.evalArgs_none ?_)⟩
 ·cases ea
  exact ⟨o, e1, e2.2.1⟩
 refine call_meetsIn F.slot_dict_items ty F.entry_dict_items (F.args_dict_items_1 _) (k0k d hsy) ⟨ty, ?_⟩
 obtain ⟨o', eo, I2⟩ := j86 I1 hd
 have : o = o' := Option.some.inj (e1.symm.trans eo)
 subst this
 have I3 := I2.kept (t' := s1.toks) (h' := s1.heap.push { cls := .type "dict_items", data := .fields #[.ref d] }) fun b u e => Heap.get?_push_of_some _ e
 refine k1a (s := { s1 with heap := s1.heap.push { cls := .type "dict_items", data := .fields #[.ref d] } }) (d := d) (es := es) (ep := ep) ⟨_, Heap.get?_push_size _ rfl, rfl, rfl⟩ ⟨o, Heap.get?_push_of_some _ e1, e2, e3⟩ ?_
 refine ⟨_, [(s1.heap.push { cls := .type "dict_items", data := .fields #[.ref d] }).objs.size], _, _, _, rfl, I3.kept (t' := s1.toks) fun b u e => Heap.get?_push_of_some _ e, k0s d _ o es ep kvs e3, ⟨_, _, Heap.get?_push_size _ rfl⟩, fun b hb => ?_, q o⟩
 have e : b = (s1.heap.push { cls := .type "dict_items", data := .fields #[.ref d] }).objs.size := by simpa using hb
 subst e
 exact I3.fpOk (Nat.le_refl _) (I3.hok.fresh (Nat.le_refl _))
end
section
variable {X : Cx} {tg : Expr} {ifs : List Expr} {inner : Sem Unit} {σ : St} {H : Hp} {d : Addr} {o : Obj} {kvs : List (List Key × V)} {after : St → Hp → Prop}
theorem j38 (Pv : Nat → St → Hp → Prop) (h0 : Pv 0 σ H) (hl : ∀ i σ' H', i ≤ kvs.length → Pv i σ' H' → H' d = some (.frz o (.dT kvs)))
  (hs : ∀ i k x b T σ' H', kvs[i]? = some (k, x) → Pv i σ' H' → H' b = some (.tup (k.map kV)) → H' T = none → Eg X tg (.ref T) σ' (upd H' T (.tup [.ref b, x])) fun σ2 H3 => Ei X ifs σ2 H3 fun c H4 => if c = true then Ein X inner σ2 H4 (Pv (i + 1)) else Pv (i + 1) σ2 H4)
  (hd : ∀ σ' H', Pv kvs.length σ' H' → after σ' H') : j2m X tg ifs inner (Itm d o kvs) after σ H := by
 refine ⟨fun i m σ' H' => m = kvs.length - i ∧ i ≤ kvs.length ∧ Pv i σ' H', ⟨_, rfl, Nat.zero_le _, h0⟩, ?_⟩
 rintro i m σ' H' ⟨rfl, hi, p⟩
 have q := hl i σ' H' hi p
 by_cases hlt : i < kvs.length
 ·refine .inr ⟨⟨q, hlt⟩, Pv (i + 1), fun σ' H' p' => ⟨kvs.length - (i + 1), by omega, rfl, hlt, p'⟩, fun v H2 y => ?_⟩
  obtain ⟨T, b, k, x, hx, hb, hT, rfl, rfl⟩ := y
  exact hs i k x b T σ' _ hx p hb hT
 ·have e : i = kvs.length := by omega
  subst e
  exact .inl ⟨⟨q, Nat.le_refl _⟩, hd σ' H' p⟩
end
end L2
namespace D4
open PySem L2 Nt Sort2
def k1w : Sp := fun vs H Q _ => ∃ (R : Addr) (as : List (Addr × Addr)) (n : Net), vs = [.ref R] ∧ RowsAt H R as n ∧ n.length ≤ 1000 ∧ ∀ L as' H', Same H H' → H L = none → (∀ a ∈ as', H a.1 = none ∧ H a.2 = none) → RowsAt H' L as' n → Q (.ref L) H'
section
variable {P : Program} {w : World} {K : PySem.W.Frag} {mg : Str → Option Value} {base : Heap}
theorem j1i {H H' : Hp} {l : Addr} (s : Same H H') (h : H' l = none) : H l = none := by
 cases e : H l with
 | none => rfl
 | some v => rw [s _ _ e] at h; cases h
abbrev NC : List Str := ["_law_rows"]
abbrev NC' : List Str := ["_law_rows", "_law_row"]
theorem scCopy : FnScope NC ["_law_rows"] (j0h k5i) := ⟨rfl, rfl, rfl, by decide +kernel, rfl, by decide +kernel, by decide +kernel⟩
theorem nd_c : NC'.Nodup := by decide +kernel
theorem k8v {f : Addr} {fd : FuncData} (F : Fun K "_law_copy" "_law_copy" k5i f fd) (T : Txt mg) : FnOk P w K mg base CX0 1 f fd ["_law_rows"] k1w := by
 refine F.gb scCopy (fun vs H Q E h => ?_) (fun b0 H vs Q E hr h => ?_)
 ·obtain ⟨R, as, n, rfl, _⟩ := h
  rfl
 obtain ⟨R, as, n, rfl, hR, hn, q⟩ := h
 have nd := scCopy.nd
 have hal := hR.len
 show Run _ _ _ [some (.ref R)] H
 refine j0p (j2u (j0h k5i) NC NC' 1 (j1s j00) (ev_v 0 ⟨R, rfl, ⟨_, SqL.of hR.lst⟩, fun D hD => ?_⟩))
 refine j2h (xs := as.map fun a => V.ref a.1) (fun i σ' H' => (∃ v, σ' = [some (.ref R)] ++ [v]) ∧ ∃ bs : List (Addr × Addr), bs.length = i ∧ H' D = some (.lst (bs.map fun a => .ref a.1)) ∧
  (∀ (j : Nat) a r, bs[j]? = some a → n[j]? = some r → H' a.1 = some (.tup [.str r.1, .ref a.2]) ∧ H' a.2 = some (Ls r.2)) ∧ (bs.map (·.2)).Nodup ∧ (∀ a ∈ bs, a.2 ≠ D ∧ H a.1 = none ∧ H a.2 = none ∧ ∃ zs, H' a.2 = some (Ls zs)) ∧ Same H H')
  ⟨⟨none, rfl⟩, [], rfl, j0b, fun j a r h => by simp at h, List.nodup_nil, fun a h => by simp at h, j0e hD _⟩ ?_ ?_ ?_
 ·rintro i σ' H' _ ⟨_, bs, _, _, _, _, _, sm⟩
  exact SqL.of (sm _ _ hR.lst)
 ·rintro i x σ' H' hx ⟨⟨v, rfl⟩, bs, hb1, hb2, hb3, hb4, hb5, sm⟩
  have hi : i < n.length := by
   have := (List.getElem?_eq_some_iff.mp hx).1
   rw [List.length_map] at this
   omega
  obtain ⟨a, ea, eat, et, el, er⟩ := (hR.same sm).at hi
  rw [List.getElem?_map, ea] at hx
  cases hx
  intro cl C' s₀ H₀ ex
  refine j0j 1 nd_c ?_
  intro cl C' s₀ H₀ ex
  refine j3q ?_
  rw [if_pos rfl]
  intro cl C' s₀ H₀ ex
  refine j13 (j0a (j0r j0z (ev_v 1 (j0f ⟨a.1, _, _, .str n[i].1, rfl, rfl, SqT.of et, rfl, ?_⟩))))
  refine j0a (j5c j4s T.tlist PyProof.Rows.boot_list (j0a (j0r j0z (ev_v 1 (j0f ⟨a.1, _, _, .ref a.2, rfl, rfl, SqT.of et, rfl, ?_⟩)))))
  refine j0g ⟨a.2, _, rfl, .inl (SqL.of el), fun l hl => j0g ⟨(by show 2 ≤ sizeLine; decide), fun t ht => ?_⟩⟩
  have hl0 := j1i sm hl
  have ntl : t ≠ l := fun e => by rw [e, j0b] at ht; cases ht
  have ht' : H' t = none := by rw [j0c ntl] at ht; exact ht
  have ht0 := j1i sm ht'
  have nlD : l ≠ D := fun e => by rw [e] at hl; rw [hl] at hb2; cases hb2
  have ntD : t ≠ D := fun e => by rw [e] at ht'; rw [ht'] at hb2; cases hb2
  refine ⟨bs.map fun a => .ref a.1, ?_, ?_, ⟨_, rfl⟩, bs ++ [(t, l)], by rw [List.length_append, hb1]; rfl, ?_, ?_, ?_, ?_, ?_⟩
  ·rw [j0c (Ne.symm ntD), j0c (Ne.symm nlD)]
   exact hb2
  ·rw [List.length_map]
   exact j0u (by omega)
  ·rw [j0b, List.map_append]
   rfl
  ·intro j b r hb hr'
   by_cases hj : j < bs.length
   ·rw [List.getElem?_append_left hj] at hb
    obtain ⟨q1, q2⟩ := hb3 j b r hb hr'
    have hbD := (hb5 b (List.mem_of_getElem? hb)).1
    have n1 : b.1 ≠ D := j1j q1 hb2 fun z => nomatch z
    refine ⟨?_, ?_⟩
    ·rw [j0c n1, j0c (j0d q1 ht'), j0c (j0d q1 hl)]
     exact q1
    ·rw [j0c hbD, j0c (j0d q2 ht'), j0c (j0d q2 hl)]
     exact q2
   ·rw [List.getElem?_append_right (by omega)] at hb
    have hj2 : j - bs.length = 0 := by
     have := (List.getElem?_eq_some_iff.mp hb).1
     simp at this
     omega
    have hji : j = i := by omega
    rw [hj2] at hb
    cases hb
    rw [hji, List.getElem?_eq_getElem hi] at hr'
    cases hr'
    refine ⟨?_, ?_⟩
    ·rw [j0c ntD, j0b]
    ·rw [j0c nlD, j0c (Ne.symm ntl), j0b, er]
  ·rw [List.map_append]
   refine j23 hb4 fun hm => ?_
   obtain ⟨b, hb, e⟩ := List.mem_map.mp hm
   obtain ⟨_, _, _, zs, q⟩ := hb5 b hb
   have e' : b.2 = l := e
   rw [e', hl] at q
   cases q
  ·intro b hb
   rcases List.mem_append.mp hb with hb | hb
   ·obtain ⟨q1, q2, q3, zs, q4⟩ := hb5 b hb
    refine ⟨q1, q2, q3, zs, ?_⟩
    rw [j0c q1, j0c (j0d q4 ht'), j0c (j0d q4 hl)]
    exact q4
   ·rw [List.mem_singleton.mp hb]
    refine ⟨nlD, ht0, hl0, row n i, ?_⟩
    rw [j0c nlD, j0c (Ne.symm ntl), j0b]
  ·intro c o hc
   rw [j0c (j0d hc hD), j0c (j0d hc ht0), j0c (j0d hc hl0)]
   exact sm _ _ hc
 ·rintro σ' H' ⟨_, bs, hb1, hb2, hb3, hb4, hb5, sm⟩
  rw [List.length_map] at hb1
  exact q D bs H' sm hD (fun a ha => ⟨(hb5 a ha).2.1, (hb5 a ha).2.2.1⟩) ⟨by omega, hb2, hb3, hb4⟩
end
abbrev Tn (p : Str) (j : Int) : HO := .tup [.str p, .int j]
def j78 : Sp := fun vs H Q _ => ∃ (t l : Addr) (p : Str) (zs : List Str), vs = [.ref t] ∧ H t = some (.tup [.str p, .ref l]) ∧ H l = some (Ls zs) ∧ zs.length ≤ 1000 ∧
 ∀ (L : Addr) (ts : List Addr) (H' : Hp), Same H H' → H L = none → H' L = some (.lst (ts.map V.ref)) → ts.length = zs.length → (∀ (j : Nat) t, ts[j]? = some t → H' t = some (Tn p j)) → Q (.ref L) H'
section
variable {X : Cx} {elt tg : Expr} {ifs : List Expr} {scope : Scope} {σ : St} {H : Hp} {N' : List Str} {A : Addr} {after : Hp → Prop}
theorem j3s {lo : Int} {n : Nat} (Pv : Nat → St → Hp → Prop) (h0 : Pv 0 σ H)
  (hs : ∀ i σ' H', i < n → Pv i σ' H' → CEg X N' scope tg (.int (lo + i)) σ' H' fun σ2 H3 => CEi X N' scope ifs σ2 H3 fun b H4 =>
   if b = true then CEv X N' scope elt σ2 H4 fun v H5 => ∃ ys, H5 A = some (.lst ys) ∧ ys.length < sizeLine ∧ Pv (i + 1) σ2 (upd H5 A (.lst (ys ++ [v]))) else Pv (i + 1) σ2 H4)
  (hd : ∀ σ' H', Pv n σ' H' → after H') : k1e X N' scope tg ifs elt (Itr lo n) A after σ H := by
 refine ⟨fun i m σ' H' => m = n - i ∧ i ≤ n ∧ Pv i σ' H', ⟨_, rfl, Nat.zero_le _, h0⟩, ?_⟩
 rintro i m σ' H' ⟨rfl, hi, p⟩
 by_cases hlt : i < n
 ·refine .inr ⟨hlt, Pv (i + 1), fun σ' H' p' => ⟨n - (i + 1), by omega, rfl, hlt, p'⟩, fun x H2 y => ?_⟩
  obtain ⟨e, y⟩ := y
  subst e y
  exact hs i σ' _ hlt p
 ·have e : i = n := by omega
  subst e
  exact .inl ⟨Nat.le_refl _, hd σ' H' p⟩
end
section
variable {P : Program} {w : World} {K : PySem.W.Frag} {mg : Str → Option Value} {base : Heap}
abbrev NE1 : List Str := ["row", "point", "ties"]
abbrev NE2 : List Str := ["row", "point", "ties", "place"]
theorem scEnds : FnScope NE1 ["row"] (j0h k5e) := ⟨rfl, rfl, rfl, by decide +kernel, rfl, by decide +kernel, by decide +kernel⟩
theorem q1v : NE2.Nodup := by decide +kernel
theorem k8d {f : Addr} {fd : FuncData} (F : Fun K "ends_round" "ends_round" k5e f fd) (T : Txt mg) : FnOk P w K mg base CX0 1 f fd ["row"] j78 := by
 refine F.gb scEnds (fun vs H Q E h => ?_) (fun b0 H vs Q E hr h => ?_)
 ·obtain ⟨t, l, p, zs, rfl, _⟩ := h
  rfl
 obtain ⟨t, l, p, zs, rfl, ht, hl, hz, q⟩ := h
 have nd := scEnds.nd
 show Run _ _ _ [some (.ref t), none, none] H
 refine j8y (ev_v 0 (j2a rfl (SqT.of ht) (j0j 1 nd (j0j 2 nd ?_))))
 show Run _ _ _ [some (.ref t), some (.str p), some (.ref l)] H
 refine j0p (j2u (j0h k5e) NE1 NE2 1 (j39 rfl T.range (ta := tEa _ _) j28 (j20 _ [] _ rfl)) ?_)
 show Ea _ _ _ _ _
 refine j0a (j06 j0m T.len boot_len (j0a (ev_v 2 (j0g ⟨l, _, rfl, .inl (SqL.of hl), j0g ⟨_, rfl, by omega, by rw [List.length_map]; omega, fun D hD => ?_⟩⟩))))
 rw [List.length_map, Int.toNat_natCast]
 refine j3s (fun i σ' H' => (∃ v, σ' = [some (.ref t), some (.str p), some (.ref l)] ++ [v]) ∧ ∃ ts : List Addr, ts.length = i ∧ H' D = some (.lst (ts.map V.ref)) ∧ (∀ (j : Nat) t, ts[j]? = some t → H' t = some (Tn p j)) ∧ Same H H')
  ⟨⟨none, rfl⟩, [], rfl, j0b, fun j t h => by simp at h, j0e hD _⟩ ?_ ?_
 ·rintro i σ' H' hi ⟨⟨v, rfl⟩, ts, hl1, eD, hts, sm⟩
  rw [Int.zero_add]
  intro cl C' s₀ H₀ ex
  refine j0j 3 q1v ?_
  intro cl C' s₀ H₀ ex
  refine j3q ?_
  rw [if_pos rfl]
  intro cl C' s₀ H₀ ex
  refine j13 (j0a (ev_v 1 (j0a (ev_v 3 (j0g ⟨(by show 2 ≤ sizeLine; decide), fun u hu => ?_⟩)))))
  have nu : u ≠ D := fun e => by rw [e, eD] at hu; cases hu
  have hu0 := j1i sm hu
  refine ⟨ts.map V.ref, by rw [j0c (Ne.symm nu)]; exact eD, by rw [List.length_map]; exact j0u (by omega), ⟨_, rfl⟩, ts ++ [u], by rw [List.length_append, hl1]; rfl, by rw [j0b, List.map_append]; rfl, ?_, ?_⟩
  ·intro j t' ht'
   by_cases hj : j < ts.length
   ·rw [List.getElem?_append_left hj] at ht'
    have e := hts j t' ht'
    have n1 : t' ≠ D := j1j e eD fun z => nomatch z
    rw [j0c n1, j0c (j0d e hu)]
    exact e
   ·rw [List.getElem?_append_right (by omega)] at ht'
    have hj2 : j - ts.length = 0 := by
     have := (List.getElem?_eq_some_iff.mp ht').1
     simp at this
     omega
    rw [hj2] at ht'
    cases ht'
    have : j = i := by omega
    rw [this, j0c nu, j0b]
  ·intro c o hc
   rw [j0c (j0d hc hD), j0c (j0d hc hu0)]
   exact sm _ _ hc
 ·rintro σ' H' ⟨_, ts, hl1, eD, hts, sm⟩
  exact q D ts H' sm hD eD hl1 hts
end
end D4
namespace D4
open PySem L2 Nt Sort2
def spTL (g : Int → Int) : Sp := fun vs H Q _ => ∃ (e : Addr) (p : Str) (j m : Int), vs = [.ref e, .int m] ∧ H e = some (Tn p j) ∧ 0 < m ∧ ∀ t H', Same H H' → H' t = some (Tn p (g j % m)) → Q (.ref t) H'
section
variable {P : Program} {w : World} {K : PySem.W.Frag} {mg : Str → Option Value} {base : Heap}
abbrev NT1 : List Str := ["end", "many", "point", "place"]
theorem scLeft : FnScope NT1 ["end", "many"] (j0h k89) := ⟨rfl, rfl, rfl, by decide +kernel, rfl, by decide +kernel, by decide +kernel⟩
theorem scRightT : FnScope NT1 ["end", "many"] (j0h j8t) := ⟨rfl, rfl, rfl, by decide +kernel, rfl, by decide +kernel, by decide +kernel⟩
theorem k7w {f : Addr} {fd : FuncData} (F : Fun K "turned_left" "turned_left" k89 f fd) (T : Txt mg) : FnOk P w K mg base CX0 1 f fd ["end", "many"] (spTL fun j => j + 1) := by
 refine F.gb scLeft (fun vs H Q E h => ?_) (fun b0 H vs Q E hr h => ?_)
 ·obtain ⟨e, p, j, m, rfl, _⟩ := h
  rfl
 obtain ⟨e, p, j, m, rfl, he, hm, q⟩ := h
 have nd := scLeft.nd
 show Run _ _ _ [some (.ref e), some (.int m), none, none] H
 refine j8y (ev_v 0 (j2a rfl (SqT.of he) (j0j 2 nd (j0j 3 nd ?_))))
 refine j0p (j13 (j0a (ev_v 2 (j0a (j0o j1b (j0o j11 (ev_v 3 (j0f ⟨_, _, rfl, rfl, ev_v 1 ⟨_, _, rfl, rfl, (by show 0 < m; exact hm), j0g ⟨(by show 2 ≤ sizeLine; decide), fun t ht => ?_⟩⟩⟩))))))))
 exact q t _ (j0e ht _) j0b
theorem k27 {f : Addr} {fd : FuncData} (F : Fun K "turned_right" "turned_right" j8t f fd) (T : Txt mg) : FnOk P w K mg base CX0 1 f fd ["end", "many"] (spTL fun j => j - 1) := by
 refine F.gb scRightT (fun vs H Q E h => ?_) (fun b0 H vs Q E hr h => ?_)
 ·obtain ⟨e, p, j, m, rfl, _⟩ := h
  rfl
 obtain ⟨e, p, j, m, rfl, he, hm, q⟩ := h
 have nd := scRightT.nd
 show Run _ _ _ [some (.ref e), some (.int m), none, none] H
 refine j8y (ev_v 0 (j2a rfl (SqT.of he) (j0j 2 nd (j0j 3 nd ?_))))
 refine j0p (j13 (j0a (ev_v 2 (j0a (j0o j1b (j0o k9y (ev_v 3 (j0f ⟨_, _, rfl, rfl, ev_v 1 ⟨_, _, rfl, rfl, (by show 0 < m; exact hm), j0g ⟨(by show 2 ≤ sizeLine; decide), fun t ht => ?_⟩⟩⟩))))))))
 exact q t _ (j0e ht _) j0b
theorem j9q {kvs : List (Key × V)} : ∀ {acc : List (Key × V)}, ((acc ++ kvs).map (·.1)).Nodup → kvs.foldl (fun a p => putK a p.1 p.2) acc = acc ++ kvs := by
 induction kvs with
 | nil => intro acc _; simp
 | cons p r ih =>
  intro acc h
  have hn : valV acc p.1 = none := by
   cases e : valV acc p.1 with
   | none => rfl
   | some v =>
    have hm := j8n e
    rw [List.map_append, List.map_cons] at h
    exact absurd rfl ((List.nodup_append.mp h).2.2 _ hm _ List.mem_cons_self)
  rw [List.foldl_cons, j98 _ hn, ih (by rw [List.append_assoc]; exact h), List.append_assoc]
  rfl
theorem j8h : ∀ {kvs : List (Key × V)} {i : Nat} {p : Key × V}, (kvs.map (·.1)).Nodup → kvs[i]? = some p → valV kvs p.1 = some p.2
 | [], _, _, _, h => by simp at h
 | q :: r, 0, p, _, h => by
  cases h
  exact j1g rfl
 | q :: r, i + 1, p, hn, h => by
  rw [List.map_cons, List.nodup_cons] at hn
  have hm : r[i]? = some p := by simpa using h
  rw [j1f fun e => hn.1 (by rw [e]; exact List.mem_map.mpr ⟨p, List.mem_of_getElem? hm, rfl⟩)]
  exact j8h hn.2 hm
def j1k (n : Net) (as : List (Addr × Addr)) : List (Key × V) := List.zipWith (fun r a => (Sum.inr r.1, V.ref a.2)) n as
theorem j3x : ∀ (n : Net) (as : List (Addr × Addr)), as.length = n.length → (j1k n as).map (·.1) = (n.map (·.1)).map Sum.inr
 | [], [], _ => rfl
 | [], _ :: _, h => by simp at h
 | _ :: _, [], h => by simp at h
 | r :: n, a :: as, h => by
  have := j3x n as (by simpa using h)
  show Sum.inr r.1 :: (j1k n as).map (·.1) = _
  rw [this]
  rfl
theorem j34 {n : Net} {as : List (Addr × Addr)} {i : Nat} {r : Str × List Str} {a : Addr × Addr} (h1 : n[i]? = some r) (h2 : as[i]? = some a) : (j1k n as)[i]? = some (Sum.inr r.1, .ref a.2) := by
 unfold j1k
 rw [List.getElem?_zipWith, h1, h2]
theorem j7b {l : List Str} (h : l.Nodup) : (l.map (Sum.inr : Str → Key)).Nodup := by
 rw [List.nodup_iff_pairwise_ne, List.pairwise_map]
 exact (List.nodup_iff_pairwise_ne.mp h).imp fun h q => h (Sum.inr.inj q)
end
def nameAt (n : Net) (r : Nat) : Str := ((n[r]?).map (·.1)).getD ⟨#[]⟩
def key (n : Net) (e : Nt.End) : List Key := [Sum.inr (nameAt n e.1), Sum.inl (e.2 : Int)]
abbrev TN (n : Net) (e : Nt.End) : HO := Tn (nameAt n e.1) (e.2 : Int)
theorem j18 {n : Net} {r : Nat} (h : r < n.length) : nameAt n r = n[r].1 := by unfold nameAt; rw [List.getElem?_eq_getElem h]; rfl
theorem j3v {n : Net} (hN : (n.map (·.1)).Nodup) {a b : Nt.End} (ha : a.1 < n.length) (hb : b.1 < n.length) (h : key n a = key n b) : a = b := by
 unfold key at h
 injection h with h1 h2
 injection h2 with h2 _
 have e1 := Sum.inr.inj h1
 have e2 := Sum.inl.inj h2
 rw [j18 ha, j18 hb] at e1
 have e3 : a.1 = b.1 := by
  have la : a.1 < (n.map (·.1)).length := by rw [List.length_map]; exact ha
  have lb : b.1 < (n.map (·.1)).length := by rw [List.length_map]; exact hb
  refine (List.getElem_inj (i := a.1) (j := b.1) (h₀ := la) (h₁ := lb) hN).mp ?_
  rw [List.getElem_map, List.getElem_map]
  exact e1
 exact Prod.ext e3 (by omega)
theorem j2n {n : Net} {r p : Nat} {z : Str} (hr : r < n.length) (hz : (row n r)[p]? = some z) : ∃ rest, j0w n = (j0w (n.take r) ++ j0k r ((row n r).take p) 0) ++ (z, (r, p)) :: rest := by
 have e1 : j0w n = j0w (n.take (r + 1)) ++ j04 (0 + (n.take (r + 1)).length) (n.drop (r + 1)) := by
  have := j2b (n.take (r + 1)) (n.drop (r + 1)) 0
  rw [List.take_append_drop] at this
  exact this
 have e2 : j0k r (row n r) 0 = j0k r ((row n r).take (p + 1)) 0 ++ j0k r ((row n r).drop (p + 1)) (0 + ((row n r).take (p + 1)).length) := by
  unfold j0k
  rw [← List.map_append, ← List.zipIdx_append, List.take_append_drop]
 rw [e1, j2i hr, e2, j1l hz]
 refine ⟨j0k r ((row n r).drop (p + 1)) (0 + ((row n r).take (p + 1)).length) ++ j04 (0 + (n.take (r + 1)).length) (n.drop (r + 1)), ?_⟩
 simp only [List.append_assoc, List.cons_append, List.nil_append]
theorem j7y {κ : Type} [DecidableEq κ] (kvs : List (κ × V)) (k : κ) (v : V) : (putK kvs k v).map (·.1) = if k ∈ kvs.map (·.1) then kvs.map (·.1) else kvs.map (·.1) ++ [k] := by
 have e : (kvs.any fun kv => decide (kv.1 = k)) = decide (k ∈ kvs.map (·.1)) := by
  rw [Bool.eq_iff_iff, List.any_eq_true, decide_eq_true_iff, List.mem_map]
  exact ⟨fun ⟨p, h1, h2⟩ => ⟨p, h1, of_decide_eq_true h2⟩, fun ⟨p, h1, h2⟩ => ⟨p, h1, decide_eq_true h2⟩⟩
 unfold putK
 rw [e]
 by_cases h : k ∈ kvs.map (·.1)
 ·rw [if_pos (decide_eq_true h), if_pos h, List.map_map]
  refine List.map_congr_left fun p _ => ?_
  show (if p.1 = k then (p.1, v) else p).1 = p.1
  split <;> rfl
 ·rw [if_neg (by simpa using h), if_neg h, List.map_append]
  rfl
theorem mem_putK {κ : Type} [DecidableEq κ] {kvs : List (κ × V)} {k j : κ} {v : V} : j ∈ (putK kvs k v).map (·.1) ↔ j ∈ kvs.map (·.1) ∨ j = k := by
 rw [j7y]
 split
 ·exact ⟨.inl, fun h => h.elim id fun e => by rw [e]; assumption⟩
 ·rw [List.mem_append, List.mem_singleton]
theorem j51 {κ : Type} [DecidableEq κ] {kvs : List (κ × V)} {k : κ} {v : V} (h : (kvs.map (·.1)).Nodup) : ((putK kvs k v).map (·.1)).Nodup := by
 rw [j7y]
 split
 ·exact h
 ·rename_i hn
  exact j23 h hn
structure OEI (n : Net) (done : List (Str × Nt.End)) (H : Hp) (kM : List (Key × V)) (kO : List (List Key × V)) : Prop where
 m0 : ∀ z, j1n done z = [] → valV kM (Sum.inr z) = none
 m1 : ∀ z a rest, j1n done z = a :: rest → ∃ t, valV kM (Sum.inr z) = some (.ref t) ∧ H t = some (TN n a)
 o : ∀ z a b rest, j1n done z = a :: b :: rest → (∃ u, valV kO (key n a) = some (.ref u) ∧ H u = some (TN n b)) ∧ ∃ u, valV kO (key n b) = some (.ref u) ∧ H u = some (TN n a)
 sub : ∀ p ∈ done, j0s n p.2 = some p.1
 lenM : kM.length ≤ done.length
 lenO : kO.length ≤ 2 * done.length
 ks : ∀ k ∈ kO.map (·.1), ∃ p ∈ done, k = key n p.2
 nd : (kO.map (·.1)).Nodup
theorem OEI.keep {n : Net} {done : List (Str × Nt.End)} {H H' : Hp} {kM : List (Key × V)} {kO : List (List Key × V)} (I : OEI n done H kM kO) (k : ∀ t p j, H t = some (Tn p j) → H' t = some (Tn p j)) : OEI n done H' kM kO where
 m0 := I.m0
 m1 := fun z a rest h => let ⟨t, e1, e2⟩ := I.m1 z a rest h; ⟨t, e1, k _ _ _ e2⟩
 o := fun z a b rest h => let ⟨⟨u, e1, e2⟩, ⟨v, e3, e4⟩⟩ := I.o z a b rest h; ⟨⟨u, e1, k _ _ _ e2⟩, ⟨v, e3, k _ _ _ e4⟩⟩
 sub := I.sub
 lenM := I.lenM
 lenO := I.lenO
 ks := I.ks
 nd := I.nd
theorem j26 {done : List (Str × Nt.End)} {z : Str} {a : Nt.End} (h : a ∈ j1n done z) : (z, a) ∈ done := by
 unfold j1n at h
 obtain ⟨⟨y, b⟩, hm, rfl⟩ := List.mem_map.mp h
 obtain ⟨h1, h2⟩ := List.mem_filter.mp hm
 have : y = z := of_decide_eq_true h2
 subst this
 exact h1
theorem OEI.new {n : Net} {done : List (Str × Nt.End)} {H : Hp} {kM : List (Key × V)} {kO : List (List Key × V)} (I : OEI n done H kM kO) {z : Str} {e : Nt.End} {t : Addr} (ht : H t = some (TN n e)) (hz : j0s n e = some z) (h0 : j1n done z = []) :
  OEI n (done ++ [(z, e)]) H (putK kM (Sum.inr z) (.ref t)) kO where
 m0 := fun y hy => by
  rw [j0n] at hy
  obtain ⟨h1, h2⟩ := List.append_eq_nil_iff.mp hy
  have hne : ¬ z = y := fun q => by rw [if_pos q] at h2; cases h2
  rw [j0q, if_neg (fun q => hne (Sum.inr.inj q).symm)]
  exact I.m0 y h1
 m1 := fun y a rest hy => by
  rw [j0n] at hy
  by_cases q : z = y
  ·subst q
   rw [h0, if_pos rfl] at hy
   cases hy
   exact ⟨t, by rw [j0q, if_pos rfl], ht⟩
  ·rw [if_neg q, List.append_nil] at hy
   obtain ⟨u, e1, e2⟩ := I.m1 y a rest hy
   exact ⟨u, by rw [j0q, if_neg (fun p => q (Sum.inr.inj p).symm)]; exact e1, e2⟩
 o := fun y a b rest hy => by
  rw [j0n] at hy
  by_cases q : z = y
  ·subst q
   rw [h0, if_pos rfl] at hy
   cases hy
  ·rw [if_neg q, List.append_nil] at hy
   exact I.o y a b rest hy
 sub := fun p hp => by
  rcases List.mem_append.mp hp with h | h
  ·exact I.sub p h
  ·rw [List.mem_singleton.mp h]
   exact hz
 lenM := by
  have := j0y kM (Sum.inr z) (.ref t)
  have := I.lenM
  rw [List.length_append, List.length_singleton]
  omega
 lenO := by
  have := I.lenO
  rw [List.length_append, List.length_singleton]
  omega
 ks := fun k hk => let ⟨p, hp, e⟩ := I.ks k hk; ⟨p, List.mem_append_left _ hp, e⟩
 nd := I.nd
theorem OEI.old {n : Net} (hN : (n.map (·.1)).Nodup) {done : List (Str × Nt.End)} {H : Hp} {kM : List (Key × V)} {kO : List (List Key × V)} (I : OEI n done H kM kO) {z : Str} {e a : Nt.End} {te tm : Addr} (ht : H te = some (TN n e)) (hm : H tm = some (TN n a)) (hz : j0s n e = some z) (h1 : j1n done z = [a]) (hae : a ≠ e) :
  OEI n (done ++ [(z, e)]) H kM (putK (putK kO (key n e) (.ref tm)) (key n a) (.ref te)) where
 m0 := fun y hy => by
  rw [j0n] at hy
  exact I.m0 y (List.append_eq_nil_iff.mp hy).1
 m1 := fun y c rest hy => by
  rw [j0n] at hy
  by_cases q : z = y
  ·subst q
   rw [h1, if_pos rfl] at hy
   cases hy
   exact I.m1 z a [] h1
  ·rw [if_neg q, List.append_nil] at hy
   exact I.m1 y c rest hy
 o := fun y c b rest hy => by
  rw [j0n] at hy
  have ta : j0s n a = some z := I.sub (z, a) (j26 (by rw [h1]; exact List.mem_singleton.mpr rfl))
  by_cases q : z = y
  ·subst q
   rw [h1, if_pos rfl] at hy
   cases hy
   refine ⟨⟨te, by rw [j0q, if_pos rfl], ht⟩, ⟨tm, ?_, hm⟩⟩
   rw [j0q, if_neg (fun p => hae (j3v hN (j1h hz) (j1h ta) p).symm), j0q, if_pos rfl]
  ·rw [if_neg q, List.append_nil] at hy
   have tc : j0s n c = some y := I.sub (y, c) (j26 (by rw [hy]; exact List.mem_cons_self))
   have tb : j0s n b = some y := I.sub (y, b) (j26 (by rw [hy]; exact List.mem_cons_of_mem _ List.mem_cons_self))
   have ne : ∀ x : Nt.End, j0s n x = some y → ¬ key n x = key n a ∧ ¬ key n x = key n e := fun x hx => by
    refine ⟨fun p => ?_, fun p => ?_⟩
    ·have := j3v hN (j1h hx) (j1h ta) p
     rw [this, ta] at hx
     exact q (Option.some.inj hx)
    ·have := j3v hN (j1h hx) (j1h hz) p
     rw [this, hz] at hx
     exact q (Option.some.inj hx)
   obtain ⟨⟨u, e1, e2⟩, ⟨v, e3, e4⟩⟩ := I.o y c b rest hy
   refine ⟨⟨u, ?_, e2⟩, ⟨v, ?_, e4⟩⟩
   ·rw [j0q, if_neg (ne c tc).1, j0q, if_neg (ne c tc).2]
    exact e1
   ·rw [j0q, if_neg (ne b tb).1, j0q, if_neg (ne b tb).2]
    exact e3
 sub := fun p hp => by
  rcases List.mem_append.mp hp with h | h
  ·exact I.sub p h
  ·rw [List.mem_singleton.mp h]
   exact hz
 lenM := by
  have := I.lenM
  rw [List.length_append, List.length_singleton]
  omega
 lenO := by
  have h1 := j0y (putK kO (key n e) (.ref tm)) (key n a) (.ref te)
  have h2 := j0y kO (key n e) (.ref tm)
  have := I.lenO
  rw [List.length_append, List.length_singleton]
  omega
 ks := fun k hk => by
  rcases mem_putK.mp hk with hk | rfl
  ·rcases mem_putK.mp hk with hk | rfl
   ·obtain ⟨p, hp, e⟩ := I.ks k hk
    exact ⟨p, List.mem_append_left _ hp, e⟩
   ·exact ⟨(z, e), List.mem_append_right _ (List.mem_singleton.mpr rfl), rfl⟩
  ·exact ⟨(z, a), List.mem_append_left _ (j26 (by rw [h1]; exact List.mem_singleton.mpr rfl)), rfl⟩
 nd := j51 (j51 I.nd)
theorem OEI.whole {n : Net} (T : j02 n) {H : Hp} {kM : List (Key × V)} {kO : List (List Key × V)} (I : OEI n (j0w n) H kM kO) {e : Nt.End} (he : e ∈ ends n) : ∃ u, valV kO (key n e) = some (.ref u) ∧ H u = some (TN n (other n e)) := by
 obtain ⟨z, hz⟩ := mem_ends.mp he
 obtain ⟨a, b, hp, hab, hor⟩ := j4f T hz
 have hp' : j1n (j0w n) z = a :: b :: [] := hp
 have ta : j0s n a = some z := mem_pos.mp (by rw [hp]; simp)
 have tb : j0s n b = some z := mem_pos.mp (by rw [hp]; simp)
 obtain ⟨o1, o2⟩ := I.o z a b [] hp'
 rcases hor with rfl | rfl
 ·have : b = other n e := ((j2t T hz).mp tb).resolve_left (Ne.symm hab)
  rw [← this]
  exact o1
 ·have : a = other n e := ((j2t T hz).mp ta).resolve_left hab
  rw [← this]
  exact o2
def spOE : Sp := fun vs H Q _ => ∃ (R : Addr) (as : List (Addr × Addr)) (n : Net), vs = [.ref R] ∧ RowsAt H R as n ∧ (n.map (·.1)).Nodup ∧ j02 n ∧ n.length ≤ 1000 ∧ (ties n).length ≤ 1000 ∧
 ∀ (d : Addr) (kvs : List (List Key × V)) (H' : Hp), Same H H' → H d = none → H' d = some (.dT kvs) → (∀ e ∈ ends n, ∃ u, valV kvs (key n e) = some (.ref u) ∧ H' u = some (TN n (other n e))) → (kvs.map (·.1)).Nodup → (∀ k ∈ kvs.map (·.1), ∃ e ∈ ends n, k = key n e) → kvs.length ≤ 2000 → Q (.ref d) H'
section
variable {X : Cx} {D : Ends} {σ : St} {H : Hp} {body : List Stmt}
theorem k5z {tg : Expr} {a b : Addr} {xs ys : List V} {after : St → Hp → Prop} (hlen : xs.length = ys.length) (Pv : Nat → St → Hp → Prop) (h0 : Pv 0 σ H) (hl : ∀ i σ H, i ≤ xs.length → Pv i σ H → SqL X.K H a xs ∧ SqL X.K H b ys)
  (hs : ∀ i x y T σ H, xs[i]? = some x → ys[i]? = some y → Pv i σ H → H T = none → Eg X tg (.ref T) σ (upd H T (.tup [x, y])) fun σ2 H2 => Run X body { D with nx := Pv (i + 1), ct := Pv (i + 1), bk := after } σ2 H2) (hd : ∀ σ H, Pv xs.length σ H → after σ H) : Loop X tg body (Itz X.K a b) D after σ H := by
 refine ⟨fun i m σ H => m = xs.length - i ∧ i ≤ xs.length ∧ Pv i σ H, ⟨xs.length, by simp, Nat.zero_le _, h0⟩, ?_⟩
 rintro i m σ H ⟨rfl, hi, p⟩
 obtain ⟨q1, q2⟩ := hl i σ H hi p
 by_cases hlt : i < xs.length
 ·refine .inr ⟨⟨xs, ys, xs[i], ys[i], q1, q2, List.getElem?_eq_getElem hlt, List.getElem?_eq_getElem (by omega)⟩, Pv (i + 1), fun σ' H' p' => ⟨xs.length - (i + 1), by omega, rfl, hlt, p'⟩, fun v H' y => ?_⟩
  obtain ⟨T, x, y, hT, rfl, rfl, y1, y2⟩ := y
  exact hs i x y T σ _ (y1 xs q1) (y2 ys q2) p hT
 ·have e : i = xs.length := by omega
  subst e
  exact .inl ⟨⟨xs, ys, q1, q2, .inl (Nat.le_refl _)⟩, hd σ H p⟩
end
end D4
namespace D4
open PySem L2 Nt Sort2
section
variable {P : Program} {w : World} {K : PySem.W.Frag} {mg : Str → Option Value} {base : Heap}
abbrev NOE : List Str := ["rows", "met", "others", "row", "end", "tie"]
theorem scOE : FnScope NOE ["rows"] (j0h j88) := ⟨rfl, rfl, rfl, by decide +kernel, rfl, by decide +kernel, by decide +kernel⟩
theorem j7n {H : Hp} {t d : Addr} {xs : List V} {kvs : List (Key × V)} (h : H t = some (.tup xs)) (g : H d = some (.dK kvs)) : t ≠ d := j1j h g fun z => nomatch z
theorem j1q {H : Hp} {t d : Addr} {xs : List V} {kvs : List (List Key × V)} (h : H t = some (.tup xs)) (g : H d = some (.dT kvs)) : t ≠ d := j1j h g fun z => nomatch z
theorem q14 {f : Addr} {fd : FuncData} (F : Fun K "other_ends" "other_ends" j88 f fd) (T : Txt mg)
  (GE : Has P w K mg base 1 "ends_round" ["row"] j78) :
  FnOk P w K mg base CX0 2 f fd ["rows"] spOE := by
 refine F.gb scOE (fun vs H Q E h => ?_) (fun b0 H vs Q E hr h => ?_)
 ·obtain ⟨R, as, n, rfl, _⟩ := h
  rfl
 obtain ⟨R, as, n, rfl, hR, hN, hT, hn, ht, q⟩ := h
 have nd := scOE.nd
 have hal := hR.len
 have hu := hr.u1
 show Run _ _ _ [some (.ref R), none, none, none, none, none] H
 refine j0i 1 nd (j6l fun dm hdm => ?_)
 refine j0i 2 nd (k4d fun dO hdO => ?_)
 show Run _ _ _ [some (.ref R), some (.ref dm), some (.ref dO), none, none, none] (upd (upd H dm (.dK [])) dO (.dT []))
 have ndd : dO ≠ dm := fun e => by rw [e, j0b] at hdO; cases hdO
 have hdO0 : H dO = none := by rw [j0c ndd] at hdO; exact hdO
 have em : (upd (upd H dm (.dK [])) dO (.dT [])) dm = some (.dK []) := by rw [j0c (Ne.symm ndd), j0b]
 have eo : (upd (upd H dm (.dK [])) dO (.dT [])) dO = some (.dT []) := j0b
 have s0 : Same H (upd (upd H dm (.dK [])) dO (.dT [])) := fun b o h => by rw [j0c (j0d h hdO0), j0c (j0d h hdm)]; exact h
 generalize upd (upd H dm (.dK [])) dO (.dT []) = H1 at em eo s0 ⊢
 refine j2e (ev_v 0 ⟨R, rfl, ⟨_, SqL.of (s0 _ _ hR.lst)⟩, j1x (xs := as.map fun a => V.ref a.1) (fun r σ H' => ∃ kM kO u1 u2 u3, Same H H' ∧ H' dm = some (.dK kM) ∧ H' dO = some (.dT kO) ∧ OEI n (j0w (n.take r)) H' kM kO ∧ σ = [some (.ref R), some (.ref dm), some (.ref dO), u1, u2, u3])
  ⟨[], [], _, _, _, s0, em, eo, ⟨fun _ _ => rfl, fun z a rest h => (by cases h), fun z a b rest h => (by cases h), fun p h => (by cases h), Nat.zero_le _, Nat.zero_le _, fun k h => (by cases h), List.nodup_nil⟩, rfl⟩ ?_ ?_ ?_⟩)
 ·rintro r σ H' _ ⟨kM, kO, u1, u2, u3, sm, _⟩
  exact SqL.of (sm _ _ hR.lst)
 ·rintro r x σ H' hx ⟨kM, kO, u1, u2, u3, sm, em', eo', I, rfl⟩
  have hi : r < n.length := by
   have := (List.getElem?_eq_some_iff.mp hx).1
   rw [List.length_map] at this
   omega
  obtain ⟨a, ea, eat, et, el, er⟩ := (hR.same sm).at hi
  rw [List.getElem?_map, ea] at hx
  cases hx
  have hrl : (row n r).length ≤ 1000 := Nat.le_trans (j2y n r) ht
  have enm : nameAt n r = n[r].1 := j18 hi
  refine j0j 3 nd ?_
  refine j3u (k6d rfl T.zip (ta := tEa _ _) j28) ?_
  show Ea _ _ _ _ _
  refine j0a (j0t GE hr (j0a (ev_v 3 (j0g ⟨a.1, a.2, n[r].1, row n r, rfl, et, el, hrl, fun L ts H5 s5 n5 e5 l5 t5 => ?_⟩))))
  refine j0a (j0r j0z (ev_v 3 (j0f ⟨a.1, _, _, .ref a.2, rfl, rfl, SqT.of (s5 _ _ et), rfl, j0g ⟨L, a.2, rfl, ⟨_, SqL.of e5⟩, ⟨_, SqL.of (s5 _ _ el)⟩, ?_⟩⟩)))
  have em5 := s5 _ _ em'
  have eo5 := s5 _ _ eo'
  have el5 := s5 _ _ el
  refine k5z (xs := ts.map V.ref) (ys := (row n r).map V.str) (by rw [List.length_map, List.length_map, l5]) (fun p σ' H'' => ∃ kM kO u2 u3, (∀ b o, b ≠ dm → b ≠ dO → H5 b = some o → H'' b = some o) ∧ H'' dm = some (.dK kM) ∧ H'' dO = some (.dT kO) ∧ OEI n (j0w (n.take r) ++ j0k r ((row n r).take p) 0) H'' kM kO ∧ σ' = [some (.ref R), some (.ref dm), some (.ref dO), some (.ref a.1), u2, u3])
   ⟨kM, kO, _, _, fun b o _ _ h => h, em5, eo5, ?_, rfl⟩ ?_ ?_ ?_
  ·have : j0k r ((row n r).take 0) 0 = [] := by simp [j0k]
   rw [this, List.append_nil]
   exact I.keep fun t p j h => s5 _ _ h
  ·rintro p σ' H'' _ ⟨kM, kO, u2, u3, kb, _, _, _, rfl⟩
   exact ⟨SqL.of (kb _ _ (j1j e5 em5 fun z => nomatch z) (j1j e5 eo5 fun z => nomatch z) e5), SqL.of (kb _ _ (j1j el5 em5 fun z => nomatch z) (j1j el5 eo5 fun z => nomatch z) el5)⟩
  ·rintro p x y Tt σ' H'' hx hy ⟨kM, kO, u2, u3, kb, em6, eo6, I6, rfl⟩ hTt
   rw [List.getElem?_map, Option.map_eq_some_iff] at hx hy
   obtain ⟨te, hte, rfl⟩ := hx
   obtain ⟨z, hz, rfl⟩ := hy
   have e5t := t5 p te hte
   have ete : H'' te = some (Tn n[r].1 p) := kb _ _ (j7n e5t em5) (j1q e5t eo5) e5t
   have htz : j0s n (r, p) = some z := hz
   obtain ⟨rest, hsp⟩ := j2n hi hz
   have hlen : (j0w (n.take r) ++ j0k r ((row n r).take p) 0).length < 1000 := by
    have h1 : (j0w n).length = (ties n).length := by
     have := congrArg List.length (j1d n 0)
     rw [List.length_map] at this
     exact this
    have h2 := congrArg List.length hsp
    rw [List.length_append, List.length_cons] at h2
    omega
   have hnext : j0w (n.take r) ++ j0k r ((row n r).take (p + 1)) 0 = (j0w (n.take r) ++ j0k r ((row n r).take p) 0) ++ [(z, (r, p))] := by
    rw [j1l hz, List.append_assoc]
   have hfresh : ∀ b, b ∈ j1n (j0w (n.take r) ++ j0k r ((row n r).take p) 0) z → b ≠ (r, p) := fun b hb e => by
    have hm := j26 hb
    have hnd := j52 n
    unfold ends at hnd
    rw [hsp, List.map_append, List.map_cons] at hnd
    exact (List.nodup_append.mp hnd).2.2 _ (List.mem_map.mpr ⟨_, hm, rfl⟩) _ List.mem_cons_self e
   have hcnt : (j1n (j0w (n.take r) ++ j0k r ((row n r).take p) 0) z).length ≤ 1 := by
    have h1 : (pos n z).length = 2 := by rw [j5r]; exact hT z (j2s htz)
    have h2 : pos n z = j1n (j0w (n.take r) ++ j0k r ((row n r).take p) 0) z ++ j1n ((z, (r, p)) :: rest) z := by
     show j1n (j0w n) z = _
     rw [hsp]
     unfold j1n
     rw [List.filter_append, List.map_append]
    have h3 : 1 ≤ (j1n ((z, (r, p)) :: rest) z).length := by
     unfold j1n
     rw [List.filter_cons, if_pos (by simp)]
     simp
    rw [h2, List.length_append] at h1
    omega
   generalize j0w (n.take r) ++ j0k r ((row n r).take p) 0 = done at I6 hlen hnext hfresh hcnt
   rw [hnext]
   have hTm : Tt ≠ dm := fun e => by rw [e, em6] at hTt; cases hTt
   have hTo : Tt ≠ dO := fun e => by rw [e, eo6] at hTt; cases hTt
   have s7 := j0e hTt (.tup [.ref te, .str z])
   have kb7 : ∀ b o, b ≠ dm → b ≠ dO → H5 b = some o → (upd H'' Tt (.tup [.ref te, .str z])) b = some o := fun b o h1 h2 h => s7 _ _ (kb b o h1 h2 h)
   have em7 := s7 _ _ em6
   have eo7 := s7 _ _ eo6
   have I7 := I6.keep (H' := upd H'' Tt (.tup [.ref te, .str z])) fun t p j h => s7 _ _ h
   have ete7 := s7 _ _ ete
   refine j2a rfl (SqT.of j0b) (j0j 4 nd (j0j 5 nd ?_))
   show Run _ _ _ [some (.ref R), some (.ref dm), some (.ref dO), some (.ref a.1), some (.ref te), some (.str z)] _
   generalize upd H'' Tt (.tup [.ref te, .str z]) = H7 at kb7 em7 eo7 I7 ete7
   have ete8 : H7 te = some (TN n (r, p)) := by
    show H7 te = some (Tn (nameAt n r) p)
    rw [enm]
    exact ete7
   have hM : kM.length < sizeLine := j0u (by have := I7.lenM; omega)
   have hO : kO.length < sizeLine := j0u (by have := I7.lenO; omega)
   refine j4b (j9k hu (ev_v 5 (ev_v 1 ⟨dm, _, rfl, DGet.k (k := Sum.inr z) em7, ?_⟩)))
   match hpz : j1n done z with
   | [] =>
    rw [I7.m0 z hpz]
    show if false = true then _ else _
    rw [if_neg Bool.false_ne_true]
    refine j3n hu (ev_v 4 (ev_v 1 (ev_v 5 ⟨dm, _, rfl, DPut.k (k := Sum.inr z) em7 hM, j0l (j0l ⟨_, kO, _, _, fun b o h1 h2 h => ?_, j0b, ?_, ?_, rfl⟩)⟩)))
    ·rw [j0c h1]
     exact kb7 b o h1 h2 h
    ·rw [j0c ndd]
     exact eo7
    ·exact (I7.new ete8 htz hpz).keep fun t p j h => by rw [j0c (j7n h em7)]; exact h
   | b :: more =>
    have hmore : more = [] := by
     rw [hpz, List.length_cons] at hcnt
     exact List.length_eq_zero_iff.mp (by omega)
    subst hmore
    obtain ⟨tm, vm, etm⟩ := I7.m1 z b [] hpz
    rw [vm]
    show if true = true then _ else _
    rw [if_pos rfl]
    have hbe : b ≠ (r, p) := hfresh b (by rw [hpz]; exact List.mem_singleton.mpr rfl)
    refine j3n hu (j07 hu (ev_v 1 (ev_v 5 ⟨dm, .ref tm, rfl, by rw [← vm]; exact DGet.k (k := Sum.inr z) em7, ev_v 2 (ev_v 4 ⟨dO, _, rfl, DPut.t (k := key n (r, p)) eo7 ete8 hO, ?_⟩)⟩)))
    have hO2 := j0y kO (key n (r, p)) (.ref tm)
    have hO3 := I7.lenO
    have em8 : (upd H7 dO (.dT (putK kO (key n (r, p)) (.ref tm)))) dm = some (.dK kM) := by rw [j0c (Ne.symm ndd)]; exact em7
    have etm8 : (upd H7 dO (.dT (putK kO (key n (r, p)) (.ref tm)))) tm = some (TN n b) := by rw [j0c (j1q etm eo7)]; exact etm
    refine j3n hu (ev_v 4 (ev_v 2 (j07 hu (ev_v 1 (ev_v 5 ⟨dm, .ref tm, rfl, by rw [← vm]; exact DGet.k (k := Sum.inr z) em8, dO, _, rfl, DPut.t (k := key n b) j0b etm8 (j0u (by omega)), j0l (j0l ⟨kM, _, _, _, fun b o h1 h2 h => ?_, ?_, j0b, ?_, rfl⟩)⟩)))))
    ·rw [j0c h2, j0c h2]
     exact kb7 b o h1 h2 h
    ·rw [j0c (Ne.symm ndd)]
     exact em8
    ·exact (I7.old hN ete8 etm htz hpz hbe).keep fun t p j h => by rw [j0c (j1q h eo7), j0c (j1q h eo7)]; exact h
  ·rintro σ' H'' ⟨kM, kO, u2, u3, kb, em6, eo6, I6, rfl⟩
   refine j0l ⟨kM, kO, _, _, _, fun b o h => ?_, em6, eo6, ?_, rfl⟩
   ·exact kb b o (j0d h hdm) (j0d h hdO0) (s5 _ _ (sm _ _ h))
   ·rw [List.length_map, l5, List.take_length] at I6
    rw [j2i hi]
    exact I6
 ·rintro σ H' ⟨kM, kO, u1, u2, u3, sm, em', eo', I, rfl⟩
  rw [List.length_map, hal, List.take_length] at I
  have lO := I.lenO
  have ls : (j0w n).length = (ties n).length := by rw [← j1d n 0, List.length_map]; rfl
  exact j0p (ev_v 2 (q dO kO H' sm hdO0 eo' (fun e he => I.whole hT he) I.nd (fun k hk => let ⟨p, hp, e⟩ := I.ks k hk; ⟨p.2, List.mem_map.mpr ⟨p, hp, rfl⟩, e⟩) (by omega)))
end
end D4
namespace D4
open PySem L2 Nt Sort2
def AtN (n : Net) (H : Hp) (us : List Addr) (done : List (Str × Nt.End)) : Prop := us.length = done.length ∧ ∀ (j : Nat) u p, us[j]? = some u → done[j]? = some p → H u = some (TN n p.2)
theorem AtN.keep {n : Net} {H H' : Hp} {us : List Addr} {done : List (Str × Nt.End)} (h : AtN n H us done) (k : ∀ t p j, H t = some (Tn p j) → H' t = some (Tn p j)) : AtN n H' us done := ⟨h.1, fun j u p h1 h2 => k _ _ _ (h.2 j u p h1 h2)⟩
theorem AtN.snoc {n : Net} {H H' : Hp} {us : List Addr} {done : List (Str × Nt.End)} {u : Addr} {p : Str × Nt.End} (h : AtN n H us done) (k : ∀ t p j, H t = some (Tn p j) → H' t = some (Tn p j)) (hu : H' u = some (TN n p.2)) : AtN n H' (us ++ [u]) (done ++ [p]) := by
 obtain ⟨hl, ha⟩ := h
 refine ⟨by rw [List.length_append, List.length_append, hl]; rfl, fun j v x hv hx => ?_⟩
 by_cases hj : j < us.length
 ·rw [List.getElem?_append_left hj] at hv
  rw [List.getElem?_append_left (by omega)] at hx
  exact k _ _ _ (ha j v x hv hx)
 ·rw [List.getElem?_append_right (by omega)] at hv hx
  have hj2 : j - us.length = 0 := by
   have := (List.getElem?_eq_some_iff.mp hv).1
   simp at this
   omega
  have hj3 : j - done.length = 0 := by omega
  rw [hj2] at hv
  rw [hj3] at hx
  cases hv
  cases hx
  exact hu
section
variable {X : Cx} {tg : Expr} {ifs : List Expr} {inner : Sem Unit} {σ : St} {H : Hp} {a b : Addr} {xs ys : List V} {after : St → Hp → Prop}
theorem j3e (Pv : Nat → St → Hp → Prop) (h0 : Pv 0 σ H) (hl : ∀ i σ' H', i ≤ xs.length → Pv i σ' H' → SqL X.K H' a xs)
  (hs : ∀ i x σ' H', xs[i]? = some x → Pv i σ' H' → Eg X tg x σ' H' fun σ2 H3 => Ei X ifs σ2 H3 fun b H4 => if b = true then Ein X inner σ2 H4 (Pv (i + 1)) else Pv (i + 1) σ2 H4)
  (hd : ∀ σ' H', Pv xs.length σ' H' → after σ' H') : j2m X tg ifs inner (Itl X.K a) after σ H := by
 refine ⟨fun i m σ' H' => m = xs.length - i ∧ i ≤ xs.length ∧ Pv i σ' H', ⟨_, rfl, Nat.zero_le _, h0⟩, ?_⟩
 rintro i m σ' H' ⟨rfl, hi, p⟩
 have q := hl i σ' H' hi p
 by_cases hlt : i < xs.length
 ·refine .inr ⟨⟨xs, xs[i], q, by simp [hlt]⟩, Pv (i + 1), fun σ' H' p' => ⟨xs.length - (i + 1), by omega, rfl, hlt, p'⟩, fun x H2 y => ?_⟩
  obtain ⟨e, y⟩ := y
  subst e
  exact hs i x σ' _ (y xs q) p
 ·have e : i = xs.length := by omega
  subst e
  exact .inl ⟨⟨xs, q, Nat.le_refl _⟩, hd σ' H' p⟩
theorem j9e (hlen : xs.length = ys.length) (Pv : Nat → St → Hp → Prop) (h0 : Pv 0 σ H) (hl : ∀ i σ' H', i ≤ xs.length → Pv i σ' H' → SqL X.K H' a xs ∧ SqL X.K H' b ys)
  (hs : ∀ i x y T σ' H', xs[i]? = some x → ys[i]? = some y → Pv i σ' H' → H' T = none → Eg X tg (.ref T) σ' (upd H' T (.tup [x, y])) fun σ2 H3 => Ei X ifs σ2 H3 fun b H4 => if b = true then Ein X inner σ2 H4 (Pv (i + 1)) else Pv (i + 1) σ2 H4)
  (hd : ∀ σ' H', Pv xs.length σ' H' → after σ' H') : j2m X tg ifs inner (Itz X.K a b) after σ H := by
 refine ⟨fun i m σ' H' => m = xs.length - i ∧ i ≤ xs.length ∧ Pv i σ' H', ⟨_, rfl, Nat.zero_le _, h0⟩, ?_⟩
 rintro i m σ' H' ⟨rfl, hi, p⟩
 obtain ⟨q1, q2⟩ := hl i σ' H' hi p
 by_cases hlt : i < xs.length
 ·refine .inr ⟨⟨xs, ys, xs[i], ys[i], q1, q2, List.getElem?_eq_getElem hlt, List.getElem?_eq_getElem (by omega)⟩, Pv (i + 1), fun σ' H' p' => ⟨xs.length - (i + 1), by omega, rfl, hlt, p'⟩, fun v H2 y => ?_⟩
  obtain ⟨T, x, y, hT, rfl, rfl, y1, y2⟩ := y
  exact hs i x y T σ' _ (y1 xs q1) (y2 ys q2) p hT
 ·have e : i = xs.length := by omega
  subst e
  exact .inl ⟨⟨xs, ys, q1, q2, .inl (Nat.le_refl _)⟩, hd σ' H' p⟩
end
def k7m : Sp := fun vs H Q _ => ∃ (R : Addr) (as : List (Addr × Addr)) (n : Net), vs = [.ref R] ∧ RowsAt H R as n ∧ n.length ≤ 1000 ∧ (ties n).length ≤ 1000 ∧
 ∀ (L : Addr) (ts : List Addr) (H' : Hp), Same H H' → H L = none → H' L = some (.lst (ts.map V.ref)) → AtN n H' ts (j0w n) → Q (.ref L) H'
section
variable {P : Program} {w : World} {K : PySem.W.Frag} {mg : Str → Option Value} {base : Heap}
abbrev NO1 : List Str := ["rows"]
abbrev NO2 : List Str := ["rows", "row", "end"]
theorem scOrder : FnScope NO1 ["rows"] (j0h j9h) := ⟨rfl, rfl, rfl, by decide +kernel, rfl, by decide +kernel, by decide +kernel⟩
theorem q0n : NO2.Nodup := by decide +kernel
theorem k43 {f : Addr} {fd : FuncData} (F : Fun K "ends_in_order" "ends_in_order" j9h f fd) (T : Txt mg)
  (GE : Has P w K mg base 1 "ends_round" ["row"] j78) :
  FnOk P w K mg base CX0 2 f fd ["rows"] k7m := by
 refine F.gb scOrder (fun vs H Q E h => ?_) (fun b0 H vs Q E hr h => ?_)
 ·obtain ⟨R, as, n, rfl, _⟩ := h
  rfl
 obtain ⟨R, as, n, rfl, hR, hn, ht, q⟩ := h
 have nd := scOrder.nd
 have hal := hR.len
 show Run _ _ _ [some (.ref R)] H
 refine j0p (k37 (j0h j9h) NO1 NO2 2 (j1s j00) (ev_v 0 ⟨R, rfl, ⟨_, SqL.of hR.lst⟩, fun D hD cl C s₀ H₀ ex => ?_⟩))
 refine j3e (xs := as.map fun a => V.ref a.1) (fun r σ' H' => (∃ v1 v2, σ' = [some (.ref R)] ++ [v1, v2]) ∧ ∃ ts : List Addr, Same H H' ∧ H' D = some (.lst (ts.map V.ref)) ∧ AtN n H' ts (j0w (n.take r))) ⟨⟨none, none, rfl⟩, [], j0e hD _, j0b, ⟨rfl, fun j u p h => (by cases h)⟩⟩ ?_ ?_ ?_
 ·rintro r σ' H' _ ⟨_, ts, sm, _⟩
  exact SqL.of (sm _ _ hR.lst)
 ·rintro r x σ' H' hx ⟨⟨v1, v2, rfl⟩, ts, sm, eD, AN⟩
  have hi : r < n.length := by
   have := (List.getElem?_eq_some_iff.mp hx).1
   rw [List.length_map] at this
   omega
  obtain ⟨a, ea, eat, et, el, er⟩ := (hR.same sm).at hi
  rw [List.getElem?_map, ea] at hx
  cases hx
  have hrl : (row n r).length ≤ 1000 := Nat.le_trans (j2y n r) ht
  refine j0j 1 q0n ?_
  refine j3q ?_
  rw [if_pos rfl]
  refine k5a rfl rfl (j1s j00) (j0t GE hr (j0a (ev_v 1 (j0g ⟨a.1, a.2, n[r].1, row n r, rfl, et, el, hrl, fun L us H5 s5 n5 e5 l5 t5 => ⟨L, rfl, ⟨_, SqL.of e5⟩, ?_⟩⟩))))
  have nLD : L ≠ D := fun e => by rw [e, eD] at n5; cases n5
  refine j3e (xs := us.map V.ref) (fun p σ' H'' => (∃ v2, σ' = [some (.ref R)] ++ [some (.ref a.1), v2]) ∧ ∃ ts : List Addr, (∀ b o, b ≠ D → H5 b = some o → H'' b = some o) ∧ H'' D = some (.lst (ts.map V.ref)) ∧ AtN n H'' ts (j0w (n.take r) ++ j0k r ((row n r).take p) 0))
   ⟨⟨_, rfl⟩, ts, fun b o _ h => h, s5 _ _ eD, by simpa [j0k] using AN.keep (H' := H5) fun t p j h => s5 _ _ h⟩ ?_ ?_ ?_
  ·rintro p σ' H'' _ ⟨_, ts, kb, _⟩
   exact SqL.of (kb _ _ nLD e5)
  ·rintro p x σ' H'' hx ⟨⟨v2, rfl⟩, ts, kb, eD6, AN6⟩
   rw [List.getElem?_map, Option.map_eq_some_iff] at hx
   obtain ⟨te, hte, rfl⟩ := hx
   have hp : p < (row n r).length := by have := (List.getElem?_eq_some_iff.mp hte).1; omega
   have hz : (row n r)[p]? = some (row n r)[p] := List.getElem?_eq_getElem hp
   generalize (row n r)[p] = z at hz
   have e5t := t5 p te hte
   have nte : te ≠ D := j1j e5t (s5 _ _ eD) fun z => nomatch z
   have ete := kb _ _ nte e5t
   obtain ⟨rest, hsp⟩ := j2n hi hz
   have hlen : ts.length < 1000 := by
    have h1 : (j0w n).length = (ties n).length := by
     have := congrArg List.length (j1d n 0)
     rw [List.length_map] at this
     exact this
    have h2 := congrArg List.length hsp
    rw [List.length_append, List.length_cons] at h2
    have := AN6.1
    omega
   refine j0j 2 q0n ?_
   refine j3q ?_
   rw [if_pos rfl]
   refine k47 (ev_v 2 ⟨ts.map V.ref, eD6, by rw [List.length_map]; exact j0u (by omega), ⟨_, rfl⟩, ts ++ [te], fun b o hb h => by rw [j0c hb]; exact kb b o hb h, by rw [j0b, List.map_append]; rfl, ?_⟩)
   rw [j1l hz, ← List.append_assoc]
   refine AN6.snoc (fun t p j h => by rw [j0c (j1j h eD6 fun z => nomatch z)]; exact h) ?_
   rw [j0c nte]
   show H'' te = some (Tn (nameAt n r) p)
   rw [j18 hi]
   exact ete
  ·rintro σ' H'' ⟨⟨v2, rfl⟩, ts, kb, eD6, AN6⟩
   refine ⟨⟨_, _, rfl⟩, ts, fun b o h => kb b o (j0d h hD) (s5 _ _ (sm _ _ h)), eD6, ?_⟩
   rw [List.length_map, l5, List.take_length, ← j2i hi] at AN6
   exact AN6
 ·rintro σ' H' ⟨_, ts, sm, eD, AN⟩
  rw [List.length_map, hal, List.take_length] at AN
  exact q D ts H' sm hD eD AN
end
section
variable {X : Cx} {H : Hp}
theorem j8w {k : Nat} (z : Str) : EqD X H k (.str z) (.str z) true := by
 have := j3l (X := X) (H := H) (k := k) (x := .str z) (y := .str z) rfl rfl
 have e : eqV (.str z) (.str z) = true := by show (z == z) = true; simp
 rw [e] at this
 exact this
theorem q0u {p p' : Str} {j j' : Int} : ∀ (i : Nat) (u v : V), [V.str p, .int j][i]? = some u → [V.str p', .int j'][i]? = some v → EqD X H 0 u v (if i = 0 then eqV (.str p) (.str p') else eqV (.int j) (.int j'))
 | 0, u, v, h1, h2 => by
  cases h1
  cases h2
  exact j3l rfl rfl
 | 1, u, v, h1, h2 => by
  cases h1
  cases h2
  exact j3l rfl rfl
 | i + 2, u, v, h1, h2 => by simp at h1
theorem q1m (p p' : Str) (j j' : Int) : (eqV (.str p) (.str p') && eqV (.int j) (.int j')) = decide (p = p' ∧ j = j') := by
 show ((p == p') && (j == j')) = _
 by_cases h : p = p' <;> by_cases h2 : j = j' <;> simp [h, h2]
theorem k9l {s t : Addr} {p p' : Str} {j j' : Int} (hs : H s = some (Tn p j)) (ht : H t = some (Tn p' j')) : RnD X H 1 (.ref s) (.ref t) (decide (p = p' ∧ j = j')) := by
 have := k3o (X := X) (k := 0) (fun i => if i = 0 then eqV (.str p) (.str p') else eqV (.int j) (.int j')) (SqT.of hs) (SqT.of ht) rfl q0u
 rw [show ([V.str p, .int j].length) = 2 from rfl, all2] at this
 have e := q1m p p' j j'
 simp only [if_true] at this
 rw [if_neg (by decide), e] at this
 exact this
theorem k53 {a b : Addr} {zs : List Str} (ha : H a = some (Ls zs)) (hb : H b = some (Ls zs)) : RcD X H 1 (.ref a) (.ref b) true := by
 have q := j60 (X := X) (k := 0) (fun _ => true) (SqL.of (K := X.K) ha) (SqL.of (K := X.K) hb) rfl fun j x y hx hy => by
  rw [hx] at hy
  cases hy
  rw [List.getElem?_map, Option.map_eq_some_iff] at hx
  obtain ⟨z, _, rfl⟩ := hx
  exact j8w z
 rw [j4w] at q
 exact q
theorem k1v {k : Nat} {a b : Addr} (h : RcD X H k (.ref a) (.ref b) true) : EqD X H k (.ref a) (.ref b) true := by
 by_cases e : a = b
 ·subst e
  exact k4t
 ·exact q1r e h
theorem k5p {R R' : Addr} {as bs : List (Addr × Addr)} {n : Net} (h : RowsAt H R as n) (g : RowsAt H R' bs n) : RcD X H 3 (.ref R) (.ref R') true := by
 have q := j60 (X := X) (k := 2) (fun _ => true) (SqL.of (K := X.K) h.lst) (SqL.of (K := X.K) g.lst) (by rw [List.length_map, List.length_map, h.len, g.len]) fun j x y hx hy => by
  rw [List.getElem?_map, Option.map_eq_some_iff] at hx hy
  obtain ⟨a, ea, rfl⟩ := hx
  obtain ⟨b, eb, rfl⟩ := hy
  have hj : j < n.length := by
   have := (List.getElem?_eq_some_iff.mp ea).1
   have := h.len
   omega
  obtain ⟨q1, q2⟩ := h.tup j a n[j] ea (List.getElem?_eq_getElem hj)
  obtain ⟨q3, q4⟩ := g.tup j b n[j] eb (List.getElem?_eq_getElem hj)
  have t := k1s (X := X) (k := 1) (fun _ => true) (SqT.of (K := X.K) q1) (SqT.of (K := X.K) q3) rfl fun i x y hx hy => by
   match i with
   | 0 => cases hx; cases hy; exact j8w _
   | 1 => cases hx; cases hy; exact k1v (k53 q2 q4)
   | i + 2 => simp at hx
  rw [j4w] at t
  exact k1v t
 rw [j4w] at q
 exact q
end
theorem k5y {X : Cx} {H : Hp} {a b : Addr} {zs : List Str} (ha : H a = some (Ls zs)) (hb : H b = some (Ls zs)) : RnD X H 1 (.ref a) (.ref b) true := by
 have q := j6v (X := X) (k := 0) (fun _ => true) (SqL.of (K := X.K) ha) (SqL.of (K := X.K) hb) rfl fun j x y hx hy => by
  rw [hx] at hy
  cases hy
  rw [List.getElem?_map, Option.map_eq_some_iff] at hx
  obtain ⟨z, _, rfl⟩ := hx
  exact j8w z
 rw [j4w] at q
 exact q
def spBE : Sp := fun vs H Q _ => ∃ (R : Addr) (as : List (Addr × Addr)) (n : Net), vs = [.ref R] ∧ RowsAt H R as n ∧ (n.map (·.1)).Nodup ∧ n.length ≤ 1000 ∧ (ties n).length ≤ 1000 ∧
 ∀ (d : Addr) (kvs : List (List Key × V)) (H' : Hp), Same H H' → H d = none → H' d = some (.dT kvs) → (∀ e z, j0s n e = some z → valV kvs (key n e) = some (.str z)) → Q (.ref d) H'
section
variable {P : Program} {w : World} {K : PySem.W.Frag} {mg : Str → Option Value} {base : Heap}
abbrev NB1 : List Str := ["rows"]
abbrev NB2 : List Str := ["rows", "row", "end", "tie"]
theorem scBE : FnScope NB1 ["rows"] (j0h j9x) := ⟨rfl, rfl, rfl, by decide +kernel, rfl, by decide +kernel, by decide +kernel⟩
theorem k8s : NB2.Nodup := by decide +kernel
theorem q1x {f : Addr} {fd : FuncData} (F : Fun K "ties_by_end" "ties_by_end" j9x f fd) (T : Txt mg)
  (GE : Has P w K mg base 1 "ends_round" ["row"] j78) :
  FnOk P w K mg base CX0 2 f fd ["rows"] spBE := by
 refine F.gb scBE (fun vs H Q E h => ?_) (fun b0 H vs Q E hr h => ?_)
 ·obtain ⟨R, as, n, rfl, _⟩ := h
  rfl
 obtain ⟨R, as, n, rfl, hR, hN, hn, ht, q⟩ := h
 have hal := hR.len
 have hu := hr.u1
 show Run _ _ _ [some (.ref R)] H
 refine j0p (k02 (j0h j9x) NB1 NB2 3 (j1s j00) (ev_v 0 ⟨R, rfl, ⟨_, SqL.of hR.lst⟩, fun D hD cl C s₀ H₀ ex => ?_⟩))
 refine j3e (xs := as.map fun a => V.ref a.1) (fun r σ' H' => (∃ v1 v2 v3, σ' = [some (.ref R)] ++ [v1, v2, v3]) ∧ ∃ kvs : List (List Key × V), Same H H' ∧ H' D = some (.dT kvs) ∧ kvs.length ≤ (j0w (n.take r)).length ∧ ∀ p ∈ j0w (n.take r), j0s n p.2 = some p.1 ∧ valV kvs (key n p.2) = some (.str p.1)) ⟨⟨none, none, none, rfl⟩, [], j0e hD _, j0b, Nat.zero_le _, fun p h => (by cases h)⟩ ?_ ?_ ?_
 ·rintro r σ' H' _ ⟨_, kvs, sm, _⟩
  exact SqL.of (sm _ _ hR.lst)
 ·rintro r x σ' H' hx ⟨⟨v1, v2, v3, rfl⟩, kvs, sm, eD, hlk, hkv⟩
  have hi : r < n.length := by
   have := (List.getElem?_eq_some_iff.mp hx).1
   rw [List.length_map] at this
   omega
  obtain ⟨a, ea, eat, et, el, er⟩ := (hR.same sm).at hi
  rw [List.getElem?_map, ea] at hx
  cases hx
  have hrl : (row n r).length ≤ 1000 := Nat.le_trans (j2y n r) ht
  refine j0j 1 k8s ?_
  refine j3q ?_
  rw [if_pos rfl]
  refine k3q rfl rfl (k6d rfl T.zip (ta := tEa _ _) j28) ?_
  show Ea _ _ _ _ _
  refine j0a (j0t GE hr (j0a (ev_v 1 (j0g ⟨a.1, a.2, n[r].1, row n r, rfl, et, el, hrl, fun L us H5 s5 n5 e5 l5 t5 => ?_⟩))))
  refine j0a (j0r j0z (ev_v 1 (j0f ⟨a.1, _, _, .ref a.2, rfl, rfl, SqT.of (s5 _ _ et), rfl, j0g ⟨L, a.2, rfl, ⟨_, SqL.of e5⟩, ⟨_, SqL.of (s5 _ _ el)⟩, ?_⟩⟩)))
  have eD5 := s5 _ _ eD
  have el5 := s5 _ _ el
  refine j9e (xs := us.map V.ref) (ys := (row n r).map V.str) (by rw [List.length_map, List.length_map, l5]) (fun p σ' H'' => (∃ v2 v3, σ' = [some (.ref R)] ++ [some (.ref a.1), v2, v3]) ∧ ∃ kvs : List (List Key × V), (∀ b o, b ≠ D → H5 b = some o → H'' b = some o) ∧ H'' D = some (.dT kvs) ∧ kvs.length ≤ (j0w (n.take r) ++ j0k r ((row n r).take p) 0).length ∧ ∀ x ∈ j0w (n.take r) ++ j0k r ((row n r).take p) 0, j0s n x.2 = some x.1 ∧ valV kvs (key n x.2) = some (.str x.1))
   ⟨⟨_, _, rfl⟩, kvs, fun b o _ h => h, eD5, by simpa [j0k] using hlk, by simpa [j0k] using hkv⟩ ?_ ?_ ?_
  ·rintro p σ' H'' _ ⟨_, kvs, kb, _⟩
   exact ⟨SqL.of (kb _ _ (j1j e5 eD5 fun z => nomatch z) e5), SqL.of (kb _ _ (j1j el5 eD5 fun z => nomatch z) el5)⟩
  ·rintro p x y Tt σ' H'' hx hy ⟨⟨v2, v3, rfl⟩, kvs, kb, eD6, hlk6, hkv6⟩ hTt
   rw [List.getElem?_map, Option.map_eq_some_iff] at hx hy
   obtain ⟨te, hte, rfl⟩ := hx
   obtain ⟨z, hz, rfl⟩ := hy
   have e5t := t5 p te hte
   have nte : te ≠ D := j1j e5t eD5 fun z => nomatch z
   have ete := kb _ _ nte e5t
   have htz : j0s n (r, p) = some z := hz
   obtain ⟨rest, hsp⟩ := j2n hi hz
   have hlen : (j0w (n.take r) ++ j0k r ((row n r).take p) 0).length < 1000 := by
    have h1 : (j0w n).length = (ties n).length := by
     have := congrArg List.length (j1d n 0)
     rw [List.length_map] at this
     exact this
    have h2 := congrArg List.length hsp
    rw [List.length_append, List.length_cons] at h2
    omega
   have nTD : Tt ≠ D := fun e => by rw [e, eD6] at hTt; cases hTt
   have s7 := j0e hTt (.tup [.ref te, .str z])
   refine j2a rfl (SqT.of j0b) (j0j 2 k8s (j0j 3 k8s ?_))
   refine j3q ?_
   rw [if_pos rfl]
   have ete7 : (upd H'' Tt (.tup [.ref te, .str z])) te = some (.tup ((key n (r, p)).map kV)) := by
    rw [s7 _ _ ete]
    show some (Tn n[r].1 (p : Int)) = some (Tn (nameAt n r) (p : Int))
    rw [j18 hi]
   refine j5j hu (ev_v 2 (ev_v 3 ⟨_, DPut.t (k := key n (r, p)) (s7 _ _ eD6) ete7 (j0u (by omega)), ⟨_, _, rfl⟩, _, fun b o hb h => ?_, j0b, ?_, ?_⟩))
   ·rw [j0c hb]
    exact s7 _ _ (kb b o hb h)
   ·rw [j1l hz, ← List.append_assoc, List.length_append]
    have := j0y kvs (key n (r, p)) (.str z)
    show _ ≤ _ + 1
    omega
   ·rw [j1l hz, ← List.append_assoc]
    intro x hx
    rcases List.mem_append.mp hx with h | h
    ·obtain ⟨q1, q2⟩ := hkv6 x h
     refine ⟨q1, ?_⟩
     rw [j0q]
     by_cases hk : key n x.2 = key n (r, p)
     ·rw [if_pos hk]
      have := j3v hN (j1h q1) (j1h htz) hk
      rw [this, htz] at q1
      rw [Option.some.inj q1]
     ·rw [if_neg hk]
      exact q2
    ·rw [List.mem_singleton.mp h]
     exact ⟨htz, by rw [j0q, if_pos rfl]⟩
  ·rintro σ' H'' ⟨⟨v2, v3, rfl⟩, kvs, kb, eD6, hlk6, hkv6⟩
   rw [List.length_map, l5, List.take_length, ← j2i hi] at hlk6 hkv6
   exact ⟨⟨_, _, _, rfl⟩, kvs, fun b o h => kb b o (j0d h hD) (s5 _ _ (sm _ _ h)), eD6, hlk6, hkv6⟩
 ·rintro σ' H' ⟨_, kvs, sm, eD, hlk, hkv⟩
  rw [List.length_map, hal, List.take_length] at hkv
  exact q D kvs H' sm hD eD fun e z he => (hkv (z, e) (mem_seats.mpr he)).2
end
end D4
namespace L2
open PySem PySem.Spec PyProof.Rows SetT
def evens {α : Type} : List α → List α
 | [] => []
 | [a] => [a]
 | a :: _ :: r => a :: evens r
theorem j4z {α : Type} : ∀ (xs : List α) (k : Nat), (evens xs)[k]? = xs[2 * k]?
 | [], k => by simp [evens]
 | [a], 0 => rfl
 | [a], k + 1 => by
  show ([] : List α)[k]? = [a][2 * (k + 1)]?
  rw [List.getElem?_eq_none (Nat.zero_le _), List.getElem?_eq_none (by show 1 ≤ _; omega)]
 | a :: b :: r, 0 => rfl
 | a :: b :: r, k + 1 => by
  show (evens r)[k]? = (a :: b :: r)[2 * (k + 1)]?
  rw [j4z r k, show 2 * (k + 1) = 2 * k + 1 + 1 by omega]
  rfl
theorem j3i {α : Type} : ∀ (xs : List α), (evens xs).length = (xs.length + 1) / 2
 | [] => by
  show 0 = (0 + 1) / 2
  omega
 | [a] => by
  show 1 = (1 + 1) / 2
  omega
 | a :: b :: r => by
  show (evens r).length + 1 = (r.length + 1 + 1 + 1) / 2
  rw [j3i r]
  omega
theorem k5b {α : Type} (xs : List α) : (evens xs).length ≤ xs.length := by
 rw [j3i]
 omega
theorem j50 : ∀ {xs : List V} {us : List Value}, Vals xs us → Vals (evens xs) (evens us)
 | [], us, r => by
  have := r.zero
  subst this
  exact .nil
 | [a], us, r => by
  obtain ⟨u, rfl, ru⟩ := r.one
  exact .cons ru .nil
 | a :: b :: r, us, h => by
  cases h with
  | cons h1 h2 =>
   cases h2 with
   | cons h3 h4 => exact .cons h1 (j50 h4)
theorem j56 {α : Type} (g : Nat → Option α) : ∀ (c : Nat), (∀ k, k < c → ∃ v, g k = some v) → ((List.range c).filterMap g).length = c ∧ ∀ k, k < c → ((List.range c).filterMap g)[k]? = g k
 | 0, _ => ⟨rfl, fun k h => absurd h (Nat.not_lt_zero _)⟩
 | c + 1, h => by
  obtain ⟨h1, h2⟩ := j56 g c fun k hk => h k (by omega)
  obtain ⟨v, hv⟩ := h c (by omega)
  have e : (List.range (c + 1)).filterMap g = (List.range c).filterMap g ++ [v] := by
   rw [List.range_succ, List.filterMap_append, List.filterMap_cons, hv]
   rfl
  rw [e]
  refine ⟨by rw [List.length_append, h1]; rfl, fun k hk => ?_⟩
  by_cases hk' : k < c
  ·rw [List.getElem?_append_left (by omega)]
   exact h2 k hk'
  ·have : k = c := by omega
   subst this
   rw [List.getElem?_append_right (by omega), h1, Nat.sub_self, hv]
   rfl
theorem k0j (its : List Value) : slicePick its.toArray none none (some 2) = (evens its).toArray := by
 unfold slicePick
 have hb : sliceBounds none none (some 2) its.toArray.size = (0, (its.length : Int), 2) := rfl
 rw [hb]
 congr 1
 show ((sliceRange 0 (its.length : Int) 2).filterMap (its.toArray[·]?)) = evens its
 have hr : sliceRange 0 (its.length : Int) 2 = (List.range ((its.length + 1) / 2)).map fun k => 2 * k := by
  unfold sliceRange
  have e1 : (if (2 : Int) > 0 then (if (0 : Int) < (its.length : Int) then ((its.length : Int) - 0 + 2 - 1) / 2 else 0) else (if (0 : Int) > (its.length : Int) then (0 - (its.length : Int) - 2 - 1) / (-2) else 0)).toNat = (its.length + 1) / 2 := by
   rw [if_pos (by decide)]
   split <;> omega
  show (List.range _).map _ = _
  rw [e1]
  exact List.map_congr_left fun k _ => by omega
 rw [hr, List.filterMap_map]
 obtain ⟨h1, h2⟩ := j56 (fun k => its.toArray[2 * k]?) ((its.length + 1) / 2) fun k hk => ⟨its[2 * k]'(by omega), by rw [← Array.getElem?_toList]; exact List.getElem?_eq_getElem (l := its) (by omega)⟩
 apply List.ext_getElem?
 intro k
 show ((List.range ((its.length + 1) / 2)).filterMap fun k => its.toArray[2 * k]?)[k]? = _
 by_cases hk : k < (its.length + 1) / 2
 ·rw [h2 k hk, j4z, ← Array.getElem?_toList]
 ·rw [List.getElem?_eq_none (by omega), List.getElem?_eq_none (by rw [j3i]; omega)]
section
variable {X : Cx} {σ : St} {H : Hp} {Q : VK}
theorem k57 {e : Expr} {j : Nat} {p1 p2 pos : Pos} (h : Ev X e σ H fun x H1 => ∃ a xs, x = .ref a ∧ SqL X.K H1 a xs ∧ ∀ p, H1 p = none → Q (.ref p) (upd H1 p (.lst (evens xs)))) :
  Ev X (.Subscript e (.Slice none none (some (.Constant (.int 2) j p1)) p2) pos) σ H Q := by
 refine ⟨fun pins s I => Subscript_ (thn (h.run pins s I) fun v s1 ⟨x, H1, I1, r1, a, xs, ex, hx, q⟩ => ?_)⟩
 subst ex
 cases (show v = Value.ref a from r1)
 refine wpAny_Slice ?_
 rw [evalPart_none]
 refine wpAny_pure (wpAny_pure ?_)
 rw [evalPart_some]
 refine thn ((j0f (X := X) (i := 2) (j := j) (p := p1) (σ := σ) (H := H1) (Q := fun y H2 => y = .int 2 ∧ H2 = H1) ⟨rfl, rfl⟩).run pins s1 I1) fun v2 s2 ⟨y, H2, I2, r2, ey, eh⟩ => ?_
 subst ey eh
 obtain ⟨t, rfl⟩ := r2
 obtain ⟨its, r, pl, hz⟩ := I2.list hx
 have hlen := r.length
 have I3 : Inv X pins σ H2 { s2 with heap := s2.heap.push { cls := .type "slice", data := .fields #[.none, .none, .int 2 t] } } := I2.kept (t' := s2.toks) fun b ob q => Heap.get?_push_of_some _ q
 have pl3 := pl.isList.push { cls := .type "slice", data := .fields #[.none, .none, .int 2 t] }
 show wpAny (model X.prog X.w) X.A (subscriptTail e _ (.ref a) (.ref s2.heap.objs.size)) (EP X pins σ Q) X.xe { s2 with heap := s2.heap.push { cls := .type "slice", data := .fields #[.none, .none, .int 2 t] } }
 refine tail_any (ops := [.ref a, .ref s2.heap.objs.size]) (T := "list") (Heap.IsList.typeIs (s := { s2 with heap := s2.heap.push { cls := .type "slice", data := .fields #[.none, .none, .int 2 t] } }) pl3) slot_list_getitem.lookup ?_ (by with_unfolding_all rfl)
 refine wpAny_getItem_list_slice (s := { s2 with heap := s2.heap.push { cls := .type "slice", data := .fields #[.none, .none, .int 2 t] } }) pl3 (Heap.IsSliceOf.new ..) .none .none (.int 2 t) (by decide) ?_ (by rw [List.size_toArray]; omega)
 rw [k0j]
 exact ⟨.ref _, _, I3.lnew (t' := s2.toks) (j50 r) (Nat.le_trans (k5b _) hz), rfl, q _ I3.fresh⟩
end
section
variable {prog : Program} {w : World} {A : Around} {E : Value → Shared → Prop} {s : Shared}
theorem k3p {Q : Value → Shared → Prop} (k : Q (.ref s.heap.objs.size) { s with heap := s.heap.push (j64 w) }) : codeAny (model prog w) A (.call (.builtin "set.__new__") ⟨[.type "set"], []⟩) (wants Q E) s := by
 refine codeAny_of_tree ?_
 show wpAny _ A.in1 (checkBuiltinCall "set.__new__" ⟨[.type "set"], []⟩ >>= fun _ => again (.builtin "set.__new__" ⟨[.type "set"], []⟩)) _ _ s
 refine wpAny_bind (wpAny_of_eq PySem.F.newCall_set_0 (wpAny_pure ⟨plainId_quiet PySem.F.plain_set_new _, codeAny_builtin PySem.F.entry_set_new ?_⟩))
 rw [Around.under_plainId PySem.F.plain_set_new _]
 unfold Builtin.«set.__new__» Builtin.Frozenset.newClass
 dsimp only
 refine wpAny_bind (wpAny_bind (wpAny_of_eq (show isType (.type "set") = pure true from rfl) (wpAny_pure ?_)))
 simp only [Bool.not_true, Bool.false_eq_true, if_false]
 unfold newSet
 refine wpAny_bind (wpAny_bind (wp_text ?_))
 dsimp only
 simp only [newObj]
 exact wpAny_bind (wpAny_alloc (wpAny_pure (wpAny_pure k)))
theorem k25 {Q : Value → Shared → Prop} (k : Q (.ref s.heap.objs.size) { s with heap := s.heap.push (j64 w) }) : wpAny (model prog w) A (call (.type "set") []) Q E s := by
 obtain ⟨c, tl, hmro⟩ := PySem.F.called_set.mro
 have hmade := PySem.F.called_set.made
 have hsub := PySem.F.called_set.sub
 refine wpAny_call (codeAny_of_tree ?_)
 show wpAny _ _ (callAny (.type "set") _) _ _ _
 refine wpAny_pure ⟨Code.quiet_builtin _ (by decide +kernel), codeAny_builtin PySem.F.entry_type_call ?_⟩
 rw [Around.under_plain (weight_type_call_type "set" [] []) rfl]
 have h1 := PySem.F.called_set.notType
 have h2 := PySem.F.called_set.canCreate
 have h3 := PySem.F.typeCall_set_0
 repeat (any_goals (first | assumption | wp_step))
 refine codeAny_mono (k3p (E := E) (Q := fun v u => v = .ref s.heap.objs.size ∧ u = { s with heap := s.heap.push (j64 w) }) ⟨rfl, rfl⟩) fun r u hr => ?_
 cases r with
 | error e => exact hr
 | ok fl =>
  cases fl with
  | ret v =>
   obtain ⟨rfl, rfl⟩ := hr
   have hT : Shared.TypeIs { s with heap := s.heap.push (j64 w) } (.ref s.heap.objs.size) "set" := ⟨_, Heap.get?_push_size _ rfl, rfl⟩
   have hli := PySem.F.called_set.init.lookup
   have hbi := PySem.F.called_set.init.bind (.ref s.heap.objs.size)
   repeat (any_goals (first | assumption | wp_step))
   refine codeAny_mono (codeAny_call_builtin (R := wants (fun r u => r = .none ∧ Q (.ref s.heap.objs.size) u) E) PySem.F.called_set.init.plain PySem.F.entry_set_init (check_set_init hT ?_)) fun r2 u2 hr2 => ?_
   ·unfold Builtin.«set.__init__» noKeywords
    wp_walk
    exact ⟨rfl, k⟩
   ·cases r2 with
    | error e => exact hr2
    | ok f2 =>
     cases f2 with
     | ret r =>
      obtain ⟨rfl, hq⟩ := hr2
      repeat (any_goals (first | assumption | wp_step))
     | _ => exact hr2.elim
  | _ => exact hr.elim
theorem k19 {a : Addr} {zs : List Str} {z : Str} {tk : Tok} {Q : Value → Shared → Prop} (S : SetAt prog w s.heap a zs) (h : Q (.bool (decide (z ∉ zs))) { s with toks := s.toks + 1 }) : wpAny (model prog w) A (compareOp .NotIn (.str z tk) (.ref a)) Q E s := by
 have hT := S.typeIs
 show wpAny _ _ (do return .bool (!(← contains (.ref a) (.str z tk)))) Q E s
 refine wpAny_bind ?_
 unfold contains
 try with_reducible refine wpAny_holding ?_
 refine wpAny_bind (wpAny_specialOf hT PySem.F.slot_set_contains.lookup ?_)
 show wpAny _ _ (if (some (Value.builtin "set.__contains__") == some Value.none) = true then _ else _) _ E s
 rw [if_neg (by rw [beq_builtin_none]; exact Bool.false_ne_true)]
 refine wpAny_bind (wpAny_callSpecialUnlessNone?_slot (name := Str.ofString "__contains__") hT PySem.F.slot_set_contains (wpAny_call_entry PySem.F.slot_set_contains hT entry_set_contains ?_ (PySem.F.args_set_contains_2 _ _)))
 unfold Builtin.«frozenset.__contains__» Builtin.Frozenset.oneOther
 simp only [List.isEmpty_nil, bind_assoc]
 unfold Builtin.Frozenset.addrOf Builtin.Frozenset.withSetAsKey setContains
 refine wpAny_bind (wpAny_pure ?_)
 try dsimp only
 refine wpAny_bind (wpAny_pure ?_)
 try dsimp only
 refine wpAny_bind (wpAny_tryCatch (wpAny_holding ?_))
 refine wpAny_bind ((strKind prog w).pyHash (k := z) (strKind_is _ _ _ _) ?_)
 obtain ⟨o, es, ep, t, ho, hx, hd, T⟩ := S
 refine wpAny_bind (k81 (s := { s with toks := s.toks + 1 }) ho hd T (fun hz => ?_) (fun j hj e => ?_))
 ·refine wpAny_pure ?_
  show wpAny _ _ (ret (Value.bool false)) _ _ _
  rw [decide_eq_true hz] at h
  exact wpAny_pure ⟨_, rfl, wpAny_truthy_bool (wpAny_pure h)⟩
 ·refine wpAny_pure ?_
  show wpAny _ _ (ret (Value.bool true)) _ _ _
  have hz : z ∈ zs := T.keys.mem_iff.mp (by rw [← e]; exact List.mem_map.mpr ⟨_, List.getElem_mem hj, rfl⟩)
  rw [decide_eq_false (not_not_intro hz)] at h
  exact wpAny_pure ⟨_, rfl, wpAny_truthy_bool (wpAny_pure h)⟩
end
section
variable {X : Cx} {σ : St} {H : Hp} {Q : VK}
theorem k8u {p pos : Pos} (hm : X.mg "set" = none) (h : ∀ D, H D = none → Q (.ref D) (upd H D (SetO X.prog X.w D []))) (hg : Gl X "set" := by rfl) : Ev X (.Call (.Name "set" p) [] [] pos) σ H Q := by
 refine ⟨fun pins s I => Call_ (j4p I hg hm PyProof.Rows.boot_set (PyProof.Rows.callWith_type0 (k25 ?_)))⟩
 exact ⟨.ref s.heap.objs.size, _, I.laid (t' := s.toks) (fun b o e => Heap.get?_push_of_some _ e) (Nat.le_refl _) (k22 (k1l (Heap.get?_push_size _ rfl))), rfl, h _ I.fresh⟩
theorem j77 : OpR X (compareOp .NotIn) (fun x y H Q => ∃ z a zs, x = .str z ∧ y = .ref a ∧ H a = some (SetO X.prog X.w a zs) ∧ Q (.bl (decide (z ∉ zs))) H) := by
 intro pins s σ H x y v u Q I rx ry h
 obtain ⟨z, a, zs, rfl, rfl, hA, q⟩ := h
 obtain ⟨t, rfl⟩ := rx
 cases (show u = Value.ref a from ry)
 exact k19 (I.set hA) ⟨.bl _, H, I.tok _, rfl, q⟩
theorem k72 {o e : Expr} {ap cp : Pos} (h : Ev X o σ H fun x H1 => ∃ a, x = .ref a ∧ (∃ zs, H1 a = some (SetO X.prog X.w a zs)) ∧ Ev X e σ H1 fun y H2 => ∃ z zs, y = .str z ∧ H2 a = some (SetO X.prog X.w a zs) ∧ zs.length + 1 < 1000 ∧ Q .non (upd H2 a (SetO X.prog X.w a (added zs z))))
  (hbase : attributeBase o "add" X.env (eval o X.env) = eval o X.env := by rfl)
  (hfew : ((backTo cp (starEach [e] X.env)).all (fun x => !x.1) && (backToKw cp (keywordEach [] X.env)).all (fun x => x.1.isSome) && decide ([e].length + ([] : List Keyword).length + (if ([] : List Keyword).isEmpty then 0 else 1) < 30)) = true := by rfl)
  (hline : (ap.endLine == cp.line) = true := by rfl) (hs : starEach [e] X.env = (false, eval e X.env) :: starEach [] X.env := by rfl) (hst : isStar e = false := by rfl) : Ev X (.Call (.Attribute o "add" ap) [e] [] cp) σ H Q := by
 refine ⟨fun pins s I => wpAny_Call_method_late hbase hfew hline rfl (thn (h.run pins s I) fun v s1 ⟨x, H1, I1, r1, a, ex, ⟨zs, hA⟩, h2⟩ => ?_)⟩
 subst ex
 cases (show v = Value.ref a from r1)
 have S := I1.set hA
 refine ⟨"set", "set.add", PySem.F.plainAttrs_set, PySem.F.slot_set_add, PySem.F.type_set_add, S.typeIs, fun b eb => ?_, ?_⟩
 ·cases eb
  obtain ⟨o, _, _, _, ho, hx, _⟩ := S
  exact ⟨o, ho, hx.2.1⟩
 have hE : Ea X [e] σ H1 (fun ys H2 => ∃ z zs, ys = [.str z] ∧ H2 a = some (SetO X.prog X.w a zs) ∧ zs.length + 1 < 1000 ∧ Q .non (upd H2 a (SetO X.prog X.w a (added zs z)))) := j0a (h2.mono fun y H2 ⟨z, zs, ey, q⟩ => j0g ⟨z, zs, by rw [ey], q⟩) hst
 have hA2 := hE.run cp pins s1 I1
 rw [hs] at hA2 ⊢
 refine Calls.callWith_builtin rfl (Calls.evalArgs_plain ?_)
 refine thn hA2 fun us s2 ⟨vs, H2, I2, r2, z, ys, ev, hA3, hl, q⟩ => ?_
 subst ev
 obtain ⟨u, rfl, ru⟩ := vals1 r2
 obtain ⟨tk, rfl⟩ := ru
 refine k5s (I2.set hA3) hl fun h' sb S' => ⟨.non, _, j3a (t' := s2.toks + 1) I2 (by rw [hA3]; exact True.intro) sb ?_ (k22 S'), rfl, q⟩
 obtain ⟨o, _, _, _, ho, _⟩ := S'
 exact ⟨o, ho⟩
end
end L2
namespace Nt
open PySem L2
def rnd (c : Int) (n : Net) (e : End) : End := (e.1, (((e.2 : Int) + c) % ((row n e.1).length : Int)).toNat)
theorem j5q {c : Int} {n : Net} {e : End} (h : e ∈ ends n) : (((rnd c n e).2 : Nat) : Int) = ((e.2 : Int) + c) % ((row n e.1).length : Int) := by
 obtain ⟨z, hz⟩ := mem_ends.mp h
 have := j3g hz
 exact Int.toNat_of_nonneg (Int.emod_nonneg _ (by omega))
theorem k1p {c : Int} {n : Net} {e : End} (h : e ∈ ends n) : rnd c n e ∈ ends n := by
 obtain ⟨z, hz⟩ := mem_ends.mp h
 have h1 := j3g hz
 have h2 := j5q (c := c) h
 have h3 : ((e.2 : Int) + c) % ((row n e.1).length : Int) < ((row n e.1).length : Int) := Int.emod_lt_of_pos _ (by omega)
 exact mem_ends.mpr (k31 (e := rnd c n e) (by show (rnd c n e).2 < (row n e.1).length; omega))
theorem k0d {c : Int} {n : Net} {e : End} (h : e ∈ ends n) : rnd (-c) n (rnd c n e) = e := by
 have h2 := j5q (c := c) h
 have h3 := j5q (c := -c) (k1p (c := c) h)
 obtain ⟨z, hz⟩ := mem_ends.mp h
 have h1 := j3g hz
 have hr : (rnd c n e).1 = e.1 := rfl
 rw [hr, h2] at h3
 have e1 : (((e.2 : Int) + c) % ((row n e.1).length : Int) + -c) % ((row n e.1).length : Int) = (e.2 : Int) := by
  have : (((e.2 : Int) + c) % ((row n e.1).length : Int) + -c) % ((row n e.1).length : Int) = ((e.2 : Int) + c + -c) % ((row n e.1).length : Int) := by
   rw [Int.add_emod, Int.emod_emod, ← Int.add_emod]
  rw [this, show (e.2 : Int) + c + -c = (e.2 : Int) by omega]
  exact Int.emod_eq_of_lt (by omega) (by omega)
 rw [e1] at h3
 have h4 : (rnd (-c) n (rnd c n e)).2 = e.2 := by omega
 exact Prod.ext rfl h4
theorem k69 {c : Int} {n : Net} {a b : End} (ha : a ∈ ends n) (hb : b ∈ ends n) (h : rnd c n a = rnd c n b) : a = b := by
 rw [← k0d (c := c) ha, ← k0d (c := c) hb, h]
def go (c : Int) (n : Net) (e : End) : End := rnd c n (other n e)
theorem j49 {c : Int} {n : Net} (T : j02 n) {e : End} (h : e ∈ ends n) : go c n e ∈ ends n := k1p (j1z T h)
theorem go_inj {c : Int} {n : Net} (T : j02 n) {a b : End} (ha : a ∈ ends n) (hb : b ∈ ends n) (h : go c n a = go c n b) : a = b := j66 T ha hb (k69 (j1z T ha) (j1z T hb) h)
def two (n : Net) (e : End) : End := go (-1) n (go 1 n e)
theorem j6y {n : Net} (T : j02 n) {e : End} (h : e ∈ ends n) : two n e ∈ ends n := j49 T (j49 T h)
theorem k2z {n : Net} (T : j02 n) {a b : End} (ha : a ∈ ends n) (hb : b ∈ ends n) (h : two n a = two n b) : a = b := go_inj T ha hb (go_inj T (j49 T ha) (j49 T hb) h)
def wk (n : Net) (e : End) : Nat → List End
 | 0 => []
 | k + 1 => wk n e k ++ [it (two n) k e, go 1 n (it (two n) k e)]
theorem j7w (n : Net) (e : End) : ∀ k, (wk n e k).length = 2 * k
 | 0 => rfl
 | k + 1 => by
  show (wk n e k ++ _).length = _
  rw [List.length_append, j7w n e k]
  show 2 * k + 2 = _
  omega
theorem j6x (n : Net) (e : End) : ∀ (k i : Nat), i < k → (wk n e k)[2 * i]? = some (it (two n) i e)
 | 0, i, h => absurd h (Nat.not_lt_zero _)
 | k + 1, i, h => by
  show (wk n e k ++ [it (two n) k e, go 1 n (it (two n) k e)])[2 * i]? = _
  have l := j7w n e k
  by_cases hk : i < k
  ·rw [List.getElem?_append_left (by omega)]
   exact j6x n e k i hk
  ·have : i = k := by omega
   subst this
   rw [List.getElem?_append_right (by omega), l, Nat.sub_self]
   rfl
theorem k1y (n : Net) (e : End) : ∀ (k i : Nat), i < k → (wk n e k)[2 * i + 1]? = some (go 1 n (it (two n) i e))
 | 0, i, h => absurd h (Nat.not_lt_zero _)
 | k + 1, i, h => by
  show (wk n e k ++ [it (two n) k e, go 1 n (it (two n) k e)])[2 * i + 1]? = _
  have l := j7w n e k
  by_cases hk : i < k
  ·rw [List.getElem?_append_left (by omega)]
   exact k1y n e k i hk
  ·have : i = k := by omega
   subst this
   rw [List.getElem?_append_right (by omega), l, show 2 * i + 1 - 2 * i = 1 by omega]
   rfl
theorem j8k {n : Net} (T : j02 n) {e : End} (h : e ∈ ends n) : ∀ k, ∀ c ∈ wk n e k, c ∈ ends n
 | 0, c, hc => by cases hc
 | k + 1, c, hc => by
  have hk : it (two n) k e ∈ ends n := j4r (fun a ha => j6y T ha) h k
  rcases List.mem_append.mp hc with hc | hc
  ·exact j8k T h k c hc
  ·rcases List.mem_cons.mp hc with rfl | hc
   ·exact hk
   ·rw [List.mem_singleton.mp hc]
    exact j49 T hk
structure Per (n : Net) (e : End) (k : Nat) : Prop where
 pos : 0 < k
 back : it (two n) k e = e
 first : ∀ i, 0 < i → i < k → it (two n) i e ≠ e
theorem Per.unique {n : Net} {e : End} {k l : Nat} (a : Per n e k) (b : Per n e l) : k = l := by
 rcases Nat.lt_trichotomy k l with h | h | h
 ·exact absurd a.back (b.first k a.pos h)
 ·exact h
 ·exact absurd b.back (a.first l b.pos h)
noncomputable def per (n : Net) (e : End) : Nat := by classical exact if h : ∃ k, Per n e k then h.choose else 0
theorem k6b {n : Net} {e : End} {k : Nat} (h : Per n e k) : per n e = k := by
 have hx : ∃ k, Per n e k := ⟨k, h⟩
 unfold per
 rw [dif_pos hx]
 exact hx.choose_spec.unique h
noncomputable def walker (n : Net) (e : End) : List End := wk n e (per n e)
structure IsWk (n : Net) (ws : List End) : Prop where
 ends : ∀ c ∈ ws, c ∈ Nt.ends n
 ne0 : 0 < ws.length
 even : ws.length % 2 = 0
 few : ws.length ≤ 2 * (Nt.ends n).length
 at' : ∀ k, k < ws.length → ∃ c, ws[k]? = some c ∧ ws[(k + 1) % ws.length]? = some (go (1 - 2 * ((k : Int) % 2)) n c)
theorem k91 {n : Net} (T : j02 n) {e : End} (h : e ∈ Nt.ends n) {k : Nat} (p : Per n e k) (hk : k ≤ (Nt.ends n).length) : IsWk n (wk n e k) := by
 have l := j7w n e k
 have p0 := p.pos
 refine ⟨j8k T h k, by omega, by omega, by omega, fun j hj => ?_⟩
 rw [l] at hj ⊢
 rcases Nat.mod_two_eq_zero_or_one j with h2 | h2
 ·obtain ⟨i, rfl⟩ : ∃ i, j = 2 * i := ⟨j / 2, by omega⟩
  refine ⟨_, j6x n e k i (by omega), ?_⟩
  rw [Nat.mod_eq_of_lt (by omega), k1y n e k i (by omega)]
  have : (1 : Int) - 2 * (((2 * i : Nat) : Int) % 2) = 1 := by omega
  rw [this]
 ·obtain ⟨i, rfl⟩ : ∃ i, j = 2 * i + 1 := ⟨j / 2, by omega⟩
  refine ⟨_, k1y n e k i (by omega), ?_⟩
  have e1 : (1 : Int) - 2 * (((2 * i + 1 : Nat) : Int) % 2) = -1 := by omega
  rw [e1]
  show _ = some (two n (it (two n) i e))
  by_cases hl : i + 1 < k
  ·rw [Nat.mod_eq_of_lt (by omega), show 2 * i + 1 + 1 = 2 * (i + 1) by omega]
   exact j6x n e k (i + 1) hl
  ·have : i + 1 = k := by omega
   rw [show 2 * i + 1 + 1 = 2 * k by omega, Nat.mod_self]
   have e2 : two n (it (two n) i e) = it (two n) k e := by rw [← this]; rfl
   rw [e2, p.back]
   exact j6x n e k 0 (by omega)
def tnm (n : Net) (e : End) : Str := (j0s n e).getD ⟨#[]⟩
theorem j76 {n : Net} {e : End} {z : Str} (h : j0s n e = some z) : tnm n e = z := by unfold tnm; rw [h]; rfl
noncomputable def wks (n : Net) : List End → List Str → List (List End)
 | [], _ => []
 | e :: r, told => if tnm n e ∈ told then wks n r told else walker n e :: wks n r (told ++ (evens (walker n e)).map (tnm n))
end Nt
namespace D4
open PySem L2 Nt Sort2
theorem j59 {κ : Type} [DecidableEq κ] : ∀ {kvs : List (κ × V)} {i : Nat} {p : κ × V}, (kvs.map (·.1)).Nodup → kvs[i]? = some p → valV kvs p.1 = some p.2
 | [], _, _, _, h => by simp at h
 | q :: r, 0, p, _, h => by
  cases h
  exact j1g rfl
 | q :: r, i + 1, p, hn, h => by
  rw [List.map_cons, List.nodup_cons] at hn
  have hm : r[i]? = some p := by simpa using h
  rw [j1f fun e => hn.1 (by rw [e]; exact List.mem_map.mpr ⟨p, List.mem_of_getElem? hm, rfl⟩)]
  exact j59 hn.2 hm
theorem k6c {κ : Type} {l : List κ} (h : l.Nodup) {i j : Nat} {a : κ} (hi : l[i]? = some a) (hj : l[j]? = some a) : i = j := by
 have h1 := (List.getElem?_eq_some_iff.mp hi).1
 have h2 := (List.getElem?_eq_some_iff.mp hj).1
 have e1 := (List.getElem?_eq_some_iff.mp hi).2
 have e2 := (List.getElem?_eq_some_iff.mp hj).2
 rcases Nat.lt_trichotomy i j with c | c | c
 ·exact absurd (e1.trans e2.symm) (List.pairwise_iff_getElem.mp h i j h1 h2 c)
 ·exact c
 ·exact absurd (e2.trans e1.symm) (List.pairwise_iff_getElem.mp h j i h2 h1 c)
def spLS (c : Int) : Sp := fun vs H Q _ => ∃ (R : Addr) (as : List (Addr × Addr)) (n : Net), vs = [.ref R] ∧ RowsAt H R as n ∧ (n.map (·.1)).Nodup ∧ j02 n ∧ n.length ≤ 1000 ∧ (ties n).length ≤ 1000 ∧
 ∀ (d : Addr) (kvs : List (List Key × V)) (H' : Hp), Same H H' → H d = none → H' d = some (.dT kvs) → (∀ e ∈ ends n, ∃ u, valV kvs (key n e) = some (.ref u) ∧ H' u = some (TN n (go c n e))) → Q (.ref d) H'
section
variable {P : Program} {w : World} {K : PySem.W.Frag} {mg : Str → Option Value} {base : Heap}
abbrev NLs1 : List Str := ["rows", "lists"]
abbrev NLs2 : List Str := ["rows", "lists", "end", "other"]
theorem j91 : NLs2.Nodup := by decide +kernel
theorem scLS : FnScope NLs1 ["rows"] (j0h sLS) := ⟨rfl, rfl, rfl, by decide +kernel, rfl, by decide +kernel, by decide +kernel⟩
theorem q2i {f : Addr} {fd : FuncData} (F : Fun K "left_steps" "left_steps" sLS f fd) (T : Txt mg)
  (GO : Has P w K mg base 2 "other_ends" ["rows"] spOE)
  (GT : Has P w K mg base 2 "turned_left" ["end", "many"] (spTL fun j => j + 1)) :
  FnOk P w K mg base CX0 3 f fd ["rows"] (spLS (1)) := by
 refine F.gb scLS (fun vs H Q E h => ?_) (fun b0 H vs Q E hr h => ?_)
 ·obtain ⟨R, as, n, rfl, _⟩ := h
  rfl
 obtain ⟨R, as, n, rfl, hR, hN, hT, hn, ht, q⟩ := h
 have nd := scLS.nd
 have hal := hR.len
 have hu := hr.u1
 show Run _ _ _ [some (.ref R), none] H
 have keys := j3x n as hal
 have knd : ((j1k n as).map (·.1)).Nodup := by rw [keys]; exact j7b hN
 have klen : (j1k n as).length = n.length := by have := congrArg List.length keys; simpa using this
 refine j0i 1 nd (j5c (j3p rfl) T.tdict PyProof.Rows.boot_dict (j0a (ev_v 0 (j0g ⟨R, as.map (·.1), j1k n as, rfl, ?_, ?_, ?_, ?_, fun dl hdl => ?_⟩))))
 ·rw [List.map_map]
  exact hR.lst
 ·rw [List.length_map, klen, hal]
 ·rw [List.length_map]
  exact j0u (by omega)
 ·intro j t kv h1 h2
  rw [List.getElem?_map, Option.map_eq_some_iff] at h1
  obtain ⟨a, ea, rfl⟩ := h1
  have hj : j < n.length := by have := (List.getElem?_eq_some_iff.mp ea).1; omega
  have e := j34 (List.getElem?_eq_getElem hj) ea
  rw [h2] at e
  cases e
  exact (hR.tup j a n[j] ea (List.getElem?_eq_getElem hj)).1
 have ef : (j1k n as).foldl (fun a p => putK a p.1 p.2) [] = j1k n as := by
  rw [j9q (acc := []) (by rw [List.nil_append]; exact knd), List.nil_append]
 rw [ef]
 have s1 := j0e hdl (.dK (j1k n as))
 have el : (upd H dl (.dK (j1k n as))) dl = some (.dK (j1k n as)) := j0b
 generalize upd H dl (.dK (j1k n as)) = H1 at s1 el
 show Run _ _ _ [some (.ref R), some (.ref dl)] H1
 refine j0p (j7q (j0h sLS) NLs1 NLs2 2 (j9s j00) ?_)
 refine j0t GO hr (j0a (ev_v 0 (j0g ⟨R, as, n, rfl, hR.same s1, hN, hT, hn, ht, fun d kvs H2 s2 nd2 ed val knd2 kks klen2 => ?_⟩)))
 refine ⟨d, kvs, rfl, ed, fun o D hD cl C s₀ H₀ ex => ?_⟩
 have nDd : D ≠ d := fun e => by rw [e, j0b] at hD; cases hD
 have hD2 : H2 D = none := by rw [j0c nDd] at hD; exact hD
 have hd0 : H d = none := j1i s1 nd2
 have sB : Same H (upd H2 d (.frz o (.dT kvs))) := j01 (s1.trans s2) hd0
 have kB : ∀ b o', b ≠ d → H2 b = some o' → (upd H2 d (.frz o (.dT kvs))) b = some o' := fun b o' hb h => by rw [j0c hb]; exact h
 have tB : ∀ b p j, H2 b = some (Tn p j) → (upd H2 d (.frz o (.dT kvs))) b = some (Tn p j) := fun b p j h => kB b _ (j1q h ed) h
 have edB : (upd H2 d (.frz o (.dT kvs))) d = some (.frz o (.dT kvs)) := j0b
 have elB : (upd H2 d (.frz o (.dT kvs))) dl = some (.dK (j1k n as)) := kB _ _ (fun e => by rw [e, nd2] at el; cases el) (s2 _ _ el)
 have hRB := hR.same sB
 generalize upd H2 d (.frz o (.dT kvs)) = HB at hD sB tB edB elB hRB
 have hD0 := j1i sB hD
 refine j38 (fun i σ' H' => (∃ v1 v2, σ' = [some (.ref R), some (.ref dl)] ++ [v1, v2]) ∧ ∃ kv2 : List (List Key × V), H' D = some (.dT kv2) ∧ kv2.length ≤ i ∧ Same HB H' ∧
  (∀ j k x e, j < i → kvs[j]? = some (k, x) → e ∈ ends n → k = key n e → ∃ u, valV kv2 (key n e) = some (.ref u) ∧ H' u = some (TN n (go (1) n e))))
  ⟨⟨none, none, rfl⟩, [], j0b, Nat.le_refl _, j0e hD _, fun j k x e h => absurd h (Nat.not_lt_zero _)⟩ ?_ ?_ ?_
 ·rintro i σ' H' _ ⟨_, _, _, _, sm, _⟩
  exact sm _ _ edB
 ·rintro i k x b Tt σ' H' hx ⟨⟨v1, v2, rfl⟩, kv2, eD, l2, sm, all⟩ hb hTt
  have hi : i < kvs.length := (List.getElem?_eq_some_iff.mp hx).1
  obtain ⟨e, he, rfl⟩ := kks k (List.mem_map.mpr ⟨_, List.mem_of_getElem? hx, rfl⟩)
  obtain ⟨u, hv, hu2⟩ := val e he
  have hx2 : valV kvs (key n e) = some x := j59 knd2 hx
  rw [hv] at hx2
  cases hx2
  have hob := j1z hT he
  obtain ⟨zo, hzo⟩ := mem_ends.mp hob
  have hrl := j1h hzo
  have hel := j3g hzo
  have nmE : nameAt n (other n e).1 = n[(other n e).1].1 := j18 hrl
  have sT := j0e hTt (.tup [.ref b, .ref u])
  have huT := sT _ _ (sm _ _ (tB _ _ _ hu2))
  refine j2a rfl (SqT.of j0b) (j0j 2 j91 (j0j 3 j91 ?_))
  refine j3q ?_
  rw [if_pos rfl]
  have eai : as[(other n e).1]? = some (as[(other n e).1]'(by omega)) := List.getElem?_eq_getElem (by omega)
  have hni : n[(other n e).1]? = some n[(other n e).1] := List.getElem?_eq_getElem hrl
  have ev : valV (j1k n as) (Sum.inr (nameAt n (other n e).1)) = some (.ref (as[(other n e).1]'(by omega)).2) := by rw [nmE]; exact j8h knd (j34 hni eai)
  have hrow := (hR.tup _ _ _ eai hni).2
  have erow : row n (other n e).1 = n[(other n e).1].2 := j3r hrl
  refine j5j hu (ev_v 2 (j0t GT hr (j0a (ev_v 3 (j0a (j06 j0m T.len boot_len (j0a (j07 hu (ev_v 1 (j0r j0z (ev_v 3 (j0f ⟨u, _, _, .str (nameAt n (other n e).1), rfl, rfl, SqT.of huT, rfl, ?_⟩))))))))))))
  refine ⟨dl, .ref (as[(other n e).1]'(by omega)).2, rfl, by rw [← ev]; exact DGet.k (k := Sum.inr (nameAt n (other n e).1)) (sT _ _ (sm _ _ elB)), j0g ⟨_, _, rfl, .inl (SqL.of (sT _ _ (sm _ _ (sB _ _ hrow)))), j0g ⟨u, _, _, _, rfl, huT, ?_, fun t2 H4 s4 et2 => ?_⟩⟩⟩
  ·rw [List.length_map, ← erow]
   omega
  rw [List.length_map, ← erow] at et2
  have et3 : H4 t2 = some (TN n (go (1) n e)) := by
   rw [et2]
   have := j5q (c := 1) hob
   show some (Tn _ _) = some (Tn _ (((go (1) n e).2 : Nat) : Int))
   unfold go
   rw [this]
   rfl
  have hb4 := s4 _ _ (sT _ _ hb)
  refine ⟨_, DPut.t (k := key n e) (s4 _ _ (sT _ _ eD)) hb4 (j0u (by omega)), ⟨_, _, rfl⟩, _, j0b, ?_, j01 ((sm.trans sT).trans s4) hD, fun j k' x' e' hj hx' he' hk' => ?_⟩
  ·have := j0y kv2 (key n e) (.ref t2)
   omega
  ·subst hk'
   by_cases hji : j = i
   ·subst hji
    rw [hx] at hx'
    have hke : key n e = key n e' := congrArg Prod.fst (Option.some.inj hx')
    obtain ⟨z1, hz1⟩ := mem_ends.mp he
    obtain ⟨z2, hz2⟩ := mem_ends.mp he'
    have := j3v hN (j1h hz1) (j1h hz2) hke
    subst this
    exact ⟨t2, by rw [j0q, if_pos rfl], by rw [j0c (j1q et3 (s4 _ _ (sT _ _ eD)))]; exact et3⟩
   ·obtain ⟨u3, hu3, hu4⟩ := all j _ x' e' (by omega) hx' he' rfl
    refine ⟨u3, ?_, ?_⟩
    ·rw [j0q, if_neg, hu3]
     intro hk
     have h1 : (kvs.map (·.1))[j]? = some (key n e') := by rw [List.getElem?_map, hx']; rfl
     have h2 : (kvs.map (·.1))[i]? = some (key n e') := by rw [List.getElem?_map, hx, hk]; rfl
     exact hji (k6c knd2 h1 h2)
    ·have q4 := s4 _ _ (sT _ _ hu4)
     rw [j0c (j1q q4 (s4 _ _ (sT _ _ eD)))]
     exact q4
 ·rintro σ' H' ⟨_, kv2, eD, _, sm, all⟩
  refine q D kv2 H' (sB.trans sm) hD0 eD fun e he => ?_
  obtain ⟨u, hv, _⟩ := val e he
  obtain ⟨i, hi⟩ : ∃ i : Nat, (kvs.map (·.1))[i]? = some (key n e) := List.getElem?_of_mem (j8n hv)
  rw [List.getElem?_map, Option.map_eq_some_iff] at hi
  obtain ⟨⟨k, x⟩, hx, hk⟩ := hi
  exact all i k x e (List.getElem?_eq_some_iff.mp hx).1 hx he hk
theorem scRS : FnScope NLs1 ["rows"] (j0h sRS) := ⟨rfl, rfl, rfl, by decide +kernel, rfl, by decide +kernel, by decide +kernel⟩
theorem q2k {f : Addr} {fd : FuncData} (F : Fun K "right_steps" "right_steps" sRS f fd) (T : Txt mg)
  (GO : Has P w K mg base 2 "other_ends" ["rows"] spOE)
  (GT : Has P w K mg base 2 "turned_right" ["end", "many"] (spTL fun j => j - 1)) :
  FnOk P w K mg base CX0 3 f fd ["rows"] (spLS (-1)) := by
 refine F.gb scRS (fun vs H Q E h => ?_) (fun b0 H vs Q E hr h => ?_)
 ·obtain ⟨R, as, n, rfl, _⟩ := h
  rfl
 obtain ⟨R, as, n, rfl, hR, hN, hT, hn, ht, q⟩ := h
 have nd := scRS.nd
 have hal := hR.len
 have hu := hr.u1
 show Run _ _ _ [some (.ref R), none] H
 have keys := j3x n as hal
 have knd : ((j1k n as).map (·.1)).Nodup := by rw [keys]; exact j7b hN
 have klen : (j1k n as).length = n.length := by have := congrArg List.length keys; simpa using this
 refine j0i 1 nd (j5c (j3p rfl) T.tdict PyProof.Rows.boot_dict (j0a (ev_v 0 (j0g ⟨R, as.map (·.1), j1k n as, rfl, ?_, ?_, ?_, ?_, fun dl hdl => ?_⟩))))
 ·rw [List.map_map]
  exact hR.lst
 ·rw [List.length_map, klen, hal]
 ·rw [List.length_map]
  exact j0u (by omega)
 ·intro j t kv h1 h2
  rw [List.getElem?_map, Option.map_eq_some_iff] at h1
  obtain ⟨a, ea, rfl⟩ := h1
  have hj : j < n.length := by have := (List.getElem?_eq_some_iff.mp ea).1; omega
  have e := j34 (List.getElem?_eq_getElem hj) ea
  rw [h2] at e
  cases e
  exact (hR.tup j a n[j] ea (List.getElem?_eq_getElem hj)).1
 have ef : (j1k n as).foldl (fun a p => putK a p.1 p.2) [] = j1k n as := by
  rw [j9q (acc := []) (by rw [List.nil_append]; exact knd), List.nil_append]
 rw [ef]
 have s1 := j0e hdl (.dK (j1k n as))
 have el : (upd H dl (.dK (j1k n as))) dl = some (.dK (j1k n as)) := j0b
 generalize upd H dl (.dK (j1k n as)) = H1 at s1 el
 show Run _ _ _ [some (.ref R), some (.ref dl)] H1
 refine j0p (j7q (j0h sRS) NLs1 NLs2 2 (j9s j00) ?_)
 refine j0t GO hr (j0a (ev_v 0 (j0g ⟨R, as, n, rfl, hR.same s1, hN, hT, hn, ht, fun d kvs H2 s2 nd2 ed val knd2 kks klen2 => ?_⟩)))
 refine ⟨d, kvs, rfl, ed, fun o D hD cl C s₀ H₀ ex => ?_⟩
 have nDd : D ≠ d := fun e => by rw [e, j0b] at hD; cases hD
 have hD2 : H2 D = none := by rw [j0c nDd] at hD; exact hD
 have hd0 : H d = none := j1i s1 nd2
 have sB : Same H (upd H2 d (.frz o (.dT kvs))) := j01 (s1.trans s2) hd0
 have kB : ∀ b o', b ≠ d → H2 b = some o' → (upd H2 d (.frz o (.dT kvs))) b = some o' := fun b o' hb h => by rw [j0c hb]; exact h
 have tB : ∀ b p j, H2 b = some (Tn p j) → (upd H2 d (.frz o (.dT kvs))) b = some (Tn p j) := fun b p j h => kB b _ (j1q h ed) h
 have edB : (upd H2 d (.frz o (.dT kvs))) d = some (.frz o (.dT kvs)) := j0b
 have elB : (upd H2 d (.frz o (.dT kvs))) dl = some (.dK (j1k n as)) := kB _ _ (fun e => by rw [e, nd2] at el; cases el) (s2 _ _ el)
 have hRB := hR.same sB
 generalize upd H2 d (.frz o (.dT kvs)) = HB at hD sB tB edB elB hRB
 have hD0 := j1i sB hD
 refine j38 (fun i σ' H' => (∃ v1 v2, σ' = [some (.ref R), some (.ref dl)] ++ [v1, v2]) ∧ ∃ kv2 : List (List Key × V), H' D = some (.dT kv2) ∧ kv2.length ≤ i ∧ Same HB H' ∧
  (∀ j k x e, j < i → kvs[j]? = some (k, x) → e ∈ ends n → k = key n e → ∃ u, valV kv2 (key n e) = some (.ref u) ∧ H' u = some (TN n (go (-1) n e))))
  ⟨⟨none, none, rfl⟩, [], j0b, Nat.le_refl _, j0e hD _, fun j k x e h => absurd h (Nat.not_lt_zero _)⟩ ?_ ?_ ?_
 ·rintro i σ' H' _ ⟨_, _, _, _, sm, _⟩
  exact sm _ _ edB
 ·rintro i k x b Tt σ' H' hx ⟨⟨v1, v2, rfl⟩, kv2, eD, l2, sm, all⟩ hb hTt
  have hi : i < kvs.length := (List.getElem?_eq_some_iff.mp hx).1
  obtain ⟨e, he, rfl⟩ := kks k (List.mem_map.mpr ⟨_, List.mem_of_getElem? hx, rfl⟩)
  obtain ⟨u, hv, hu2⟩ := val e he
  have hx2 : valV kvs (key n e) = some x := j59 knd2 hx
  rw [hv] at hx2
  cases hx2
  have hob := j1z hT he
  obtain ⟨zo, hzo⟩ := mem_ends.mp hob
  have hrl := j1h hzo
  have hel := j3g hzo
  have nmE : nameAt n (other n e).1 = n[(other n e).1].1 := j18 hrl
  have sT := j0e hTt (.tup [.ref b, .ref u])
  have huT := sT _ _ (sm _ _ (tB _ _ _ hu2))
  refine j2a rfl (SqT.of j0b) (j0j 2 j91 (j0j 3 j91 ?_))
  refine j3q ?_
  rw [if_pos rfl]
  have eai : as[(other n e).1]? = some (as[(other n e).1]'(by omega)) := List.getElem?_eq_getElem (by omega)
  have hni : n[(other n e).1]? = some n[(other n e).1] := List.getElem?_eq_getElem hrl
  have ev : valV (j1k n as) (Sum.inr (nameAt n (other n e).1)) = some (.ref (as[(other n e).1]'(by omega)).2) := by rw [nmE]; exact j8h knd (j34 hni eai)
  have hrow := (hR.tup _ _ _ eai hni).2
  have erow : row n (other n e).1 = n[(other n e).1].2 := j3r hrl
  refine j5j hu (ev_v 2 (j0t GT hr (j0a (ev_v 3 (j0a (j06 j0m T.len boot_len (j0a (j07 hu (ev_v 1 (j0r j0z (ev_v 3 (j0f ⟨u, _, _, .str (nameAt n (other n e).1), rfl, rfl, SqT.of huT, rfl, ?_⟩))))))))))))
  refine ⟨dl, .ref (as[(other n e).1]'(by omega)).2, rfl, by rw [← ev]; exact DGet.k (k := Sum.inr (nameAt n (other n e).1)) (sT _ _ (sm _ _ elB)), j0g ⟨_, _, rfl, .inl (SqL.of (sT _ _ (sm _ _ (sB _ _ hrow)))), j0g ⟨u, _, _, _, rfl, huT, ?_, fun t2 H4 s4 et2 => ?_⟩⟩⟩
  ·rw [List.length_map, ← erow]
   omega
  rw [List.length_map, ← erow] at et2
  have et3 : H4 t2 = some (TN n (go (-1) n e)) := by
   rw [et2]
   have := j5q (c := -1) hob
   show some (Tn _ _) = some (Tn _ (((go (-1) n e).2 : Nat) : Int))
   unfold go
   rw [this]
   rfl
  have hb4 := s4 _ _ (sT _ _ hb)
  refine ⟨_, DPut.t (k := key n e) (s4 _ _ (sT _ _ eD)) hb4 (j0u (by omega)), ⟨_, _, rfl⟩, _, j0b, ?_, j01 ((sm.trans sT).trans s4) hD, fun j k' x' e' hj hx' he' hk' => ?_⟩
  ·have := j0y kv2 (key n e) (.ref t2)
   omega
  ·subst hk'
   by_cases hji : j = i
   ·subst hji
    rw [hx] at hx'
    have hke : key n e = key n e' := congrArg Prod.fst (Option.some.inj hx')
    obtain ⟨z1, hz1⟩ := mem_ends.mp he
    obtain ⟨z2, hz2⟩ := mem_ends.mp he'
    have := j3v hN (j1h hz1) (j1h hz2) hke
    subst this
    exact ⟨t2, by rw [j0q, if_pos rfl], by rw [j0c (j1q et3 (s4 _ _ (sT _ _ eD)))]; exact et3⟩
   ·obtain ⟨u3, hu3, hu4⟩ := all j _ x' e' (by omega) hx' he' rfl
    refine ⟨u3, ?_, ?_⟩
    ·rw [j0q, if_neg, hu3]
     intro hk
     have h1 : (kvs.map (·.1))[j]? = some (key n e') := by rw [List.getElem?_map, hx']; rfl
     have h2 : (kvs.map (·.1))[i]? = some (key n e') := by rw [List.getElem?_map, hx, hk]; rfl
     exact hji (k6c knd2 h1 h2)
    ·have q4 := s4 _ _ (sT _ _ hu4)
     rw [j0c (j1q q4 (s4 _ _ (sT _ _ eD)))]
     exact q4
 ·rintro σ' H' ⟨_, kv2, eD, _, sm, all⟩
  refine q D kv2 H' (sB.trans sm) hD0 eD fun e he => ?_
  obtain ⟨u, hv, _⟩ := val e he
  obtain ⟨i, hi⟩ : ∃ i : Nat, (kvs.map (·.1))[i]? = some (key n e) := List.getElem?_of_mem (j8n hv)
  rw [List.getElem?_map, Option.map_eq_some_iff] at hi
  obtain ⟨⟨k, x⟩, hx, hk⟩ := hi
  exact all i k x e (List.getElem?_eq_some_iff.mp hx).1 hx he hk
end
end D4
namespace D4
open PySem L2 Nt Sort2
def AtE (n : Net) (H : Hp) (ts : List Addr) (es : List Nt.End) : Prop := ts.length = es.length ∧ ∀ (j : Nat) t e, ts[j]? = some t → es[j]? = some e → H t = some (TN n e)
theorem AtE.keep {n : Net} {H H' : Hp} {ts : List Addr} {es : List Nt.End} (h : AtE n H ts es) (k : ∀ t p j, H t = some (Tn p j) → H' t = some (Tn p j)) : AtE n H' ts es := ⟨h.1, fun j t e h1 h2 => k _ _ _ (h.2 j t e h1 h2)⟩
theorem AtE.same {n : Net} {H H' : Hp} {ts : List Addr} {es : List Nt.End} (h : AtE n H ts es) (s : Same H H') : AtE n H' ts es := h.keep fun _ _ _ q => s _ _ q
theorem AtE.append {n : Net} {H : Hp} {ts us : List Addr} {es fs : List Nt.End} (h : AtE n H ts es) (g : AtE n H us fs) : AtE n H (ts ++ us) (es ++ fs) := by
 refine ⟨by rw [List.length_append, List.length_append, h.1, g.1], fun j t e h1 h2 => ?_⟩
 have hl := h.1
 by_cases hj : j < ts.length
 ·rw [List.getElem?_append_left hj] at h1
  rw [List.getElem?_append_left (by omega)] at h2
  exact h.2 j t e h1 h2
 ·rw [List.getElem?_append_right (by omega)] at h1 h2
  rw [← hl] at h2
  exact g.2 _ t e h1 h2
theorem AtE.two {n : Net} {H : Hp} {t u : Addr} {a b : Nt.End} (h1 : H t = some (TN n a)) (h2 : H u = some (TN n b)) : AtE n H [t, u] [a, b] := ⟨rfl, fun j x e h3 h4 => by
 match j with
 | 0 => cases h3; cases h4; exact h1
 | 1 => cases h3; cases h4; exact h2
 | j + 2 => simp at h3⟩
theorem q19 {n : Net} (hN : (n.map (·.1)).Nodup) {a b : Nt.End} (ha : a ∈ ends n) (hb : b ∈ ends n) : decide (nameAt n a.1 = nameAt n b.1 ∧ (a.2 : Int) = (b.2 : Int)) = decide (a = b) := by
 obtain ⟨z1, h1⟩ := mem_ends.mp ha
 obtain ⟨z2, h2⟩ := mem_ends.mp hb
 refine decide_eq_decide.mpr ⟨fun ⟨p, q⟩ => j3v hN (j1h h1) (j1h h2) (by unfold key; rw [p, q]), fun e => by rw [e]; exact ⟨rfl, rfl⟩⟩
theorem ty_l {K : PySem.W.Frag} {H : Hp} {d : Addr} {xs : List V} (h : H d = some (.lst xs)) : tyV K "list" (.ref d) H := Or.inl ⟨rfl, xs, SqL.of h⟩
def StepAt (n : Net) (H : Hp) (d : Addr) (c : Int) : Prop := ∃ kvs, H d = some (.dT kvs) ∧ ∀ e ∈ ends n, ∃ u, valV kvs (key n e) = some (.ref u) ∧ H u = some (TN n (go c n e))
theorem StepAt.same {n : Net} {H H' : Hp} {d : Addr} {c : Int} (h : StepAt n H d c) (s : Same H H') : StepAt n H' d c := let ⟨kvs, h1, h2⟩ := h; ⟨kvs, s _ _ h1, fun e he => let ⟨u, a, b⟩ := h2 e he; ⟨u, a, s _ _ b⟩⟩
theorem StepAt.get {n : Net} {H : Hp} {d t : Addr} {c : Int} {e : Nt.End} (h : StepAt n H d c) (he : e ∈ ends n) (ht : H t = some (TN n e)) : ∃ u, DGet H d (.ref t) (some (.ref u)) ∧ H u = some (TN n (go c n e)) := by
 obtain ⟨kvs, h1, h2⟩ := h
 obtain ⟨u, a, b⟩ := h2 e he
 exact ⟨u, by rw [← a]; exact DGet.t (k := key n e) h1 ht, b⟩
def spWF : Sp := fun vs H Q _ => ∃ (dl dr t : Addr) (n : Net) (e : Nt.End), vs = [.ref dl, .ref dr, .ref t] ∧ StepAt n H dl 1 ∧ StepAt n H dr (-1) ∧ (n.map (·.1)).Nodup ∧ j02 n ∧ (ties n).length ≤ 1000 ∧ e ∈ ends n ∧ H t = some (TN n e) ∧
 ∀ (l : Addr) (ts : List Addr) (k : Nat) (H' : Hp), Same H H' → H l = none → H' l = some (.lst (ts.map V.ref)) → AtE n H' ts (wk n e k) → Per n e k → k ≤ (ends n).length → Q (.ref l) H'
section
variable {P : Program} {w : World} {K : PySem.W.Frag} {mg : Str → Option Value} {base : Heap}
abbrev NWf : List Str := ["lefts", "rights", "first", "walker", "end"]
theorem scWF : FnScope NWf ["lefts", "rights", "first"] (j0h sWkF) := ⟨rfl, rfl, rfl, by decide +kernel, rfl, by decide +kernel, by decide +kernel⟩
theorem map2 (ts : List Addr) (a b : Addr) : ts.map V.ref ++ [V.ref a, V.ref b] = (ts ++ [a]).map V.ref ++ [V.ref b] := by rw [List.map_append, List.append_assoc]; rfl
theorem q2a {f : Addr} {fd : FuncData} (F : Fun K "walker_from" "walker_from" sWkF f fd) (T : Txt mg) : FnOk P w K mg base CX0 1 f fd ["lefts", "rights", "first"] spWF := by
 refine F.gb scWF (fun vs H Q E h => ?_) (fun b0 H vs Q E hr h => ?_)
 ·obtain ⟨dl, dr, t, n, e, rfl, _⟩ := h
  rfl
 obtain ⟨dl, dr, t, n, e, rfl, hL, hRt, hN, hT, hti, he, ht, q⟩ := h
 have nd := scWF.nd
 have hel := j4x n
 have hu := hr.u1
 have un := hr.u100
 obtain ⟨k, k0, k1, k2⟩ := j4d (f := two n) (S := ends n) (fun a ha => j6y hT ha) (fun a ha b hb => k2z hT ha hb) he
 obtain ⟨u1, g1, e1⟩ := hL.get he ht
 show Run _ _ _ [some (.ref dl), some (.ref dr), some (.ref t), none, none] H
 refine j0i 3 nd (j1p (j0a (ev_v 2 (j0a (j07 hu (ev_v 0 (ev_v 2 ⟨dl, .ref u1, rfl, g1, j0g ⟨(by show 2 ≤ sizeLine; decide), fun l hl => ?_⟩⟩)))))))
 have s1 := j0e hl (.lst [.ref t, .ref u1])
 have el : (upd H l (.lst [.ref t, .ref u1])) l = some (.lst ([t, u1].map V.ref)) := j0b
 generalize upd H l (.lst [.ref t, .ref u1]) = H1 at s1 el
 obtain ⟨u2, g2, e2⟩ := (hRt.same s1).get (j49 hT he) (s1 _ _ e1)
 refine j0i 4 nd (j07 hu (ev_v 1 (j0r j0x (ev_v 3 (q0i k6l (j0f ⟨1, rfl, l, _, _, .ref u1, rfl, rfl, SqL.of el, rfl, dr, .ref u2, rfl, g2, ?_⟩))))))
 show Run _ _ _ [some (.ref dl), some (.ref dr), some (.ref t), some (.ref l), some (.ref u2)] H1
 refine j3d (fun m σ H2 => ∃ (j : Nat) (ts : List Addr) (u : Addr), m = k - j ∧ 0 < j ∧ j ≤ k ∧ Same H H2 ∧ H2 l = some (.lst (ts.map V.ref)) ∧ AtE n H2 ts (wk n e j) ∧ H2 u = some (TN n (it (two n) j e)) ∧ (∀ i, 0 < i → i < j → it (two n) i e ≠ e) ∧ σ = [some (.ref dl), some (.ref dr), some (.ref t), some (.ref l), some (.ref u)])
  (m0 := k - 1) ⟨1, [t, u1], u2, rfl, Nat.one_pos, k0, s1, el, AtE.two (s1 _ _ ht) (s1 _ _ e1), e2, fun i h1 h2 => by omega, rfl⟩ ?_
 rintro m σ H2 ⟨j, ts, u, rfl, j0, j1, sH, el2, at2, eu, hf, rfl⟩
 have hje : it (two n) j e ∈ ends n := j4r (fun a ha => j6y hT ha) he j
 refine j1e (j7o un) (ev_v 4 (ev_v 2 ⟨1, _, by decide, k9l eu (sH _ _ ht), _, rfl, ?_⟩))
 rw [q19 hN hje he]
 have tl := at2.1
 rw [j7w] at tl
 by_cases c : it (two n) j e = e
 ·rw [decide_eq_true c]
  exact iteF (j0p (ev_v 3 (q l ts j H2 sH hl el2 at2 ⟨j0, c, hf⟩ (by omega))))
 ·rw [decide_eq_false c]
  have jk : j < k := by
   rcases Nat.lt_or_ge j k with h | h
   ·exact h
   ·have : j = k := by omega
    subst this
    exact absurd k2 c
  obtain ⟨v1, g3, e3⟩ := (hL.same sH).get hje eu
  refine iteT (j1m (k7p PySem.F.plainAttrs_list PySem.F.slot_list_extend PySem.F.type_list_extend k16 (ev_v 3 (v := .ref l) ⟨ty_l el2, j1p (j0a (ev_v 4 (j0a (j07 hu (ev_v 0 (ev_v 4 ⟨dl, .ref v1, rfl, g3, j0g ⟨(by show 2 ≤ sizeLine; decide), fun p hp => ?_⟩⟩))))))⟩)))
  have s3 := j0e hp (.lst [.ref u, .ref v1])
  have nlp : l ≠ p := j0d el2 hp
  refine ⟨l, p, ts.map V.ref, [.ref u, .ref v1], rfl, rfl, s3 _ _ el2, j0b, small (by rw [List.length_map]; show _ + 2 ≤ 100000; omega), ?_⟩
  have sH3 : Same H (upd (upd H2 p (.lst [.ref u, .ref v1])) l (.lst (ts.map V.ref ++ [.ref u, .ref v1]))) := j01 (sH.trans s3) hl
  have el3 : (upd (upd H2 p (.lst [.ref u, .ref v1])) l (.lst (ts.map V.ref ++ [.ref u, .ref v1]))) l = some (.lst ((ts ++ [u, v1]).map V.ref)) := by rw [j0b, List.map_append]; rfl
  have kt : ∀ b p' j', H2 b = some (Tn p' j') → (upd (upd H2 p (.lst [.ref u, .ref v1])) l (.lst (ts.map V.ref ++ [.ref u, .ref v1]))) b = some (Tn p' j') := fun b p' j' h => by
   rw [j0c (j1j h el2 fun z => nomatch z)]
   exact s3 _ _ h
  generalize upd (upd H2 p (.lst [.ref u, .ref v1])) l (.lst (ts.map V.ref ++ [.ref u, .ref v1])) = H3 at sH3 el3 kt
  obtain ⟨v2, g4, e4⟩ := (hRt.same sH3).get (j49 hT hje) (kt _ _ _ e3)
  refine j0i 4 nd (j07 hu (ev_v 1 (j0r j0x (ev_v 3 (q0i k6l (j0f ⟨1, rfl, l, _, _, .ref v1, rfl, rfl, SqL.of el3, ?_, dr, .ref v2, rfl, g4, ?_⟩))))))
  ·rw [List.map_append]
   show atI (ts.map V.ref ++ [V.ref u, V.ref v1]) (-1) = _
   rw [map2]
   exact k46 _ _
  refine j0l ⟨k - (j + 1), by omega, j + 1, ts ++ [u, v1], v2, rfl, Nat.succ_pos _, jk, sH3, el3, (at2.keep kt).append (AtE.two (kt _ _ _ eu) (kt _ _ _ e3)), e4, fun i h1 h2 => ?_, rfl⟩
  by_cases hij : i = j
  ·subst hij
   exact c
  ·exact hf i h1 (by omega)
end
end D4
namespace D4
open PySem L2 Nt Sort2 SetT
theorem j7f {α β : Type} (f : α → β) : ∀ xs : List α, evens (xs.map f) = (evens xs).map f
 | [] => rfl
 | [a] => rfl
 | a :: b :: r => by
  show f a :: evens (r.map f) = f a :: (evens r).map f
  rw [j7f f r]
theorem AtE.evens {n : Net} {H : Hp} {ts : List Addr} {es : List Nt.End} (h : AtE n H ts es) : AtE n H (L2.evens ts) (L2.evens es) := by
 refine ⟨by rw [j3i, j3i, h.1], fun j t e h1 h2 => ?_⟩
 rw [j4z] at h1 h2
 exact h.2 _ t e h1 h2
theorem j4o {P : Program} {w : World} {H : Hp} {a d : Addr} {o : HO} {zs : List Str} (h : H a = some o) (g : H d = some (SetO P w d zs)) (ho : ∀ φ, o ≠ .ext φ) : a ≠ d := fun e => by
 rw [e, g] at h
 exact ho _ (Option.some.inj h).symm
structure WAt (n : Net) (H : Hp) (L : Addr) (ls : List Addr) (ws : List (List Nt.End)) : Prop where
 lst : H L = some (.lst (ls.map V.ref))
 len : ls.length = ws.length
 nod : ls.Nodup
 out : L ∉ ls
 at' : ∀ (j : Nat) l w, ls[j]? = some l → ws[j]? = some w → ∃ ts, H l = some (.lst (ts.map V.ref)) ∧ AtE n H ts w
theorem WAt.same {n : Net} {H H' : Hp} {L : Addr} {ls : List Addr} {ws : List (List Nt.End)} (h : WAt n H L ls ws) (s : Same H H') : WAt n H' L ls ws :=
 ⟨s _ _ h.lst, h.len, h.nod, h.out, fun j l w h1 h2 => let ⟨ts, a, b⟩ := h.at' j l w h1 h2; ⟨ts, s _ _ a, b.same s⟩⟩
theorem WAt.keep {n : Net} {H H' : Hp} {L : Addr} {ls : List Addr} {ws : List (List Nt.End)} (h : WAt n H L ls ws) (hL : H' L = H L) (kl : ∀ l ∈ ls, ∀ o, H l = some o → H' l = some o) (kt : ∀ t p j, H t = some (Tn p j) → H' t = some (Tn p j)) : WAt n H' L ls ws :=
 ⟨by rw [hL]; exact h.lst, h.len, h.nod, h.out, fun j l w h1 h2 => let ⟨ts, a, b⟩ := h.at' j l w h1 h2; ⟨ts, kl l (List.mem_of_getElem? h1) _ a, b.keep kt⟩⟩
theorem WAt.snoc {n : Net} {H H' : Hp} {L l : Addr} {ls ts : List Addr} {ws : List (List Nt.End)} {v : List Nt.End} (h : WAt n H L ls ws) (hL : H' L = some (.lst (ls.map V.ref ++ [.ref l]))) (kl : ∀ l ∈ ls, ∀ o, H l = some o → H' l = some o) (kt : ∀ t p j, H t = some (Tn p j) → H' t = some (Tn p j))
  (hl : H' l = some (.lst (ts.map V.ref))) (hv : AtE n H' ts v) (hn : l ∉ ls) (hLl : L ≠ l) : WAt n H' L (ls ++ [l]) (ws ++ [v]) := by
 refine ⟨by rw [hL, List.map_append]; rfl, by rw [List.length_append, List.length_append, h.len]; rfl, j23 h.nod hn, fun hm => ?_, fun j a x h1 h2 => ?_⟩
 ·rcases List.mem_append.mp hm with hm | hm
  ·exact h.out hm
  ·exact hLl (List.mem_singleton.mp hm)
 ·have hlen := h.len
  by_cases hj : j < ls.length
  ·rw [List.getElem?_append_left hj] at h1
   rw [List.getElem?_append_left (by omega)] at h2
   obtain ⟨us, q1, q2⟩ := h.at' j a x h1 h2
   exact ⟨us, kl a (List.mem_of_getElem? h1) _ q1, q2.keep kt⟩
  ·rw [List.getElem?_append_right (by omega)] at h1 h2
   have hj2 : j - ls.length = 0 := by
    have := (List.getElem?_eq_some_iff.mp h1).1
    simp at this
    omega
   rw [hj2] at h1
   rw [← hlen, hj2] at h2
   cases h1
   cases h2
   exact ⟨ts, hl, hv⟩
def k8m : Sp := fun vs H Q _ => ∃ (R : Addr) (as : List (Addr × Addr)) (n : Net), vs = [.ref R] ∧ RowsAt H R as n ∧ (n.map (·.1)).Nodup ∧ j02 n ∧ n.length ≤ 1000 ∧ (ties n).length ≤ 400 ∧
 ∀ (L : Addr) (ls : List Addr) (H' : Hp), Same H H' → H L = none → WAt n H' L ls (wks n (ends n) []) → (∀ l ∈ ls, H l = none) → Q (.ref L) H'
theorem k8c {n : Net} {i : Nat} {p : Str × Nt.End} (h : (j0w n)[i]? = some p) : (ends n)[i]? = some p.2 := by unfold ends; rw [List.getElem?_map, h]; rfl
section
variable {P : Program} {w : World} {K : PySem.W.Frag} {mg : Str → Option Value} {base : Heap}
abbrev NWs : List Str := ["rows", "lefts", "rights", "names", "told", "walkers", "first", "walker", "end"]
theorem scWs : FnScope NWs ["rows"] (j0h sWks) := ⟨rfl, rfl, rfl, by decide +kernel, rfl, by decide +kernel, by decide +kernel⟩
theorem k9d {f : Addr} {fd : FuncData} (F : Fun K "walkers_of" "walkers_of" sWks f fd) (T : Txt mg)
  (GL : Has P w K mg base 3 "left_steps" ["rows"] (spLS 1))
  (GR : Has P w K mg base 3 "right_steps" ["rows"] (spLS (-1)))
  (GN : Has P w K mg base 3 "ties_by_end" ["rows"] spBE)
  (GO : Has P w K mg base 3 "ends_in_order" ["rows"] k7m)
  (GW : Has P w K mg base 3 "walker_from" ["lefts", "rights", "first"] spWF) :
  FnOk P w K mg base CX0 4 f fd ["rows"] k8m := by
 refine F.gb scWs (fun vs H Q E h => ?_) (fun b0 H vs Q E hr h => ?_)
 ·obtain ⟨R, as, n, rfl, _⟩ := h
  rfl
 obtain ⟨R, as, n, rfl, hR, hN, hT, hn, hti, q⟩ := h
 have nd := scWs.nd
 have hel := j4x n
 have hu := hr.u1
 show Run _ _ _ [some (.ref R), none, none, none, none, none, none, none, none] H
 refine j0i 1 nd (j0t GL hr (j0a (ev_v 0 (j0g ⟨R, as, n, rfl, hR, hN, hT, hn, by omega, fun dl kl H1 s1 n1 e1 v1 => ?_⟩))))
 refine j0i 2 nd (j0t GR hr (j0a (ev_v 0 (j0g ⟨R, as, n, rfl, hR.same s1, hN, hT, hn, by omega, fun dr kr H2 s2 n2 e2 v2 => ?_⟩))))
 refine j0i 3 nd (j0t GN hr (j0a (ev_v 0 (j0g ⟨R, as, n, rfl, hR.same (s1.trans s2), hN, hn, by omega, fun dn kn H3 s3 n3 e3 v3 => ?_⟩))))
 refine j0i 4 nd (k8u T.tset fun D hD => ?_)
 refine j0i 5 nd (j1p (j0g ⟨(by show 0 ≤ sizeLine; decide), fun L hL => ?_⟩))
 have hSL : StepAt n H3 dl 1 := StepAt.same ⟨kl, e1, v1⟩ (s2.trans s3)
 have hSR : StepAt n H3 dr (-1) := StepAt.same ⟨kr, e2, v2⟩ s3
 have s123 := (s1.trans s2).trans s3
 have hLD : L ≠ D := fun e => by rw [e, j0b] at hL; cases hL
 have hL3 : H3 L = none := by rw [j0c hLD] at hL; exact hL
 have hD0 := j1i s123 hD
 have hL0 := j1i s123 hL3
 have sB : Same H3 (upd (upd H3 D (SetO P w D [])) L (.lst [])) := (j0e hD _).trans (j0e hL _)
 have eD0 : (upd (upd H3 D (SetO P w D [])) L (.lst [])) D = some (SetO P w D []) := by rw [j0c (Ne.symm hLD), j0b]
 have eL0 : (upd (upd H3 D (SetO P w D [])) L (.lst [])) L = some (.lst []) := j0b
 have sHB := s123.trans sB
 have hSLB := hSL.same sB
 have hSRB := hSR.same sB
 have e3B := sB _ _ e3
 show Run _ _ _ [some (.ref R), some (.ref dl), some (.ref dr), some (.ref dn), some (.ref D), some (.ref L), none, none, none] (upd (upd H3 D (SetO P w D [])) L (.lst []))
 generalize upd (upd H3 D (SetO P w D [])) L (.lst []) = HB at sB eD0 eL0 sHB hSLB hSRB e3B
 refine j2e (j0t GO hr (j0a (ev_v 0 (j0g ⟨R, as, n, rfl, hR.same sHB, hn, by omega, fun U us H5 s5 n5 e5 at5 => ⟨U, rfl, ⟨_, SqL.of e5⟩, ?_⟩⟩))))
 have sH5 := sHB.trans s5
 have eD5 := s5 _ _ eD0
 have eL5 := s5 _ _ eL0
 have hSL5 := hSLB.same s5
 have hSR5 := hSRB.same s5
 have e35 := s5 _ _ e3B
 have nUL : U ≠ L := fun e => by rw [e, eL0] at n5; cases n5
 have lus : us.length = (ends n).length := by rw [at5.1]; unfold ends; rw [List.length_map]
 refine j1x (xs := us.map V.ref) (fun i σ H' => ∃ (zs told : List Str) (ls : List Addr) (ws : List (List Nt.End)) (u1 u2 u3 : Option V), (∀ b o, b ≠ D → b ≠ L → H5 b = some o → H' b = some o) ∧ H' D = some (SetO P w D zs) ∧ zs.Nodup ∧ (∀ z ∈ zs, z ∈ ties n) ∧ (∀ z, z ∈ zs ↔ z ∈ told) ∧
  WAt n H' L ls ws ∧ (∀ l ∈ ls, H5 l = none) ∧ ls.length ≤ i ∧ wks n (ends n) [] = ws ++ wks n ((ends n).drop i) told ∧ σ = [some (.ref R), some (.ref dl), some (.ref dr), some (.ref dn), some (.ref D), some (.ref L), u1, u2, u3])
  ⟨[], [], [], [], _, _, _, fun b o _ _ h => h, eD5, List.nodup_nil, fun z h => by simp at h, fun z => by simp, ⟨eL5, rfl, List.nodup_nil, by simp, fun j l w h => by simp at h⟩, fun l h => by simp at h, Nat.le_refl _, rfl, rfl⟩ ?_ ?_ ?_
 ·rintro i σ H' _ ⟨_, _, _, _, _, _, _, kp, _⟩
  exact SqL.of (kp _ _ (j4o e5 eD5 fun φ z => nomatch z) nUL e5)
 ·rintro i x σ H' hx ⟨zs, told, ls, ws, u1, u2, u3, kp, eD, zn, zt, zm, hW, hf, hli, hwk, rfl⟩
  have hi : i < us.length := by
   have := (List.getElem?_eq_some_iff.mp hx).1
   rw [List.length_map] at this
   exact this
  rw [List.getElem?_map, List.getElem?_eq_getElem hi] at hx
  cases hx
  have hsi : i < (j0w n).length := by have := at5.1; omega
  have ht5 : H5 us[i] = some (TN n (j0w n)[i].2) := at5.2 i us[i] (j0w n)[i] (List.getElem?_eq_getElem hi) (List.getElem?_eq_getElem hsi)
  have hee := k8c (List.getElem?_eq_getElem hsi)
  have htie : j0s n (j0w n)[i].2 = some (j0w n)[i].1 := mem_seats.mp (by have := List.getElem_mem hsi; exact this)
  generalize (j0w n)[i] = pr at ht5 hee htie
  obtain ⟨z, e⟩ := pr
  have ht5 : H5 us[i] = some (TN n e) := ht5
  have htie : j0s n e = some z := htie
  have hee : (ends n)[i]? = some e := hee
  have he : e ∈ ends n := List.mem_of_getElem? hee
  have hdrop : (ends n).drop i = e :: (ends n).drop (i + 1) := by
   have hie : i < (ends n).length := by omega
   rw [List.drop_eq_getElem_cons hie]
   congr 1
   have := List.getElem?_eq_getElem hie
   rw [hee] at this
   exact (Option.some.inj this).symm
  have ktn : ∀ {b p j}, H5 b = some (Tn p j) → H' b = some (Tn p j) := fun {b p j} h => kp _ _ (j4o h eD5 fun φ z => nomatch z) (j1j h eL5 fun z => nomatch z) h
  have ht' := ktn ht5
  have ed' : H' dn = some (.dT kn) := kp _ _ (j4o e35 eD5 fun φ z => nomatch z) (j1j e35 eL5 fun z => nomatch z) e35
  have hst : ∀ {d c}, StepAt n H5 d c → StepAt n H' d c := fun {d c} ⟨kvs, a, b⟩ => ⟨kvs, kp _ _ (j4o a eD5 fun φ z => nomatch z) (j1j a eL5 fun z => nomatch z) a, fun e he => let ⟨u, p, r⟩ := b e he; ⟨u, p, ktn r⟩⟩
  have hd1 : DGet H' dn (.ref us[i]) (some (.str z)) := by rw [← v3 e z htie]; exact DGet.t (k := key n e) ed' ht'
  refine j0j 6 nd ?_
  refine j4b (j1e j77 (j07 hu (ev_v 3 (ev_v 6 ⟨dn, .str z, rfl, hd1, ev_v 4 ⟨z, D, zs, rfl, rfl, eD, _, rfl, ?_⟩⟩))))
  refine ite2 (fun c => ?_) (fun c => ?_)
  ·have hz : z ∉ zs := of_decide_eq_true c
   have hzt : tnm n e ∉ told := by rw [j76 htie]; exact fun h => hz ((zm z).mpr h)
   refine j0i 7 nd (j0t GW hr (j0a (ev_v 1 (j0a (ev_v 2 (j0a (ev_v 6 (j0g ⟨dl, dr, us[i], n, e, rfl, hst hSL5, hst hSR5, hN, hT, by omega, he, ht', fun l ts k H6 s6 n6 e6 at6 pr hk => ?_⟩))))))))
   have hpe := k6b pr
   have hwe : walker n e = wk n e k := by unfold walker; rw [hpe]
   have eL6 := s6 _ _ hW.lst
   have eD6 := s6 _ _ eD
   have nlL : L ≠ l := j0d hW.lst n6
   have nlD : D ≠ l := j0d eD n6
   refine j1m (j1o (ev_v 5 ⟨L, rfl, ⟨_, eL6⟩, ev_v 7 ⟨_, eL6, by rw [List.length_map]; exact j0u (by omega), ?_⟩⟩))
   have k7 : ∀ b o, b ≠ L → H6 b = some o → (upd H6 L (.lst (ls.map V.ref ++ [.ref l]))) b = some o := fun b o hb h => by rw [j0c hb]; exact h
   have eL7 : (upd H6 L (.lst (ls.map V.ref ++ [.ref l]))) L = some (.lst (ls.map V.ref ++ [.ref l])) := j0b
   generalize upd H6 L (.lst (ls.map V.ref ++ [.ref l])) = H7 at k7 eL7
   have kt7 : ∀ t p j, H6 t = some (Tn p j) → H7 t = some (Tn p j) := fun t p j h => k7 _ _ (j1j h eL6 fun z => nomatch z) h
   have e7 := k7 _ _ (Ne.symm nlL) e6
   have eD7 := k7 _ _ (Ne.symm hLD) eD6
   have at7 := at6.keep kt7
   have hnl : l ∉ ls := fun hm => by
    obtain ⟨j, hj⟩ := List.getElem?_of_mem hm
    have hlen := hW.len
    have hjw : j < ws.length := by have := (List.getElem?_eq_some_iff.mp hj).1; omega
    obtain ⟨_, a, _⟩ := hW.at' j l ws[j] hj (List.getElem?_eq_getElem hjw)
    rw [n6] at a
    cases a
   have hW7 : WAt n H7 L (ls ++ [l]) (ws ++ [wk n e k]) := hW.snoc eL7 (fun a ha o ho => k7 _ _ (fun q => hW.out (q ▸ ha)) (s6 _ _ ho)) (fun t p j h => kt7 _ _ _ (s6 _ _ h)) e7 at7 hnl nlL
   have l57 : H5 l = none := by
    cases q5 : H5 l with
    | none => rfl
    | some o => rw [kp _ _ (Ne.symm nlD) (Ne.symm nlL) q5] at n6; cases n6
   have hf7 : ∀ a ∈ ls ++ [l], H5 a = none := fun a ha => by
    rcases List.mem_append.mp ha with ha | ha
    ·exact hf a ha
    ·rw [List.mem_singleton.mp ha]
     exact l57
   have kp7 : ∀ b o, b ≠ D → b ≠ L → H5 b = some o → H7 b = some o := fun b o h1 h2 h => k7 _ _ h2 (s6 _ _ (kp b o h1 h2 h))
   have hll : (ls ++ [l]).length ≤ i + 1 := by rw [List.length_append]; show ls.length + 1 ≤ _; omega
   have hwk7 : wks n (ends n) [] = (ws ++ [wk n e k]) ++ wks n ((ends n).drop (i + 1)) (told ++ (evens (wk n e k)).map (tnm n)) := by
    rw [hwk, hdrop]
    show ws ++ (if tnm n e ∈ told then _ else _) = _
    rw [if_neg hzt, hwe, List.append_assoc]
    rfl
   have hev := j8k hT he k
   refine j2e (k57 (ev_v 7 ⟨l, _, rfl, SqL.of e7, fun p hp => ⟨p, rfl, ⟨_, SqL.of j0b⟩, ?_⟩⟩))
   rw [j7f]
   have s8 := j0e hp (.lst ((evens ts).map V.ref))
   have e8 : (upd H7 p (.lst ((evens ts).map V.ref))) p = some (.lst ((evens ts).map V.ref)) := j0b
   have eD8 := s8 _ _ eD7
   have hW8 := hW7.same s8
   have at8 := (at7.same s8).evens
   have kp8 : ∀ b o, b ≠ D → b ≠ L → H5 b = some o → (upd H7 p (.lst ((evens ts).map V.ref))) b = some o := fun b o h1 h2 h => s8 _ _ (kp7 b o h1 h2 h)
   have ed8 := s8 _ _ (k7 _ _ (j1j ed' hW.lst fun z => nomatch z) (s6 _ _ ed'))
   generalize upd H7 p (.lst ((evens ts).map V.ref)) = H8 at s8 e8 eD8 hW8 at8 kp8 ed8
   have npD : p ≠ D := j4o e8 eD8 fun φ z => nomatch z
   refine j1x (xs := (evens ts).map V.ref) (fun m σ H9 => ∃ (zs' : List Str) (u3 : Option V), (∀ b o, b ≠ D → H8 b = some o → H9 b = some o) ∧ H9 D = some (SetO P w D zs') ∧ zs'.Nodup ∧ (∀ z ∈ zs', z ∈ ties n) ∧ (∀ z, z ∈ zs' ↔ z ∈ told ++ ((evens (wk n e k)).take m).map (tnm n)) ∧
    σ = [some (.ref R), some (.ref dl), some (.ref dr), some (.ref dn), some (.ref D), some (.ref L), some (.ref us[i]), some (.ref l), u3]) ⟨zs, _, fun b o _ h => h, eD8, zn, zt, fun z => by rw [zm z]; simp, rfl⟩ ?_ ?_ ?_
   ·rintro m σ H9 _ ⟨_, _, k9, _⟩
    exact SqL.of (k9 _ _ npD e8)
   ·rintro m x σ H9 hx ⟨zs', u3, k9, eD9, zn', zt', zm', rfl⟩
    have hm : m < (evens ts).length := by
     have := (List.getElem?_eq_some_iff.mp hx).1
     rw [List.length_map] at this
     exact this
    have l8 := at8.1
    rw [List.getElem?_map, List.getElem?_eq_getElem hm] at hx
    cases hx
    have hcm : m < (evens (wk n e k)).length := by omega
    have hc8 := at8.2 m _ _ (List.getElem?_eq_getElem hm) (List.getElem?_eq_getElem hcm)
    have hcw : (evens (wk n e k))[m] ∈ wk n e k := by
     have h1 : (evens (wk n e k))[m]? = some (evens (wk n e k))[m] := List.getElem?_eq_getElem hcm
     rw [j4z] at h1
     exact List.mem_of_getElem? h1
    have hce := hev _ hcw
    obtain ⟨y, hy⟩ := mem_ends.mp hce
    have etk : (evens (wk n e k)).take (m + 1) = (evens (wk n e k)).take m ++ [(evens (wk n e k))[m]] := by rw [List.take_add_one, List.getElem?_eq_getElem hcm]; rfl
    generalize (evens (wk n e k))[m] = c at hc8 hce hy etk
    have hc9 : H9 (evens ts)[m] = some (TN n c) := k9 _ _ (j4o hc8 eD8 fun φ z => nomatch z) hc8
    have ed9 : H9 dn = some (.dT kn) := k9 _ _ (j4o ed8 eD8 fun φ z => nomatch z) ed8
    have hd9 : DGet H9 dn (.ref (evens ts)[m]) (some (.str y)) := by rw [← v3 c y hy]; exact DGet.t (k := key n c) ed9 hc9
    have zl : zs'.length ≤ (ties n).length := nodup_le zn' zt'
    refine j0j 8 nd ?_
    refine j1m (k72 (ev_v 4 ⟨D, rfl, ⟨_, eD9⟩, j07 hu (ev_v 3 (ev_v 8 ⟨dn, .str y, rfl, hd9, y, zs', rfl, eD9, by omega, j0l ⟨added zs' y, _, fun b o hb h => ?_, j0b, ?_, fun z hz => ?_, fun z => ?_, rfl⟩⟩))⟩))
    ·rw [j0c hb]
     exact k9 b o hb h
    ·unfold added
     split
     ·exact zn'
     ·rename_i hny
      exact j23 zn' hny
    ·rcases (j7m zs' y z).mp hz with h | h
     ·exact zt' z h
     ·rw [h]
      exact j2s hy
    ·rw [j7m, zm' z, etk, List.map_append, ← List.append_assoc, List.mem_append (s := told ++ _)]
     show _ ∨ z = y ↔ _ ∨ z ∈ [tnm n c]
     rw [j76 hy, List.mem_singleton]
   ·rintro σ H9 ⟨zs', u3, k9, eD9, zn', zt', zm', rfl⟩
    have l8 := at8.1
    rw [List.length_map, l8, List.take_length] at zm'
    refine j0l (j0l ⟨zs', told ++ (evens (wk n e k)).map (tnm n), ls ++ [l], ws ++ [wk n e k], _, _, _, fun b o h1 h2 h => k9 _ _ h1 (kp8 b o h1 h2 h), eD9, zn', zt', zm', ?_, hf7, hll, hwk7, rfl⟩)
    refine hW8.keep ?_ (fun a ha o ho => k9 _ _ ?_ ho) (fun t p j h => k9 _ _ (j4o h eD8 fun φ z => nomatch z) h)
    ·rw [hW8.lst]
     exact k9 _ _ hLD hW8.lst
    ·intro q
     rw [q, eD8] at ho
     obtain ⟨j, hj⟩ := List.getElem?_of_mem ha
     have hlen := hW8.len
     have hjw : j < (ws ++ [wk n e k]).length := by have := (List.getElem?_eq_some_iff.mp hj).1; omega
     obtain ⟨_, b, _⟩ := hW8.at' j a _ hj (List.getElem?_eq_getElem hjw)
     rw [q, eD8] at b
     cases b
  ·have hz : z ∈ zs := Classical.not_not.mp (of_decide_eq_false (Bool.eq_false_iff.mpr c))
   refine j0l (j0l ⟨zs, told, ls, ws, _, _, _, kp, eD, zn, zt, zm, hW, hf, by omega, ?_, rfl⟩)
   rw [hwk, hdrop]
   show ws ++ (if tnm n e ∈ told then _ else _) = _
   rw [if_pos (by rw [j76 htie]; exact (zm z).mp hz)]
 ·rintro σ H' ⟨zs, told, ls, ws, u1, u2, u3, kp, eD, zn, zt, zm, hW, hf, hli, hwk, rfl⟩
  rw [List.length_map, lus, List.drop_length] at hwk
  have hwk' : wks n (ends n) [] = ws := by rw [hwk]; show ws ++ [] = ws; rw [List.append_nil]
  refine j0p (ev_v 5 (q L ls H' (fun b o h => ?_) hL0 (by rw [hwk']; exact hW) fun l hl => j1i sH5 (hf l hl)))
  exact kp _ _ (j0d h hD0) (j0d h hL0) (sH5 _ _ h)
end
end D4
namespace Sort3
open PySem PySem.W PyProof.Rows
section
variable {lt : Nat → Nat → Bool} {cmp : Nat → Nat → (Bool → Shared → Prop) → Shared → Prop} {J : Shared → Prop} {n : Nat}
structure Asks (lt : Nat → Nat → Bool) (cmp : Nat → Nat → (Bool → Shared → Prop) → Shared → Prop) (J : Shared → Prop) (n : Nat) : Prop where
 ask : ∀ (i j : Nat) (C : Bool → Shared → Prop) (s : Shared), i < n → j < n → i ≠ j → J s → (∀ s', J s' → C (lt i j) s') → cmp i j C s
 tot : ∀ i j, i < n → j < n → i ≠ j → lt i j = true ∨ lt j i = true
 asy : ∀ i j, lt i j = true → lt j i = false
 tra : ∀ i j k, lt i j = true → lt j k = true → lt i k = true
def g (p : Array Nat) (i : Nat) : Nat := p.getD i 0
structure Pm (p : Array Nat) (n : Nat) : Prop where
 size : p.size = n
 lt : ∀ i, i < n → g p i < n
 inj : ∀ i j, i < n → j < n → g p i = g p j → i = j
theorem g_eq {p : Array Nat} {i : Nat} {v : Nat} (h : p[i]? = some v) : g p i = v := by
 unfold g
 rw [Array.getD_eq_getD_getElem?, h]
 rfl
theorem g_of {p q : Array Nat} {i j : Nat} (h : p[i]? = q[j]?) : g p i = g q j := by
 unfold g
 rw [Array.getD_eq_getD_getElem?, Array.getD_eq_getD_getElem?, h]
theorem j9j (n : Nat) : Pm (List.toArray (List.range n)) n := by
 have e : ∀ i, i < n → g (List.toArray (List.range n)) i = i := fun i hi => g_eq (by simp [hi])
 exact ⟨by simp, fun i hi => by rw [e i hi]; exact hi, fun i j hi hj h => by rw [e i hi, e j hj] at h; exact h⟩
def Up (lt : Nat → Nat → Bool) (p : Array Nat) (m : Nat) : Prop := ∀ i j, i < j → j < m → lt (g p i) (g p j) = true
def Dn (lt : Nat → Nat → Bool) (p : Array Nat) (m : Nat) : Prop := ∀ i j, i < j → j < m → lt (g p j) (g p i) = true
theorem k95 (p : Array Nat) : Up lt p 1 := fun i j h1 h2 => by omega
theorem k8r (A : Asks lt cmp J n) {p : Array Nat} {m : Nat} (h1 : 1 ≤ m) (h : Up lt p m) (hm : lt (g p (m - 1)) (g p m) = true) : Up lt p (m + 1) := fun i j hi hj => by
 by_cases c : j < m
 ·exact h i j hi c
 ·have : j = m := by omega
  subst this
  by_cases d : i = j - 1
  ·rw [d]
   exact hm
  ·exact A.tra _ _ _ (h i (j - 1) (by omega) (by omega)) hm
theorem k64 (A : Asks lt cmp J n) {p : Array Nat} {m : Nat} (h1 : 1 ≤ m) (h : Dn lt p m) (hm : lt (g p m) (g p (m - 1)) = true) : Dn lt p (m + 1) := fun i j hi hj => by
 by_cases c : j < m
 ·exact h i j hi c
 ·have : j = m := by omega
  subst this
  by_cases d : i = j - 1
  ·rw [d]
   exact hm
  ·exact A.tra _ _ _ hm (h i (j - 1) (by omega) (by omega))
theorem j5g (A : Asks lt cmp J n) {i j : Nat} (hi : i < n) (hj : j < n) (hne : i ≠ j) (h : lt i j = false) : lt j i = true := by
 rcases A.tot i j hi hj hne with q | q
 ·rw [h] at q
  cases q
 ·exact q
theorem k1t (A : Asks lt cmp J n) {p : Array Nat} (P : Pm p n) : ∀ (f m : Nat) (Q : Nat → Shared → Prop) (s : Shared), 1 ≤ m → m + f ≤ n → Up lt p m → J s →
  (∀ k s', J s' → m ≤ k → k ≤ m + f → Up lt p k → (k < m + f → lt (g p k) (g p (k - 1)) = true) → Q k s') → (kas_asc p f m).kasWp cmp Q s
 | 0, m, Q, s, h1, h2, hu, hJ, k => k m s hJ (Nat.le_refl _) (Nat.le_refl _) hu fun h => by omega
 | f + 1, m, Q, s, h1, h2, hu, hJ, k => by
  have hne : g p m ≠ g p (m - 1) := fun h => by have := P.inj m (m - 1) (by omega) (by omega) h; omega
  refine A.ask _ _ _ _ (P.lt m (by omega)) (P.lt (m - 1) (by omega)) hne hJ fun s' hJ' => ?_
  cases e : lt (p.getD m 0) (p.getD (m - 1) 0) with
  | true => exact k m s' hJ' (Nat.le_refl _) (by omega) hu fun _ => e
  | false =>
   have hup : Up lt p (m + 1) := k8r A h1 hu (j5g A (P.lt m (by omega)) (P.lt (m - 1) (by omega)) hne e)
   exact k1t A P f (m + 1) Q s' (by omega) (by omega) hup hJ' fun k' s2 j2 a b c d => k k' s2 j2 (by omega) (by omega) c fun h => d (by omega)
theorem k3d (A : Asks lt cmp J n) {p : Array Nat} (P : Pm p n) : ∀ (f m : Nat) (Q : Array Nat × Nat × Nat → Shared → Prop) (s : Shared), 1 ≤ m → m + f ≤ n → Dn lt p m → J s →
  (∀ k s', J s' → m ≤ k → k ≤ m + f → Dn lt p k → Q (p, k, 0) s') → (kas_desc f p m 0).kasWp cmp Q s
 | 0, m, Q, s, h1, h2, hd, hJ, k => k m s hJ (Nat.le_refl _) (Nat.le_refl _) hd
 | f + 1, m, Q, s, h1, h2, hd, hJ, k => by
  have hne : g p m ≠ g p (m - 1) := fun h => by have := P.inj m (m - 1) (by omega) (by omega) h; omega
  refine A.ask _ _ _ _ (P.lt m (by omega)) (P.lt (m - 1) (by omega)) hne hJ fun s' hJ' => ?_
  cases e : lt (p.getD m 0) (p.getD (m - 1) 0) with
  | true =>
   show (if true = true then (if 0 > 0 then _ else kas_desc f p (m + 1) 0) else _ : KasT _).kasWp cmp Q s'
   rw [if_pos rfl, if_neg (by omega)]
   exact k3d A P f (m + 1) Q s' (by omega) (by omega) (k64 A h1 hd e) hJ' fun k' s2 j2 a b c => k k' s2 j2 (by omega) (by omega) c
  | false =>
   refine A.ask _ _ _ _ (P.lt (m - 1) (by omega)) (P.lt m (by omega)) (Ne.symm hne) hJ' fun s2 hJ2 => ?_
   have e2 : lt (p.getD (m - 1) 0) (p.getD m 0) = true := j5g A (P.lt m (by omega)) (P.lt (m - 1) (by omega)) hne e
   rw [e2]
   exact k m s2 hJ2 (Nat.le_refl _) (by omega) hd
theorem j7p {p : Array Nat} {m k : Nat} (h : m ≤ p.size) : g (kas_rev p 0 m) k = if k < m then g p (m - 1 - k) else g p k := by
 have e := getElem?_mirror_all (xs := p) (i := 0) (j := m) h k
 by_cases c : k < m
 ·rw [if_pos c]
  rw [if_pos ⟨Nat.zero_le _, c⟩] at e
  refine g_of (e.trans ?_)
  congr 1
  omega
 ·rw [if_neg c]
  rw [if_neg (fun q => c q.2)] at e
  exact g_of e
theorem k59 {p : Array Nat} {m : Nat} (P : Pm p n) (h : m ≤ n) : Pm (kas_rev p 0 m) n := by
 have hs : m ≤ p.size := by rw [P.size]; exact h
 refine ⟨by rw [kas_rev_size]; exact P.size, fun i hi => ?_, fun i j hi hj q => ?_⟩
 ·rw [j7p hs]
  split
  ·exact P.lt _ (by omega)
  ·exact P.lt _ hi
 ·rw [j7p hs, j7p hs] at q
  by_cases c : i < m <;> by_cases d : j < m
  ·rw [if_pos c, if_pos d] at q
   have := P.inj _ _ (by omega) (by omega) q
   omega
  ·rw [if_pos c, if_neg d] at q
   have := P.inj _ _ (by omega) hj q
   omega
  ·rw [if_neg c, if_pos d] at q
   have := P.inj _ _ hi (by omega) q
   omega
  ·rw [if_neg c, if_neg d] at q
   exact P.inj _ _ hi hj q
theorem q1l {p : Array Nat} {m : Nat} (P : Pm p n) (h : m ≤ n) (hd : Dn lt p m) : Up lt (kas_rev p 0 m) m := fun i j hi hj => by
 have hs : m ≤ p.size := by rw [P.size]; exact h
 rw [j7p hs, j7p hs, if_pos (by omega), if_pos hj]
 exact hd (m - 1 - j) (m - 1 - i) (by omega) (by omega)
theorem k35 (A : Asks lt cmp J n) {p : Array Nat} (P : Pm p n) {m : Nat} {Q : Nat × Array Nat → Shared → Prop} {s : Shared} (h1 : 1 ≤ m) (h2 : m ≤ n) (hd : Dn lt p m) (hJ : J s)
  (k : ∀ r q s', J s' → 1 ≤ r → r ≤ n → Pm q n → Up lt q r → Q (r, q) s') : (kas_tail3 m n p).kasWp cmp Q s := by
 unfold kas_tail3
 rw [KasT.kasWp_bind]
 exact k1t A (k59 P h2) (n - m) m _ s h1 (by omega) (q1l P h2 hd) hJ fun r s' j a b c _ => k r _ s' j (by omega) (by omega) (k59 P h2) c
theorem k4y (A : Asks lt cmp J n) {p : Array Nat} (P : Pm p n) {Q : Nat × Array Nat → Shared → Prop} {s : Shared} (h2 : 2 ≤ n) (hJ : J s)
  (k : ∀ r q s', J s' → 1 ≤ r → r ≤ n → Pm q n → Up lt q r → Q (r, q) s') : (kas_count n p).kasWp cmp Q s := by
 unfold kas_count
 rw [KasT.kasWp_bind]
 refine k1t A P (n - 1) 1 _ s (Nat.le_refl _) (by omega) (k95 p) hJ fun m s' hJ' m1 m2 hu hlast => ?_
 by_cases c : m = n
 ·subst c
  rw [if_pos (by simp)]
  exact k m p s' hJ' m1 (Nat.le_refl _) P hu
 ·rw [if_neg (by simpa using c)]
  by_cases d : m > 1
  ·rw [if_pos d]
   have hne : g p 0 ≠ g p (m - 1) := fun h => by have := P.inj 0 (m - 1) (by omega) (by omega) h; omega
   refine A.ask _ _ _ _ (P.lt 0 (by omega)) (P.lt (m - 1) (by omega)) hne hJ' fun s2 hJ2 => ?_
   have e : lt (p.getD 0 0) (p.getD (m - 1) 0) = true := hu 0 (m - 1) (by omega) (by omega)
   rw [e]
   exact k m p s2 hJ2 m1 (by omega) P hu
  ·rw [if_neg d]
   have em : m = 1 := by omega
   subst em
   unfold kas_descPart
   rw [KasT.kasWp_bind]
   have hl := hlast (by omega)
   have hd2 : Dn lt p 2 := fun i j hi hj => by
    have : i = 0 ∧ j = 1 := by omega
    rw [this.1, this.2]
    exact hl
   refine k3d A P (n - (1 + 1)) (1 + 1) _ s' (by omega) (by omega) hd2 hJ' fun r s2 hJ2 r1 r2 hd => ?_
   show (if (0 : Nat) > 0 then _ else kas_tail3 r n p : KasT _).kasWp cmp Q s2
   rw [if_neg (by omega)]
   exact k35 A P (by omega) (by omega) hd hJ2 k
theorem j6j (A : Asks lt cmp J n) {p : Array Nat} (P : Pm p n) {k : Nat} (hk : k < n) (hu : Up lt p k) : ∀ (f l r : Nat) (Q : Nat → Shared → Prop) (s : Shared), r ≤ k → l ≤ r → r - l ≤ f → J s → (∀ i, i < l → lt (g p i) (g p k) = true) → (∀ i, r ≤ i → i < k → lt (g p k) (g p i) = true) →
  (∀ m s', J s' → m ≤ k → (∀ i, i < m → lt (g p i) (g p k) = true) → (∀ i, m ≤ i → i < k → lt (g p k) (g p i) = true) → Q m s') → (kas_place p k f l r).kasWp cmp Q s
 | 0, l, r, Q, s, h1, h2, h3, hJ, ha, hb, q => q l s hJ (by omega) ha fun i hi => hb i (by omega)
 | f + 1, l, r, Q, s, h1, h2, h3, hJ, ha, hb, q => by
  unfold kas_place
  by_cases c : l ≥ r
  ·rw [if_pos c]
   exact q l s hJ (by omega) ha fun i hi => hb i (by omega)
  ·rw [if_neg c]
   have hmk : (l + r) / 2 < k := by omega
   have hne : g p k ≠ g p ((l + r) / 2) := fun h => by have := P.inj k _ hk (by omega) h; omega
   refine A.ask _ _ _ _ (P.lt k hk) (P.lt _ (by omega)) hne hJ fun s' hJ' => ?_
   cases e : lt (p.getD k 0) (p.getD ((l + r) / 2) 0) with
   | true =>
    show (kas_place p k f l ((l + r) / 2)).kasWp cmp Q s'
    refine j6j A P hk hu f l ((l + r) / 2) Q s' (by omega) (by omega) (by omega) hJ' ha (fun i hi hik => ?_) q
    by_cases d : i = (l + r) / 2
    ·rw [d]
     exact e
    ·exact A.tra _ _ _ e (hu _ _ (by omega) hik)
   | false =>
    show (kas_place p k f ((l + r) / 2 + 1) r).kasWp cmp Q s'
    have e2 := j5g A (P.lt k hk) (P.lt _ (by omega)) hne e
    refine j6j A P hk hu f ((l + r) / 2 + 1) r Q s' h1 (by omega) (by omega) hJ' (fun i hi => ?_) hb q
    by_cases d : i = (l + r) / 2
    ·rw [d]
     exact e2
    ·exact A.tra _ _ _ (hu _ _ (by omega) hmk) e2
theorem j79 {p : Array Nat} {k m i : Nat} (hk : k < p.size) (hm : m ≤ k) : g (bubble p k (k - m)) i = if i = m then g p k else if m < i ∧ i ≤ k then g p (i - 1) else g p i := by
 have e := getElem?_bubble (xs := p) hk (k - m) (by omega) i
 rw [show k - (k - m) = m by omega] at e
 by_cases c : i = m
 ·rw [if_pos c]
  rw [if_pos c] at e
  exact g_of e
 ·rw [if_neg c]
  rw [if_neg c] at e
  by_cases d : m < i ∧ i ≤ k
  ·rw [if_pos d]
   rw [if_pos d] at e
   exact g_of e
  ·rw [if_neg d]
   rw [if_neg d] at e
   exact g_of e
theorem k9o {p : Array Nat} {k m : Nat} (P : Pm p n) (hk : k < n) (hm : m ≤ k) : Pm (bubble p k (k - m)) n := by
 have hs : k < p.size := by rw [P.size]; exact hk
 refine ⟨by rw [bubble_size]; exact P.size, fun i hi => ?_, fun i j hi hj q => ?_⟩
 ·rw [j79 hs hm]
  split
  ·exact P.lt k hk
  ·split
   ·exact P.lt _ (by omega)
   ·exact P.lt _ hi
 ·rw [j79 hs hm, j79 hs hm] at q
  have src : ∀ a, a < n → ∃ b, b < n ∧ (if a = m then g p k else if m < a ∧ a ≤ k then g p (a - 1) else g p a) = g p b ∧ ((a = m ∧ b = k) ∨ (a ≠ m ∧ (m < a ∧ a ≤ k) ∧ b = a - 1) ∨ (a ≠ m ∧ ¬ (m < a ∧ a ≤ k) ∧ b = a)) := fun a ha => by
   by_cases c : a = m
   ·exact ⟨k, hk, by rw [if_pos c], .inl ⟨c, rfl⟩⟩
   ·by_cases d : m < a ∧ a ≤ k
    ·exact ⟨a - 1, by omega, by rw [if_neg c, if_pos d], .inr (.inl ⟨c, d, rfl⟩)⟩
    ·exact ⟨a, ha, by rw [if_neg c, if_neg d], .inr (.inr ⟨c, d, rfl⟩)⟩
  obtain ⟨x, x1, x2, x3⟩ := src i hi
  obtain ⟨y, y1, y2, y3⟩ := src j hj
  rw [x2, y2] at q
  have e := P.inj x y x1 y1 q
  subst e
  rcases x3 with ⟨a1, a2⟩ | ⟨a1, a2, a3⟩ | ⟨a1, a2, a3⟩
  ·rcases y3 with ⟨b1, b2⟩ | ⟨b1, b2, b3⟩ | ⟨b1, b2, b3⟩
   ·exact a1.trans b1.symm
   ·exact absurd (a2.symm.trans b3) (Nat.ne_of_gt (Nat.lt_of_lt_of_le (Nat.sub_lt (Nat.zero_lt_of_lt b2.1) Nat.one_pos) b2.2))
   ·exact absurd ⟨Nat.lt_of_le_of_ne (by rw [← b3, a2]; exact hm) (Ne.symm b1), by rw [← b3, a2]; exact Nat.le_refl _⟩ b2
  ·rcases y3 with ⟨b1, b2⟩ | ⟨b1, b2, b3⟩ | ⟨b1, b2, b3⟩
   ·exact absurd (b2.symm.trans a3) (Nat.ne_of_gt (Nat.lt_of_lt_of_le (Nat.sub_lt (Nat.zero_lt_of_lt a2.1) Nat.one_pos) a2.2))
   ·exact Nat.sub_one_cancel (Nat.zero_lt_of_lt a2.1) (Nat.zero_lt_of_lt b2.1) (a3.symm.trans b3)
   ·exact absurd ⟨Nat.lt_of_le_of_ne (by rw [← b3, a3]; exact Nat.le_sub_one_of_lt a2.1) (Ne.symm b1), by rw [← b3, a3]; exact Nat.le_trans (Nat.sub_le _ _) a2.2⟩ b2
  ·rcases y3 with ⟨b1, b2⟩ | ⟨b1, b2, b3⟩ | ⟨b1, b2, b3⟩
   ·exact absurd ⟨Nat.lt_of_le_of_ne (by rw [← a3, b2]; exact hm) (Ne.symm a1), by rw [← a3, b2]; exact Nat.le_refl _⟩ a2
   ·exact absurd ⟨Nat.lt_of_le_of_ne (by rw [← a3, b3]; exact Nat.le_sub_one_of_lt b2.1) (Ne.symm a1), by rw [← a3, b3]; exact Nat.le_trans (Nat.sub_le _ _) b2.2⟩ a2
   ·exact a3.symm.trans b3
theorem q1j {p : Array Nat} {k m : Nat} (P : Pm p n) (hk : k < n) (hm : m ≤ k) (hu : Up lt p k) (ha : ∀ i, i < m → lt (g p i) (g p k) = true) (hb : ∀ i, m ≤ i → i < k → lt (g p k) (g p i) = true) : Up lt (bubble p k (k - m)) (k + 1) := fun i j hi hj => by
 have hs : k < p.size := by rw [P.size]; exact hk
 rw [j79 hs hm, j79 hs hm]
 by_cases c : i = m
 ·rw [if_pos c, if_neg (by omega), if_pos (by omega)]
  exact hb _ (by omega) (by omega)
 ·rw [if_neg c]
  by_cases d : j = m
  ·rw [if_pos d, if_neg (by omega)]
   exact ha i (by omega)
  ·rw [if_neg d]
   by_cases e : m < i ∧ i ≤ k
   ·rw [if_pos e, if_pos (by omega)]
    exact hu _ _ (by omega) (by omega)
   ·rw [if_neg e]
    by_cases f : m < j ∧ j ≤ k
    ·rw [if_pos f]
     exact hu _ _ (by omega) (by omega)
    ·rw [if_neg f]
     exact hu _ _ hi (by omega)
theorem k6f (A : Asks lt cmp J n) : ∀ (f : Nat) (p : Array Nat) (k : Nat) (Q : Array Nat → Shared → Prop) (s : Shared), Pm p n → 1 ≤ k → k + f = n → Up lt p k → J s → (∀ q s', J s' → Pm q n → Up lt q n → Q q s') → (kas_bin f p k).kasWp cmp Q s
 | 0, p, k, Q, s, P, h1, h2, hu, hJ, q => by
  have : k = n := by omega
  subst this
  exact q p s hJ P hu
 | f + 1, p, k, Q, s, P, h1, h2, hu, hJ, q => by
  unfold kas_bin
  rw [KasT.kasWp_bind]
  refine j6j A P (by omega) hu k 0 k _ s (Nat.le_refl _) (Nat.zero_le _) (by omega) hJ (fun i hi => by omega) (fun i hi hik => by omega) fun m s' hJ' hm ha hb => ?_
  exact k6f A f _ (k + 1) Q s' (k9o P (by omega) hm) (by omega) (by omega) (q1j P (by omega) hm hu ha hb) hJ' q
theorem k7x (A : Asks lt cmp J n) {Q : Array Nat → Shared → Prop} {s : Shared} (h2 : 2 ≤ n) (hJ : J s) (q : ∀ p s', J s' → Pm p n → Up lt p n → Q p s') : (kas_sort n).kasWp cmp Q s := by
 unfold kas_sort
 rw [KasT.kasWp_bind]
 refine k4y A (j9j n) h2 hJ fun r p s' hJ' r1 r2 P hu => ?_
 show (if r < n then kas_bin (n - max r 1) p (max r 1) else .ret p : KasT _).kasWp cmp Q s'
 have em : max r 1 = r := by omega
 rw [em]
 by_cases c : r < n
 ·rw [if_pos c]
  exact k6f A (n - r) p r Q s' P r1 (by omega) hu hJ' q
 ·rw [if_neg c]
  have : r = n := by omega
  subst this
  exact q p s' hJ' P hu
end
end Sort3
namespace Sort3
open PySem PySem.W PyProof.Rows
theorem j97 {p : Array Nat} {n : Nat} (P : Pm p n) : p.toList.Nodup := by
 rw [List.nodup_iff_pairwise_ne, List.pairwise_iff_getElem]
 intro i j hi hj hij e
 have hi' : i < n := by rw [Array.length_toList, P.size] at hi; exact hi
 have hj' : j < n := by rw [Array.length_toList, P.size] at hj; exact hj
 have e1 : g p i = p.toList[i] := g_eq (by rw [← Array.getElem?_toList]; exact List.getElem?_eq_getElem hi)
 have e2 : g p j = p.toList[j] := g_eq (by rw [← Array.getElem?_toList]; exact List.getElem?_eq_getElem hj)
 have := P.inj i j hi' hj' (by rw [e1, e2, e])
 omega
theorem k3m {p : Array Nat} {n v : Nat} (P : Pm p n) (h : v ∈ p.toList) : v < n := by
 obtain ⟨i, hi⟩ := List.getElem?_of_mem h
 have hl : i < n := by have := (List.getElem?_eq_some_iff.mp hi).1; rw [Array.length_toList, P.size] at this; exact this
 have e1 : g p i = v := g_eq (by rw [← Array.getElem?_toList]; exact hi)
 rw [← e1]
 exact P.lt i hl
theorem k7b {p : Array Nat} {n : Nat} (P : Pm p n) : p.toList.Perm (List.range n) := by
 rw [List.perm_ext_iff_of_nodup (j97 P) List.nodup_range]
 intro v
 rw [List.mem_range]
 refine ⟨fun h => k3m P h, fun h => Classical.byContradiction fun hn => ?_⟩
 have l1 : p.toList.length ≤ ((List.range n).erase v).length := Nt.nodup_le (j97 P) fun z hz => by
  have hne : z ≠ v := fun e => hn (e ▸ hz)
  exact (List.mem_erase_of_ne hne).mpr (List.mem_range.mpr (k3m P hz))
 rw [List.length_erase_of_mem (List.mem_range.mpr h), Array.length_toList, P.size, List.length_range] at l1
 omega
def Hd (h : Heap) (v : Value) (z : Str) : Prop := ∃ a o xs n t, v = .ref a ∧ h.get? a = some o ∧ o.cls = .type "tuple" ∧ o.data = .seq xs n ∧ xs[0]? = some (.str z t)
theorem Hd.keep {h h' : Heap} {v : Value} {z : Str} (x : Hd h v z) (k : ∀ a o, v = .ref a → h.get? a = some o → h'.get? a = some o) : Hd h' v z := by
 obtain ⟨a, o, xs, n, t, e, h1, h2⟩ := x
 exact ⟨a, o, xs, n, t, e, k a o e h1, h2⟩
def Hds (h : Heap) (vs : List Value) (zs : List Str) : Prop := vs.length = zs.length ∧ ∀ (i : Nat) v z, vs[i]? = some v → zs[i]? = some z → Hd h v z
def ltZ (zs : List Str) (i j : Nat) : Bool := decide ((zs.getD i ⟨#[]⟩).cps.toList < (zs.getD j ⟨#[]⟩).cps.toList)
section
variable {prog : Program} {w : World} {A : Around} {E : Value → Shared → Prop} {s : Shared}
theorem j55 : ∀ {h : Heap} {vs : List Value} {zs : List Str}, Hds h vs zs → ∃ fs, KatTups h vs fs ∧ fs.length = vs.length ∧ ∀ f ∈ fs, ∃ z t, f = Value.str z t
 | h, [], _, _ => ⟨[], KatTups.nil, rfl, fun f hf => by cases hf⟩
 | h, v :: vs, [], hh => by have := hh.1; simp at this
 | h, v :: vs, z :: zs, hh => by
  obtain ⟨fs, k1, k2, k3⟩ := j55 (h := h) (vs := vs) (zs := zs) ⟨by have := hh.1; simpa using this, fun i a b h1 h2 => hh.2 (i + 1) a b (by simpa using h1) (by simpa using h2)⟩
  obtain ⟨a, o, xs, n, t, rfl, h1, h2, h3, h4⟩ := hh.2 0 v z rfl rfl
  refine ⟨.str z t :: fs, KatTups.cons h1 h2 h3 h4 k1, by rw [List.length_cons, List.length_cons, k2], fun f hf => ?_⟩
  rcases List.mem_cons.mp hf with rfl | hf
  ·exact ⟨z, t, rfl⟩
  ·exact k3 f hf
theorem q0h {x y : Value} {z u : Str} {Q : Bool → Shared → Prop} (hx : Hd s.heap x z) (hy : Hd s.heap y u) (hne : z ≠ u) (h : Q (decide (z.cps.toList < u.cps.toList)) s) : wpAny (model prog w) A (keyLt' (tuples' true) x y) Q E s := by
 obtain ⟨a, o, xs, n, t, rfl, h1, h2, h3, h4⟩ := hx
 obtain ⟨b, o', ys, n', t', rfl, g1, g2, g3, g4⟩ := hy
 refine kat_lt h1 h3 g1 g3 ?_
 have ex : ∃ r, xs.toList = .str z t :: r := by
  have : xs.toList[0]? = some (.str z t) := by rw [Array.getElem?_toList]; exact h4
  cases e : xs.toList with
  | nil => rw [e] at this; cases this
  | cons c r => rw [e] at this; cases this; exact ⟨r, rfl⟩
 have ey : ∃ r, ys.toList = .str u t' :: r := by
  have : ys.toList[0]? = some (.str u t') := by rw [Array.getElem?_toList]; exact g4
  cases e : ys.toList with
  | nil => rw [e] at this; cases this
  | cons c r => rw [e] at this; cases this; exact ⟨r, rfl⟩
 obtain ⟨rx, ex⟩ := ex
 obtain ⟨ry, ey⟩ := ey
 rw [ex, ey]
 show KatLex prog w A true _ Q ((.str z t, .str u t') :: rx.zip ry) 0 s
 refine kat_cons (eqBool_str ?_)
 have : (z == u) = false := beq_eq_false_iff_ne.mpr hne
 rw [this]
 exact kat_no (oneLt_str h)
theorem k7j {a b : Str} (h : a.cps.toList = b.cps.toList) : a = b := by
 apply Str.ext'
 exact Array.toList_inj.mp h
theorem k5n {vs : List Value} {zs : List Str} (hh : Hds s.heap vs zs) (hn : zs.Nodup) : Asks (ltZ zs) (kas_ask prog w A (tuples' true) vs) (fun s' => s' = s) vs.length := by
 have hl := hh.1
 have gz : ∀ i, (hi : i < zs.length) → zs.getD i ⟨#[]⟩ = zs[i] := fun i hi => by simp [hi]
 have gv : ∀ i, (hi : i < vs.length) → vs.getD i Value.none = vs[i] := fun i hi => by simp [hi]
 have ne : ∀ i j, (hi : i < zs.length) → (hj : j < zs.length) → i ≠ j → zs[i] ≠ zs[j] := fun i j hi hj hij e => by
  rcases Nat.lt_or_gt_of_ne hij with c | c
  ·exact List.pairwise_iff_getElem.mp (List.nodup_iff_pairwise_ne.mp hn) i j hi hj c e
  ·exact List.pairwise_iff_getElem.mp (List.nodup_iff_pairwise_ne.mp hn) j i hj hi c e.symm
 refine ⟨fun i j C s' hi hj hij hs hC => ?_, fun i j hi hj hij => ?_, fun i j h => ?_, fun i j k h1 h2 => ?_⟩
 ·subst hs
  unfold kas_ask
  rw [gv i hi, gv j hj]
  have e : ltZ zs i j = decide (zs[i].cps.toList < zs[j].cps.toList) := by unfold ltZ; rw [gz i (by omega), gz j (by omega)]
  refine q0h (hh.2 i _ zs[i] (List.getElem?_eq_getElem hi) (List.getElem?_eq_getElem (by omega))) (hh.2 j _ zs[j] (List.getElem?_eq_getElem hj) (List.getElem?_eq_getElem (by omega))) (ne i j (by omega) (by omega) hij) ?_
  rw [← e]
  exact hC s' rfl
 ·unfold ltZ
  rw [gz i (by omega), gz j (by omega), decide_eq_true_iff, decide_eq_true_iff]
  by_cases c : zs[i].cps.toList < zs[j].cps.toList
  ·exact .inl c
  ·by_cases d : zs[j].cps.toList < zs[i].cps.toList
   ·exact .inr d
   ·have : zs[i].cps.toList = zs[j].cps.toList := List.le_antisymm (List.not_lt.mp d) (List.not_lt.mp c)
    exact absurd (k7j this) (ne i j (by omega) (by omega) hij)
 ·unfold ltZ at h ⊢
  have := of_decide_eq_true h
  exact decide_eq_false fun q => List.lt_irrefl _ (List.lt_trans this q)
 ·unfold ltZ at h1 h2 ⊢
  exact decide_eq_true (List.lt_trans (of_decide_eq_true h1) (of_decide_eq_true h2))
theorem map_range (vs : List Value) : (List.range vs.length).map (fun i => vs.getD i Value.none) = vs := by
 apply List.ext_getElem
 ·simp
 ·intro i h1 h2
  simp [h2]
theorem k41 {a : Addr} {vs : List Value} {zs : List Str} {n : Nat} {P : Fin → Shared → Prop} (ho : s.heap.get? a = some (seqObj "list" vs.toArray n)) (hal : ∀ v ∈ vs, v ≠ .ref a) (hh : Hds s.heap vs zs) (hn : zs.Nodup) (h64 : vs.length < 64)
  (h : ∀ p : Array Nat, Pm p vs.length → Up (ltZ zs) p vs.length → P (.done (.ret .none)) { s with heap := sortedHeap s.heap a vs (List.toArray (p.toList.map fun i => vs.getD i Value.none)) }) :
  wpAny (model prog w) A (Builtin.«list.sort» ⟨[.ref a], []⟩) P E s := by
 rw [list_sort_plain]
 have ha : a < s.heap.objs.size := Heap.lt_size ho
 have hsl : vs.length ≤ sizeLine := by rw [sizeLine_eq]; omega
 refine wpAny_bind (listItems_at ho rfl ?_)
 refine wpAny_bind (listUpdate_at ho rfl ?_)
 obtain ⟨e1, ho1⟩ : ∃ e1, (s.heap.update a (Obj.mapSeq fun _ => #[])).get? a = some (seqObj "list" #[] e1) := ⟨_, get?_update_seq ho (fun _ => #[])⟩
 refine wpAny_bind (seqEpoch_at ho1 rfl ?_)
 refine wpAny_bind (wpAny_newTuple ?_)
 refine wpAny_bind (wpAny_newList ?_)
 refine wpAny_holding ?_
 have ho6 : (((s.heap.update a (Obj.mapSeq fun _ => #[])).push (seqObj "tuple" vs.toArray 0)).push (seqObj "list" #[] 0)).get? a = some (seqObj "list" #[] e1) := Heap.get?_push_of_some _ (Heap.get?_push_of_some _ ho1)
 show wpAny (model prog w) A _ P E { s with heap := ((s.heap.update a (Obj.mapSeq fun _ => #[])).push (seqObj "tuple" vs.toArray 0)).push (seqObj "list" #[] 0) }
 have hh6 : Hds (((s.heap.update a (Obj.mapSeq fun _ => #[])).push (seqObj "tuple" vs.toArray 0)).push (seqObj "list" #[] 0)) vs zs := ⟨hh.1, fun i v z h1 h2 => (hh.2 i v z h1 h2).keep fun b o e q => by
  have hb : a ≠ b := fun e2 => hal v (List.mem_of_getElem? h1) (by rw [e, e2])
  exact Heap.get?_push_of_some _ (Heap.get?_push_of_some _ ((Heap.get?_update_other _ _ hb).trans q))⟩
 dsimp only
 have hsz : vs.toArray.size = vs.length := by simp
 by_cases h2 : vs.toArray.size < 2
 ·rw [if_pos h2, if_pos h2]
  refine wpAny_bind (wpAny_pure ?_)
  rw [StateT.run_pure]
  refine wpAny_bind (wpAny_pure ?_)
  dsimp only
  have e5 : (arrOf (SortSt.mk' general' (vs.toArray.zip vs.toArray) #[] 7 none)).map (·.2) = vs.toArray := by
   show (vs.toArray.zip vs.toArray).map (·.2) = _
   apply Array.toList_inj.mp
   simp [List.map_snd_zip]
  refine wpAny_bind (seqEpoch_at ho6 rfl ?_)
  refine wpAny_bind (listUpdate_at ho6 rfl ?_ (hsz2 := by rw [e5, hsz]; omega))
  simp only [bne_self_eq_false, Bool.false_eq_true, if_false]
  refine wpAny_pure ?_
  rw [e5]
  have fin := h (List.toArray (List.range vs.length)) (j9j _) fun i j hi hj => by rw [hsz] at h2; omega
  have e6 : (List.toArray (List.range vs.length)).toList.map (fun i => vs.getD i Value.none) = vs := map_range vs
  rw [e6] at fin
  exact fin
 ·rw [if_neg h2, if_neg h2]
  obtain ⟨fs, k1, k2, k3⟩ := j55 hh6
  rw [hsz] at h2
  refine wpAny_bind (kat_kind (T := .type "str") k1 (by omega) (fun f hf => ?_) (by decide) ?_)
  ·obtain ⟨z, t, rfl⟩ := k3 f hf
   exact Looks.of_pure rfl
  refine wpAny_bind (wpAny_mono (kat_run (prog := prog) (w := w) (A := A) (E := E) (κ := tuples' true) (ks := vs) (vs := vs) (Q := fun st' s' => s' = { s with heap := ((s.heap.update a (Obj.mapSeq fun _ => #[])).push (seqObj "tuple" vs.toArray 0)).push (seqObj "list" #[] 0) } ∧ ∃ p : Array Nat, Pm p vs.length ∧ Up (ltZ zs) p vs.length ∧ arrOf st' = p.map (kas_item (vs.toArray.zip vs.toArray)) ∧ failedOf st' = none)
   (G := fun p s' => s' = { s with heap := ((s.heap.update a (Obj.mapSeq fun _ => #[])).push (seqObj "tuple" vs.toArray 0)).push (seqObj "list" #[] 0) } ∧ Pm p vs.length ∧ Up (ltZ zs) p vs.length) rfl (by omega) h64 (fun p st' s' _ a2 a3 a4 => ⟨a4.1, p, a4.2.1, a4.2.2, a2, a3⟩)
   (k7x (k5n (s := { s with heap := ((s.heap.update a (Obj.mapSeq fun _ => #[])).push (seqObj "tuple" vs.toArray 0)).push (seqObj "list" #[] 0) }) hh6 hn) (by omega) rfl fun p s' e P U => ⟨e, P, U⟩)) ?_ fun _ _ e => e)
  rintro ⟨⟨⟩, st'⟩ s' ⟨rfl, p, P, U, har, hf⟩
  dsimp only
  have e3 := kat_snds (ks := vs) (vs := vs) rfl har
  refine wpAny_bind (seqEpoch_at ho6 rfl ?_)
  refine wpAny_bind (listUpdate_at ho6 rfl ?_ (hsz2 := by rw [e3, List.size_toArray, List.length_map, Array.length_toList, P.size]; omega))
  rw [hf]
  simp only [bne_self_eq_false, Bool.false_eq_true, if_false]
  refine wpAny_pure ?_
  rw [e3]
  exact h p P U
theorem k84 {l : Addr} {vs : List Value} {zs : List Str} {Q : Value → Shared → Prop} (hl : s.heap.IsList l vs.toArray) (hh : Hds s.heap vs zs) (hn : zs.Nodup) (h64 : vs.length < 64)
  (h : ∀ (h' : Heap) (e : Nat) (p : Array Nat), Pm p vs.length → Up (ltZ zs) p vs.length → (∀ b u, s.heap.get? b = some u → h'.get? b = some u) → h'.get? (s.heap.objs.size + 1) = some (seqObj "list" (List.toArray (p.toList.map fun i => vs.getD i Value.none)) e) → Q (.ref (s.heap.objs.size + 1)) { s with heap := h' }) :
  wpAny (model prog w) A (call (.builtin "sorted") [.ref l]) Q E s := by
 have hsl : vs.length ≤ sizeLine := by rw [sizeLine_eq]; omega
 refine Calls.call_function_entry kind_sorted plain_sorted entry_sorted (args_sorted1 _) ?_
 unfold Builtin.«sorted»
 refine wpAny_bind (m := checkCount "sorted" 1 1 _) (wpAny_pure ?_)
 refine wpAny_bind (collect_list (vs := vs) hl ?_)
 refine wpAny_bind (wpAny_newList ?_)
 have hsz : ((s.heap.push (seqObj "list" #[] 0)).update s.heap.objs.size (Obj.mapSeq (· ++ vs.toArray))).objs.size = s.heap.objs.size + 1 := by
  rw [Heap.size_update, size_push']
 have hoL : (((s.heap.push (seqObj "list" #[] 0)).update s.heap.objs.size (Obj.mapSeq (· ++ vs.toArray))).push (seqObj "list" vs.toArray 0)).get? (s.heap.objs.size + 1) = some (seqObj "list" vs.toArray 0) := by
  rw [← hsz]; exact Heap.get?_push_size _ rfl
 have hhL : Hds (((s.heap.push (seqObj "list" #[] 0)).update s.heap.objs.size (Obj.mapSeq (· ++ vs.toArray))).push (seqObj "list" vs.toArray 0)) vs zs := ⟨hh.1, fun i v z h1 h2 => (hh.2 i v z h1 h2).keep fun b o e q =>
  Heap.get?_push_of_some _ ((Heap.get?_update_other _ _ (Nat.ne_of_gt (Heap.lt_size q))).trans (Heap.get?_push_of_some _ q))⟩
 have hne : ∀ v ∈ vs, v ≠ .ref (s.heap.objs.size + 1) := fun v hv e => by
  obtain ⟨i, hi⟩ := List.getElem?_of_mem hv
  have hl := hh.1
  have hiz : i < zs.length := by have := (List.getElem?_eq_some_iff.mp hi).1; omega
  obtain ⟨b, o, xs, n, t, e2, h1, _⟩ := hh.2 i v zs[i] hi (List.getElem?_eq_getElem hiz)
  rw [e2] at e
  cases e
  exact absurd (Nat.lt_of_succ_lt (Heap.lt_size h1)) (Nat.lt_irrefl _)
 show wpAny _ _ _ _ _ { s with heap := ((s.heap.push (seqObj "list" #[] 0)).update s.heap.objs.size (Obj.mapSeq (· ++ vs.toArray))).push (seqObj "list" vs.toArray 0) }
 rw [hsz]
 refine wpAny_bind (wpAny_holding (wpAny_call_entry slot_list_sort ⟨_, hoL, rfl⟩ entry_list_sort (k41 hoL hne hhL hn h64 fun p P U => ⟨_, rfl, ?_⟩) (args_list_sort _)))
 obtain ⟨e, he⟩ := sortedAll_at s.heap vs (List.toArray (p.toList.map fun i => vs.getD i Value.none))
 exact wpAny_pure ⟨_, rfl, h _ e p P U (fun b u hb => sortedAll_old hb) he⟩
end
end Sort3
namespace L2
open PySem PySem.Spec PyProof.Rows Sort3
theorem j74 : ∀ {ts : List Addr} {its : List Value}, Vals (ts.map V.ref) its → its = ts.map Value.ref
 | [], its, r => r.zero
 | t :: ts, its, r => by
  cases r with
  | cons h1 h2 =>
   rw [j74 h2]
   have : _ = Value.ref t := h1
   rw [this]
   rfl
theorem j7s : ∀ (ts : List Addr), Vals (ts.map V.ref) (ts.map Value.ref)
 | [] => .nil
 | t :: ts => .cons rfl (j7s ts)
theorem k3j {α β : Type} (xs : List α) (ys : List β) (h : xs.length = ys.length) (a : α) (b : β) : (List.range xs.length).map (fun i => (xs.getD i a, ys.getD i b)) = xs.zip ys := by
 apply List.ext_getElem
 ·simp [h]
 ·intro i h1 h2
  have hx : i < xs.length := by simp at h1; exact h1
  have hy : i < ys.length := by omega
  simp [hx, hy]
section
variable {X : Cx} {σ : St} {H : Hp}
theorem j7t : j3z X (.builtin "sorted") (fun xs H Q => ∃ (l : Addr) (ts : List Addr) (zs : List Str), xs = [.ref l] ∧ SqL X.K H l (ts.map V.ref) ∧ ts.length = zs.length ∧ zs.Nodup ∧ ts.length < 64 ∧ (∀ (i : Nat) t z, ts[i]? = some t → zs[i]? = some z → ∃ r, H t = some (.tup (.str z :: r))) ∧
  ∀ (r : Addr) (ps : List (Addr × Str)), H r = none → ps.Perm (ts.zip zs) → ps.Pairwise (fun a b => a.2.cps.toList < b.2.cps.toList) → Q (.ref r) (upd H r (.lst (ps.map fun p => .ref p.1)))) := by
 intro pins s σ H xs us Q I r h
 obtain ⟨l, ts, zs, rfl, hl, hlen, hn, h64, hd, q⟩ := h
 obtain ⟨u, rfl, ru⟩ := vals1 r
 cases (show u = Value.ref l from ru)
 obtain ⟨its, rv, pl, _⟩ := I.list hl
 have ei := j74 rv
 subst ei
 have hh : Hds s.heap (ts.map Value.ref) zs := by
  refine ⟨by rw [List.length_map]; exact hlen, fun i v z h1 h2 => ?_⟩
  rw [List.getElem?_map, Option.map_eq_some_iff] at h1
  obtain ⟨t, ht, rfl⟩ := h1
  obtain ⟨rr, hr⟩ := hd i t z ht h2
  obtain ⟨its, r3, tp, _⟩ := I.tuple (SqT.of hr)
  cases r3 with
  | cons a1 a2 =>
   obtain ⟨tk, rfl⟩ := a1
   obtain ⟨o, ho, hc, n, hd2⟩ := tp
   exact ⟨t, o, _, n, tk, rfl, ho, hc, hd2, rfl⟩
 refine k84 pl.isList hh hn (by rw [List.length_map]; exact h64) fun h' e p P U kp he => ?_
 rw [List.length_map] at P U
 have gp : ∀ i, i < ts.length → g p i < ts.length := P.lt
 have pl2 : p.toList.length = ts.length := by rw [Array.length_toList]; exact P.size
 have e1 : (p.toList.map fun i => (ts.map Value.ref).getD i Value.none) = ((p.toList.map fun i => (ts.getD i 0, zs.getD i ⟨#[]⟩)).map fun x => x.1).map Value.ref := by
  rw [List.map_map, List.map_map]
  refine List.map_congr_left fun i hi => ?_
  have hlt := k3m P hi
  show (ts.map Value.ref).getD i Value.none = Value.ref (ts.getD i 0)
  simp [hlt]
 refine ⟨.ref _, _, I.laid' (s' := { s with heap := h' }) kp rfl rfl (Nat.le_succ _) (show ObjOk X.prog X.w _ h' _ (.lst ((p.toList.map fun i => (ts.getD i 0, zs.getD i ⟨#[]⟩)).map fun x => V.ref x.1)) from ?_), rfl, q _ (p.toList.map fun i => (ts.getD i 0, zs.getD i ⟨#[]⟩)) (I.hok.fresh (Nat.le_succ _)) ?_ ?_⟩
 ·refine ⟨by rw [List.length_map, List.length_map, pl2, sizeLine_eq]; omega, _, e, ?_, he⟩
  rw [e1]
  have := j7s ((p.toList.map fun i => (ts.getD i 0, zs.getD i (⟨#[]⟩ : Str))).map fun x => x.1)
  rw [List.map_map] at this
  exact this
 ·rw [← k3j ts zs hlen 0 ⟨#[]⟩]
  exact (k7b P).map _
 ·rw [List.pairwise_iff_getElem]
  intro i j hi hj hij
  rw [List.length_map] at hi hj
  have := U i j hij (by omega)
  have q1 : g p i = p.toList[i] := g_eq (by rw [← Array.getElem?_toList]; exact List.getElem?_eq_getElem hi)
  have q2 : g p j = p.toList[j] := g_eq (by rw [← Array.getElem?_toList]; exact List.getElem?_eq_getElem hj)
  rw [q1, q2] at this
  rw [List.getElem_map, List.getElem_map]
  exact of_decide_eq_true this
theorem j5l {e1 e2 e3 : Expr} {k : Nat} {pos : Pos} {t : Addr} {x y z : V} {R : St → Hp → Prop} (hc : X.calm = true) (ht : SqT X.K H t [x, y, z]) (h : Eg X e1 x σ H fun σ1 H1 => Eg X e2 y σ1 H1 fun σ2 H2 => Eg X e3 z σ2 H2 R)
  (hn : (assignEach [e1, e2, e3] X.env).length = 3 := by rfl) (hst : (assignEach [e1, e2, e3] X.env).findIdx? (·.1) = none := by rfl)
  (hs1 : (assignEach [e1, e2, e3] X.env).map (·.2) = assign e1 X.env :: (assignEach [e2, e3] X.env).map (·.2) := by rfl) (hs2 : (assignEach [e2, e3] X.env).map (·.2) = assign e2 X.env :: (assignEach [e3] X.env).map (·.2) := by rfl) (hs3 : (assignEach [e3] X.env).map (·.2) = assign e3 X.env :: (assignEach [] X.env).map (·.2) := by rfl) :
  Eg X (.Tuple [e1, e2, e3] k pos) (.ref t) σ H R :=
 k7d (k6a (t := k0i (fun v σ H Q => Eg X e1 v σ H Q) (k0i (fun v σ H Q => Eg X e2 v σ H Q) (k0i (fun v σ H Q => Eg X e3 v σ H Q) gNil))) hc (j33 j87 (j33 j87 (j33 j87 k1z hs3) hs2) hs1) hn hst)
  ⟨t, _, rfl, ht, rfl, _, _, rfl, h.mono fun σ1 H1 h1 => ⟨_, _, rfl, h1.mono fun σ2 H2 h2 => ⟨_, _, rfl, h2.mono fun σ3 H3 q => ⟨rfl, q⟩⟩⟩⟩
end
end L2
namespace D4
open PySem L2 Nt Sort2
abbrev T3 (x : Lk) : HO := .tup [.str x.1, .str x.2.1, .str x.2.2]
def AtL (H : Hp) (us : List Addr) (ls : List Lk) : Prop := us.length = ls.length ∧ ∀ (j : Nat) u x, us[j]? = some u → ls[j]? = some x → H u = some (T3 x)
theorem AtL.keep {H H' : Hp} {us : List Addr} {ls : List Lk} (h : AtL H us ls) (k : ∀ t xs, H t = some (.tup xs) → H' t = some (.tup xs)) : AtL H' us ls := ⟨h.1, fun j u x h1 h2 => k _ _ (h.2 j u x h1 h2)⟩
theorem AtL.snoc {H : Hp} {us : List Addr} {ls : List Lk} {u : Addr} {x : Lk} (h : AtL H us ls) (hu : H u = some (T3 x)) : AtL H (us ++ [u]) (ls ++ [x]) := by
 refine ⟨by rw [List.length_append, List.length_append, h.1]; rfl, fun j v y h1 h2 => ?_⟩
 have hl := h.1
 by_cases hj : j < us.length
 ·rw [List.getElem?_append_left hj] at h1
  rw [List.getElem?_append_left (by omega)] at h2
  exact h.2 j v y h1 h2
 ·rw [List.getElem?_append_right (by omega)] at h1 h2
  have hj2 : j - us.length = 0 := by
   have := (List.getElem?_eq_some_iff.mp h1).1
   simp at this
   omega
  rw [hj2] at h1
  rw [← hl, hj2] at h2
  cases h1
  cases h2
  exact hu
def j61 (ls : List Lk) : Prop := ls.Pairwise (fun x y => x.1.cps.toList < y.1.cps.toList)
def j6e : Sp := fun vs H Q _ => ∃ (R : Addr) (as : List (Addr × Addr)) (n : Net), vs = [.ref R] ∧ RowsAt H R as n ∧ j02 n ∧ n.length ≤ 1000 ∧ (ties n).length ≤ 60 ∧
 ∀ (L : Addr) (us : List Addr) (ls : List Lk) (H' : Hp), Same H H' → H L = none → H' L = some (.lst (us.map V.ref)) → AtL H' us ls → j61 ls → (∀ x, x ∈ ls ↔ j4n n x) → ls.length ≤ 60 → Q (.ref L) H'
theorem k4p {n : Net} (T : j02 n) {r p : Nat} {z : Str} (hr : r < n.length) (hz : (row n r)[p]? = some z) : (j1n (j0w (n.take r) ++ j0k r ((row n r).take p) 0) z).length ≤ 1 := by
 obtain ⟨rest, h⟩ := j2n hr hz
 have h1 : j1n (j0w n) z = j1n (j0w (n.take r) ++ j0k r ((row n r).take p) 0) z ++ (r, p) :: j1n rest z := by
  rw [h]
  unfold j1n
  rw [List.filter_append, List.map_append, List.filter_cons_of_pos (by simp)]
  rfl
 have h2 : (j1n (j0w n) z).length = 2 := by
  have := j5r n z
  rw [T z (j2s (e := (r, p)) hz)] at this
  exact this
 rw [h1, List.length_append, List.length_cons] at h2
 omega
section
variable {P : Program} {w : World} {K : PySem.W.Frag} {mg : Str → Option Value} {base : Heap}
abbrev NLk : List Str := ["rows", "met", "links", "point", "ties", "tie"]
theorem scLk : FnScope NLk ["rows"] (j0h k26) := ⟨rfl, rfl, rfl, by decide +kernel, rfl, by decide +kernel, by decide +kernel⟩
theorem k38 {f : Addr} {fd : FuncData} (F : Fun K "links_of" "links_of" k26 f fd) (T : Txt mg) : FnOk P w K mg base CX0 1 f fd ["rows"] j6e := by
 refine F.gb scLk (fun vs H Q E h => ?_) (fun b0 H vs Q E hr h => ?_)
 ·obtain ⟨R, as, n, rfl, _⟩ := h
  rfl
 obtain ⟨R, as, n, rfl, hR, hT, hn, hti, q⟩ := h
 have nd := scLk.nd
 have hal := hR.len
 have hu := hr.u1
 show Run _ _ _ [some (.ref R), none, none, none, none, none] H
 refine j0i 1 nd (j6l fun dm hdm => ?_)
 refine j0i 2 nd (j1p (j0g ⟨(by show 0 ≤ sizeLine; decide), fun M hM => ?_⟩))
 have nMd : M ≠ dm := fun e => by rw [e, j0b] at hM; cases hM
 have hM0 : H M = none := by rw [j0c nMd] at hM; exact hM
 have s0 : Same H (upd (upd H dm (.dK [])) M (.lst [])) := (j0e hdm _).trans (j0e hM _)
 have ed0 : (upd (upd H dm (.dK [])) M (.lst [])) dm = some (.dK []) := by rw [j0c (Ne.symm nMd), j0b]
 have eM0 : (upd (upd H dm (.dK [])) M (.lst [])) M = some (.lst []) := j0b
 show Run _ _ _ [some (.ref R), some (.ref dm), some (.ref M), none, none, none] (upd (upd H dm (.dK [])) M (.lst []))
 generalize upd (upd H dm (.dK [])) M (.lst []) = H0 at s0 ed0 eM0
 have lseats : (j0w n).length = (ties n).length := by rw [← j1d n 0, List.length_map]; rfl
 refine j2e (ev_v 0 ⟨R, rfl, ⟨_, SqL.of (s0 _ _ hR.lst)⟩, j1x (xs := as.map fun a => V.ref a.1) (fun r σ H' => ∃ (kM : List (Key × V)) (us : List Addr) (ls : List Lk) (u1 u2 u3 : Option V), Same H H' ∧ H' dm = some (.dK kM) ∧ H' M = some (.lst (us.map V.ref)) ∧ AtL H' us ls ∧ LkI n (j0w (n.take r)) kM ls ∧ σ = [some (.ref R), some (.ref dm), some (.ref M), u1, u2, u3])
  ⟨[], [], [], _, _, _, s0, ed0, eM0, ⟨rfl, fun j u x h => by simp at h⟩, LkI.start n, rfl⟩ ?_ ?_ ?_⟩)
 ·rintro r σ H' _ ⟨_, _, _, _, _, _, sm, _⟩
  exact SqL.of (sm _ _ hR.lst)
 ·rintro r x σ H' hx ⟨kM, us, ls, u1, u2, u3, sm, ed, eM, hat, I, rfl⟩
  have hi : r < n.length := by
   have := (List.getElem?_eq_some_iff.mp hx).1
   rw [List.length_map] at this
   omega
  obtain ⟨a, ea, eat, et, el, er⟩ := (hR.same sm).at hi
  rw [List.getElem?_map, ea] at hx
  cases hx
  refine j2a rfl (SqT.of et) (j0j 3 nd (j0j 4 nd ?_))
  refine j2e (ev_v 4 ⟨a.2, rfl, ⟨_, SqL.of el⟩, j1x (xs := (row n r).map V.str) (fun p σ H'' => ∃ (kM : List (Key × V)) (us : List Addr) (ls : List Lk) (u3 : Option V), Same H H'' ∧ H'' a.2 = some (Ls (row n r)) ∧ H'' dm = some (.dK kM) ∧ H'' M = some (.lst (us.map V.ref)) ∧ AtL H'' us ls ∧ LkI n (j0w (n.take r) ++ j0k r ((row n r).take p) 0) kM ls ∧ σ = [some (.ref R), some (.ref dm), some (.ref M), some (.str n[r].1), some (.ref a.2), u3])
   ⟨kM, us, ls, _, sm, el, ed, eM, hat, by simpa [j0k] using I, rfl⟩ ?_ ?_ ?_⟩)
  ·rintro p σ H'' _ ⟨_, _, _, _, _, e, _⟩
   exact SqL.of e
  ·rintro p x σ H'' hx ⟨kM, us, ls, u3, sm, el, ed, eM, hat, I, rfl⟩
   have hp : p < (row n r).length := by
    have := (List.getElem?_eq_some_iff.mp hx).1
    rw [List.length_map] at this
    exact this
   have hz : (row n r)[p]? = some (row n r)[p] := List.getElem?_eq_getElem hp
   rw [List.getElem?_map, hz] at hx
   cases hx
   have hs1 := j1l (r := r) hz
   have hle := k4p hT hi hz
   have hdone : (j0w (n.take r) ++ j0k r ((row n r).take p) 0).length ≤ 60 := by
    obtain ⟨rest, hrest⟩ := j2n hi hz
    have h1 := congrArg List.length hrest
    simp only [List.length_append] at h1 ⊢
    omega
   have lM := I.lenM
   have lL := I.lenL
   have lA := hat.1
   have nmr : nmA n r = n[r].1 := j2x hi
   have naM : a.2 ≠ M := fun e => by
    have := (hR.tup r a n[r] ea (List.getElem?_eq_getElem hi)).2
    rw [e, hM0] at this
    cases this
   generalize (row n r)[p] = z at hz hs1 hle
   refine j0j 5 nd ?_
   refine j4b (j9k hu (ev_v 5 (ev_v 1 ⟨dm, _, rfl, DGet.k (k := Sum.inr z) ed, ?_⟩)))
   cases hpz : j1n (j0w (n.take r) ++ j0k r ((row n r).take p) 0) z with
   | nil =>
    rw [I.m0 z hpz]
    show if false = true then _ else _
    rw [if_neg (by decide)]
    refine j3n hu (ev_v 3 (ev_v 1 (ev_v 5 ⟨dm, _, rfl, DPut.k (k := Sum.inr z) ed (j0u (by omega)), j0l (j0l ⟨_, us, ls, _, j01 sm hdm, ?_, j0b, ?_, hat.keep fun t xs h => ?_, ?_, rfl⟩)⟩)))
    ·rw [j0c (j1j el ed fun z => nomatch z)]
     exact el
    ·rw [j0c nMd]
     exact eM
    ·rw [j0c (j1j h ed fun z => nomatch z)]
     exact h
    ·rw [hs1, ← List.append_assoc]
     have := I.new (e := (r, p)) hpz
     show LkI n _ (putK kM (Sum.inr z) (.str n[r].1)) ls
     rw [← nmr]
     exact this
   | cons b rest =>
    have hr0 : rest = [] := by
     rw [hpz] at hle
     exact List.length_eq_zero_iff.mp (by have : rest.length + 1 ≤ 1 := hle; omega)
    subst hr0
    have vm := I.m1 z b [] hpz
    rw [vm]
    show if true = true then _ else _
    rw [if_pos rfl]
    refine j1m (j1o (ev_v 2 ⟨M, rfl, ⟨_, eM⟩, j13 (j0a (ev_v 5 (j0a (j07 hu (ev_v 1 (ev_v 5 ⟨dm, .str (nmA n b.1), rfl, by rw [← vm]; exact DGet.k (k := Sum.inr z) ed, j0a (ev_v 3 (j0g ⟨(by show 3 ≤ sizeLine; decide), fun t ht => ?_⟩))⟩))))))⟩))
    have sT := j0e ht (.tup [.str z, .str (nmA n b.1), .str n[r].1])
    have ntM : t ≠ M := fun e => by rw [e, eM] at ht; cases ht
    have et3 : (upd H'' t (.tup [.str z, .str (nmA n b.1), .str n[r].1])) t = some (T3 (z, nmA n b.1, nmA n (r, p).1)) := by
     rw [j0b]
     show _ = some (HO.tup [.str z, .str (nmA n b.1), .str (nmA n r)])
     rw [nmr]
    have kT : ∀ c xs, (upd H'' t (.tup [.str z, .str (nmA n b.1), .str n[r].1])) c = some (.tup xs) → (upd (upd H'' t (.tup [.str z, .str (nmA n b.1), .str n[r].1])) M (.lst (us.map V.ref ++ [.ref t]))) c = some (.tup xs) := fun c xs h => by
     rw [j0c (j1j h (sT _ _ eM) fun z => nomatch z)]
     exact h
    refine ⟨_, sT _ _ eM, by rw [List.length_map]; exact j0u (by omega), j0l (j0l ⟨kM, us ++ [t], ls ++ [(z, nmA n b.1, nmA n (r, p).1)], _, j01 (sm.trans sT) hM0, ?_, ?_, ?_, ?_, ?_, rfl⟩)⟩
    ·rw [j0c naM]
     exact sT _ _ el
    ·rw [j0c (Ne.symm nMd)]
     exact sT _ _ ed
    ·rw [j0b, List.map_append]
     rfl
    ·exact ((hat.keep fun c xs h => sT _ _ h).snoc et3).keep kT
    ·rw [hs1, ← List.append_assoc]
     exact I.old (e := (r, p)) hpz
  ·rintro σ H'' ⟨kM, us, ls, u3, sm, _, ed, eM, hat, I, rfl⟩
   rw [List.length_map, List.take_length] at I
   refine j0l ⟨kM, us, ls, _, _, _, sm, ed, eM, hat, ?_, rfl⟩
   rw [j2i hi]
   exact I
 ·rintro σ H' ⟨kM, us, ls, u1, u2, u3, sm, ed, eM, hat, I, rfl⟩
  rw [List.length_map, hal, List.take_length] at I
  have lL := I.lenL
  have lA := hat.1
  have hlt : us.length < 64 := by omega
  refine j0p (j06 j7t T.sorted PyProof.Rows.boot_sorted (j0a (ev_v 2 (j0g ⟨M, us, ls.map (·.1), rfl, SqL.of eM, by rw [List.length_map]; exact lA, I.nod, hlt, fun i t z h1 h2 => ?_, fun L ps hL hp hs => ?_⟩))))
  ·rw [List.getElem?_map, Option.map_eq_some_iff] at h2
   obtain ⟨x, hx, rfl⟩ := h2
   exact ⟨_, hat.2 i t x h1 hx⟩
  have pick : ∀ p ∈ ps, ∃ x, x ∈ ls ∧ x.1 = p.2 ∧ H' p.1 = some (T3 x) := fun p hpm => by
   have hz := hp.mem_iff.mp hpm
   obtain ⟨i, hi⟩ := List.getElem?_of_mem hz
   rw [List.getElem?_zip_eq_some] at hi
   obtain ⟨h1, h2⟩ := hi
   rw [List.getElem?_map, Option.map_eq_some_iff] at h2
   obtain ⟨x, hx, e⟩ := h2
   exact ⟨x, List.mem_of_getElem? hx, e, hat.2 i _ x h1 hx⟩
  obtain ⟨xs, hxs⟩ : ∃ xs : List Lk, xs.length = ps.length ∧ ∀ (j : Nat) p x, ps[j]? = some p → xs[j]? = some x → x ∈ ls ∧ x.1 = p.2 ∧ H' p.1 = some (T3 x) := by
   clear hs hp
   induction ps with
   | nil => exact ⟨[], rfl, fun j p x h => by simp at h⟩
   | cons p r ih =>
    obtain ⟨x, q1, q2, q3⟩ := pick p (List.mem_cons_self ..)
    obtain ⟨xs, l1, l2⟩ := ih (fun c hc => pick c (List.mem_cons_of_mem _ hc))
    refine ⟨x :: xs, by rw [List.length_cons, List.length_cons, l1], fun j c y h1 h2 => ?_⟩
    cases j with
    | zero =>
     cases h1
     cases h2
     exact ⟨q1, q2, q3⟩
    | succ j => exact l2 j c y (by simpa using h1) (by simpa using h2)
  obtain ⟨lx, hxs⟩ := hxs
  have lp : ps.length = ls.length := by rw [hp.length_eq, List.length_zip, List.length_map]; omega
  have sL := j0e hL (.lst (ps.map fun p => .ref p.1))
  have hsx : j61 xs := by
   unfold j61
   rw [List.pairwise_iff_getElem]
   intro i j hi hj hij
   have a1 := (hxs i ps[i] xs[i] (List.getElem?_eq_getElem (by omega)) (List.getElem?_eq_getElem hi)).2.1
   have a2 := (hxs j ps[j] xs[j] (List.getElem?_eq_getElem (by omega)) (List.getElem?_eq_getElem hj)).2.1
   rw [a1, a2]
   exact List.pairwise_iff_getElem.mp hs i j (by omega) (by omega) hij
  have xnod : (xs.map (·.1)).Nodup := by
   rw [List.nodup_iff_pairwise_ne, List.pairwise_map]
   exact hsx.imp fun h e => by rw [e] at h; exact List.lt_irrefl _ h
  have hmem : ∀ x, x ∈ xs ↔ x ∈ ls := fun x => by
   constructor
   ·intro h
    obtain ⟨j, hj⟩ := List.getElem?_of_mem h
    have hjl := (List.getElem?_eq_some_iff.mp hj).1
    exact (hxs j ps[j] x (List.getElem?_eq_getElem (by omega)) hj).1
   ·intro h
    refine Classical.byContradiction fun hn => ?_
    have nodx : xs.Nodup := by
     rw [List.nodup_iff_pairwise_ne] at xnod ⊢
     rw [List.pairwise_map] at xnod
     exact xnod.imp fun h e => h (by rw [e])
    have := nodup_le nodx (b := ls.erase x) fun z hz => by
     have hzl : z ∈ ls := by
      obtain ⟨j, hj⟩ := List.getElem?_of_mem hz
      have hjl := (List.getElem?_eq_some_iff.mp hj).1
      exact (hxs j ps[j] z (List.getElem?_eq_getElem (by omega)) hj).1
     exact (List.mem_erase_of_ne (fun e : z = x => hn (e ▸ hz))).mpr hzl
    rw [List.length_erase_of_mem h] at this
    have : 0 < ls.length := List.length_pos_of_mem h
    omega
  refine q L (ps.map (·.1)) xs _ (sm.trans sL) (j1i sm hL) (by rw [j0b, List.map_map]; rfl) ⟨by rw [List.length_map]; omega, fun j u x h1 h2 => ?_⟩ hsx (fun x => by rw [hmem x]; exact I.whole hT x) (by omega)
  rw [List.getElem?_map, Option.map_eq_some_iff] at h1
  obtain ⟨p, hp1, rfl⟩ := h1
  exact sL _ _ (hxs j p x hp1 h2).2.2
end
end D4
namespace L2
open PySem PySem.Spec PyProof.Rows
section
variable {X : Cx} {σ : St} {H : Hp} {Q : VK}
theorem j9o {k v : Expr} {pos : Pos} (hu : X.A.units + 1 < cLine) (h : ∀ d, H d = none → Ev X k σ (upd H d (.dK [])) fun y H1 => Ev X v σ H1 fun x H2 => ∃ H3, DPut H2 d y x H3 ∧ Q (.ref d) H3) : Ev X (.Dict [some k] [v] pos) σ H Q := by
 refine ⟨fun pins s I => wpAny_Dict_any rfl rfl (by simp) (by show 1 ≤ 15; decide) ?_⟩
 have I0 : Inv X pins σ (upd H s.heap.objs.size (.dK [])) { s with heap := s.heap.push { cls := .type "dict", data := .dict #[] } } := I.laid (a := s.heap.objs.size) (o := .dK []) (t' := s.toks) (fun _ _ q => Heap.get?_push_of_some _ q) (Nat.le_refl _) (j96 s.heap I.big)
 show wpAny _ _ (evalPairs [(eval k X.env, do let x ← eval v X.env; standAt pos; pure x)]) _ _ _
 unfold evalPairs
 refine wpAny_bind (thn ((h _ I.fresh).run pins _ I0) fun kv s1 ⟨y, H1, I1, r1, h1⟩ => ?_)
 refine wpAny_bind (wpAny_holding (wpAny_bind (thn (h1.run pins s1 I1) fun vv s2 ⟨x, H2, I2, r2, H3, dp, q⟩ => ?_)))
 refine wpAny_bind (wpAny_standAt (wpAny_pure ?_))
 unfold evalPairs
 refine wpAny_bind (wpAny_holding (wpAny_pure (wpAny_pure ?_)))
 unfold storeAll
 rw [List.forIn_cons]
 refine wpAny_bind (wpAny_bind (j7r hu I2 dp r1 r2 fun s' I' => wpAny_pure ?_))
 exact wpAny_pure ⟨.ref _, H3, I', rfl, q⟩
end
end L2
namespace D4
open PySem L2 Nt Sort2
abbrev T3b (x : Bl) : HO := .tup [.str x.1, .str x.2.1, .bl x.2.2]
def AtB (H : Hp) (us : List Addr) (ls : List Bl) : Prop := us.length = ls.length ∧ ∀ (j : Nat) u x, us[j]? = some u → ls[j]? = some x → H u = some (T3b x)
theorem AtB.same {H H' : Hp} {us : List Addr} {ls : List Bl} (h : AtB H us ls) (s : Same H H') : AtB H' us ls := ⟨h.1, fun j u x h1 h2 => s _ _ (h.2 j u x h1 h2)⟩
def j6g : Sp := fun vs H Q _ => ∃ (f : Str) (L : Addr) (us : List Addr) (ls : List Bl), vs = [.str f, .ref L] ∧ H L = some (.lst (us.map V.ref)) ∧ AtB H us ls ∧ ls.length ≤ 60 ∧
 ∀ (d : Addr) (kvs : List (Key × V)) (H' : Hp), Same H H' → H d = none → H' d = some (.dK kvs) → SpI ls f none kvs [] → Q (.ref d) H'
section
variable {P : Program} {w : World} {K : PySem.W.Frag} {mg : Str → Option Value} {base : Heap}
abbrev NSp : List Str := ["first", "links", "odds", "waiting", "here", "one", "other", "odd", "start", "goal"]
theorem scSp : FnScope NSp ["first", "links"] (j0h j8s) := ⟨rfl, rfl, rfl, by decide +kernel, rfl, by decide +kernel, by decide +kernel⟩
theorem k28 (wt : List Str) (h : Str) : (((wt ++ [h]).map V.str)[((wt ++ [h]).map V.str).length - 1]? = some (.str h)) ∧ ((wt ++ [h]).map V.str).dropLast = wt.map V.str := by
 rw [List.map_append]
 constructor
 ·simp
 ·exact List.dropLast_concat
theorem k21 {f : Addr} {fd : FuncData} (F : Fun K "spread" "spread" j8s f fd) (T : Txt mg) : FnOk P w K mg base CX0 1 f fd ["first", "links"] j6g := by
 refine F.gb scSp (fun vs H Q E h => ?_) (fun b0 H vs Q E hr h => ?_)
 ·obtain ⟨f, L, us, ls, rfl, _⟩ := h
  rfl
 obtain ⟨ft, L, us, ls, rfl, hL, hat, h60, q⟩ := h
 have nd := scSp.nd
 have hu := hr.u1
 have lus := hat.1
 show Run _ _ _ [some (.str ft), some (.ref L), none, none, none, none, none, none, none, none] H
 refine j0i 2 nd (j9o hu fun d hd => ev_v 0 (k0m ⟨_, DPut.k (k := Sum.inr ft) j0b (j0u (Nat.zero_le _)), ?_⟩))
 rw [j4l]
 refine j0i 3 nd (j1p (j0a (ev_v 0 (j0g ⟨(by show 1 ≤ sizeLine; decide), fun M hM => ?_⟩))))
 have nMd : M ≠ d := fun e => by rw [e, j0b] at hM; cases hM
 have hM0 : H M = none := by rw [j0c nMd] at hM; exact hM
 have s0 : Same H (upd (upd H d (.dK (putK [] (Sum.inr ft) (.bl false)))) M (.lst [.str ft])) := (j0e hd _).trans (j0e hM _)
 have ed0 : (upd (upd H d (.dK (putK [] (Sum.inr ft) (.bl false)))) M (.lst [.str ft])) d = some (.dK (putK [] (Sum.inr ft) (.bl false))) := by rw [j0c (Ne.symm nMd), j0b]
 have eM0 : (upd (upd H d (.dK (putK [] (Sum.inr ft) (.bl false)))) M (.lst [.str ft])) M = some (Ls [ft]) := j0b
 show Run _ _ _ [some (.str ft), some (.ref L), some (.ref d), some (.ref M), none, none, none, none, none, none] (upd (upd H d (.dK (putK [] (Sum.inr ft) (.bl false)))) M (.lst [.str ft]))
 generalize upd (upd H d (.dK (putK [] (Sum.inr ft) (.bl false)))) M (.lst [.str ft]) = H0 at s0 ed0 eM0
 refine j3d (fun m σ H' => m ≤ 1000 ∧ ∃ (kvs : List (Key × V)) (wt : List Str) (u4 u5 u6 u7 u8 u9 : Option V), Same H H' ∧ H' d = some (.dK kvs) ∧ H' M = some (Ls wt) ∧ SpI ls ft none kvs wt ∧ m = 2 * (1 + 2 * ls.length - kvs.length) + wt.length ∧
   σ = [some (.str ft), some (.ref L), some (.ref d), some (.ref M), u4, u5, u6, u7, u8, u9]) (m0 := 2 * (1 + 2 * ls.length - 1) + 1)
  ⟨by omega, _, [ft], _, _, _, _, _, _, s0, ed0, eM0, SpI.start ls ft, rfl, rfl⟩ ?_
 rintro m σ H1 ⟨hm, kvs, wt, u4, u5, u6, u7, u8, u9, s1, ed1, eM1, I, em, rfl⟩
 refine k4k (ev_v 3 (v := .ref M) ⟨!wt.isEmpty, Or.inl ⟨wt.map V.str, SqL.of eM1, by cases wt <;> rfl⟩, ?_⟩)
 rcases List.eq_nil_or_concat wt with e | ⟨wt', hh, e⟩
 ·subst e
  rw [if_neg (by decide)]
  exact j0p (ev_v 2 (q d kvs H1 s1 hd ed1 I))
 rw [List.concat_eq_append] at e
 subst e
 rw [if_pos (by cases wt' <;> rfl)]
 obtain ⟨hy, hdl⟩ := k28 wt' hh
 refine j0i 4 nd (q2d PySem.F.plainAttrs_list PySem.F.slot_list_pop PySem.F.type_list_pop k93 (ev_v 3 (v := .ref M) ⟨Or.inl ⟨rfl, _, SqL.of eM1⟩, M, _, .str hh, rfl, rfl, eM1, hy, ?_⟩))
 rw [hdl]
 have I1 := I.pop
 have lw : (wt' ++ [hh]).length = wt'.length + 1 := by rw [List.length_append]; rfl
 rw [lw] at em
 have hL1 : ∀ {H' : Hp}, Same H H' → H' L = some (.lst (us.map V.ref)) := fun s => s _ _ hL
 show Run _ _ _ [some (.str ft), some (.ref L), some (.ref d), some (.ref M), some (.str hh), u5, u6, u7, u8, u9] (upd H1 M (Ls wt'))
 have s2 : Same H (upd H1 M (Ls wt')) := j01 s1 hM0
 have ed2 : (upd H1 M (Ls wt')) d = some (.dK kvs) := by rw [j0c (Ne.symm nMd)]; exact ed1
 have eM2 : (upd H1 M (Ls wt')) M = some (Ls wt') := j0b
 generalize upd H1 M (Ls wt') = H2 at s2 ed2 eM2
 refine j2e (ev_v 1 ⟨L, rfl, ⟨_, SqL.of (hL1 s2)⟩, j1x (xs := us.map V.ref) (fun j σ H' => ∃ (kvs : List (Key × V)) (wt : List Str) (u5 u6 u7 u8 u9 : Option V), Same H H' ∧ H' d = some (.dK kvs) ∧ H' M = some (Ls wt) ∧ SpI ls ft (some hh) kvs wt ∧ 2 * (1 + 2 * ls.length - kvs.length) + wt.length < m ∧
   (∀ l ∈ ls.take j, (l.1 = hh → has kvs l.2.1) ∧ (l.2.1 = hh → has kvs l.1)) ∧ σ = [some (.str ft), some (.ref L), some (.ref d), some (.ref M), some (.str hh), u5, u6, u7, u8, u9])
  ⟨kvs, wt', _, _, _, _, _, s2, ed2, eM2, I1, by omega, fun l hl => by simp at hl, rfl⟩ ?_ ?_ ?_⟩)
 ·rintro j σ H' _ ⟨_, _, _, _, _, _, _, sm, _⟩
  exact SqL.of (hL1 sm)
 ·rintro j x σ H3 hx ⟨kvs, wt, u5, u6, u7, u8, u9, s3, ed, eM, I, hlt, hdone, rfl⟩
  rw [List.getElem?_map, Option.map_eq_some_iff] at hx
  obtain ⟨u, hu1, rfl⟩ := hx
  have hj : j < ls.length := by
   have := (List.getElem?_eq_some_iff.mp hu1).1
   omega
  have hlj : ls[j]? = some ls[j] := List.getElem?_eq_getElem hj
  have hup := (hat.same s3).2 j u _ hu1 hlj
  have hmem : ls[j] ∈ ls := List.getElem_mem hj
  have htk : ∀ l ∈ ls.take (j + 1), l ∈ ls.take j ∨ l = ls[j] := fun l hl => by
   rw [List.take_add_one, hlj] at hl
   rcases List.mem_append.mp hl with q | q
   ·exact .inl q
   ·exact .inr (by simpa using q)
  generalize ls[j] = lx at hup hmem htk
  obtain ⟨on, ot, od⟩ := lx
  refine j5l rfl (SqT.of hup) (j0j 5 nd (j0j 6 nd (j0j 7 nd ?_)))
  show Run _ _ _ [some (.str ft), some (.ref L), some (.ref d), some (.ref M), some (.str hh), some (.str on), some (.str ot), some (.bl od), u8, u9] H3
  refine k5u (j13 (j0a (j13 (j0a (ev_v 5 (j0a (ev_v 6 (j0g ⟨(by show 2 ≤ sizeLine; decide), fun t1 ht1 => ?_⟩))))))))
  refine j0a (j13 (j0a (ev_v 6 (j0a (ev_v 5 (j0g ⟨(by show 2 ≤ sizeLine; decide), fun t2 ht2 => j0g ⟨(by show 2 ≤ sizeLine; decide), fun tt htt => ?_⟩⟩))))))
  have n1 := j0e ht1 (.tup [.str on, .str ot])
  have n2 := j0e ht2 (.tup [.str ot, .str on])
  have n3 := j0e htt (.tup [.ref t1, .ref t2])
  have e1 := n3 _ _ (n2 _ _ (j0b (H := H3) (a := t1) (o := .tup [.str on, .str ot])))
  have e2 := n3 _ _ (j0b (H := upd H3 t1 (.tup [.str on, .str ot])) (a := t2) (o := .tup [.str ot, .str on]))
  have e3 := j0b (H := upd (upd H3 t1 (.tup [.str on, .str ot])) t2 (.tup [.str ot, .str on])) (a := tt) (o := .tup [.ref t1, .ref t2])
  have n := n1.trans (n2.trans n3)
  refine ⟨tt, rfl, ⟨_, SqT.of e3⟩, ?_⟩
  generalize upd (upd (upd H3 t1 (.tup [.str on, .str ot])) t2 (.tup [.str ot, .str on])) tt (.tup [.ref t1, .ref t2]) = H4 at e1 e2 e3 n
  refine k48 (xs := [.ref t1, .ref t2]) (fun i σ H' => ∃ (kvs : List (Key × V)) (wt : List Str) (u8 u9 : Option V), Same H H' ∧ H' d = some (.dK kvs) ∧ H' M = some (Ls wt) ∧ H' t1 = some (.tup [.str on, .str ot]) ∧ H' t2 = some (.tup [.str ot, .str on]) ∧ H' tt = some (.tup [.ref t1, .ref t2]) ∧ SpI ls ft (some hh) kvs wt ∧ 2 * (1 + 2 * ls.length - kvs.length) + wt.length < m ∧
   (∀ l ∈ ls.take j, (l.1 = hh → has kvs l.2.1) ∧ (l.2.1 = hh → has kvs l.1)) ∧ (0 < i → on = hh → has kvs ot) ∧ (1 < i → ot = hh → has kvs on) ∧ σ = [some (.str ft), some (.ref L), some (.ref d), some (.ref M), some (.str hh), some (.str on), some (.str ot), some (.bl od), u8, u9])
   ⟨kvs, wt, _, _, s3.trans n, n _ _ ed, n _ _ eM, e1, e2, e3, I, hlt, hdone, fun h => absurd h (by decide), fun h => absurd h (by decide), rfl⟩ ?_ ?_ ?_
  ·rintro i σ H' _ ⟨_, _, _, _, _, _, _, _, _, e, _⟩
   exact SqT.of e
  ·rintro i x σ H5 hx ⟨kvs, wt, u8, u9, s5, ed, eM, e1, e2, e3, I, hlt, hdone, d1, d2, rfl⟩
   obtain ⟨st, gl, t, rfl, et, htch, hnext⟩ : ∃ st gl t, x = .ref t ∧ H5 t = some (.tup [.str st, .str gl]) ∧ k0h ls st gl od ∧ ∀ kvs', (∀ y, has kvs y → has kvs' y) → (st = hh → has kvs' gl) → (0 < i + 1 → on = hh → has kvs' ot) ∧ (1 < i + 1 → ot = hh → has kvs' on) := by
    match i with
    | 0 =>
     cases hx
     exact ⟨on, ot, t1, rfl, e1, .inl hmem, fun kvs' mo h => ⟨fun _ => h, fun h => absurd h (by decide)⟩⟩
    | 1 =>
     cases hx
     exact ⟨ot, on, t2, rfl, e2, .inr hmem, fun kvs' mo h => ⟨fun _ e => mo _ (d1 (by decide) e), fun _ => h⟩⟩
    | i + 2 => simp at hx
   refine j2a rfl (SqT.of et) (j0j 8 nd (j0j 9 nd ?_))
   show Run _ _ _ [some (.str ft), some (.ref L), some (.ref d), some (.ref M), some (.str hh), some (.str on), some (.str ot), some (.bl od), some (.str st), some (.str gl)] H5
   have skip : (st = hh → has kvs gl) → ∃ (kvs : List (Key × V)) (wt : List Str) (u8 u9 : Option V), Same H H5 ∧ H5 d = some (.dK kvs) ∧ H5 M = some (Ls wt) ∧ H5 t1 = some (.tup [.str on, .str ot]) ∧ H5 t2 = some (.tup [.str ot, .str on]) ∧ H5 tt = some (.tup [.ref t1, .ref t2]) ∧ SpI ls ft (some hh) kvs wt ∧ 2 * (1 + 2 * ls.length - kvs.length) + wt.length < m ∧
     (∀ l ∈ ls.take j, (l.1 = hh → has kvs l.2.1) ∧ (l.2.1 = hh → has kvs l.1)) ∧ (0 < i + 1 → on = hh → has kvs ot) ∧ (1 < i + 1 → ot = hh → has kvs on) ∧ [some (V.str ft), some (.ref L), some (.ref d), some (.ref M), some (.str hh), some (.str on), some (.str ot), some (.bl od), some (.str st), some (.str gl)] = [some (.str ft), some (.ref L), some (.ref d), some (.ref M), some (.str hh), some (.str on), some (.str ot), some (.bl od), u8, u9] := fun h =>
    ⟨kvs, wt, _, _, s5, ed, eM, e1, e2, e3, I, hlt, hdone, (hnext kvs (fun _ h => h) h).1, (hnext kvs (fun _ h => h) h).2, rfl⟩
   refine j4b (j47 (j93 (j1e j4i (ev_v 8 (ev_v 4 ⟨rfl, _, rfl, ?_⟩)))))
   by_cases hst : st = hh
   ·rw [if_pos (decide_eq_true (by rw [hst]))]
    refine j6f (j5d hu (ev_v 9 (ev_v 2 ⟨d, _, rfl, DGet.k (k := Sum.inr gl) ed, ?_⟩)))
    cases hg : valV kvs (Sum.inr gl) with
    | some v =>
     show if false = true then _ else _
     rw [if_neg (by decide)]
     exact j0l (j0l (skip fun _ => ⟨v, hg⟩))
    | none =>
     show if true = true then _ else _
     rw [if_pos rfl]
     have hhh : has kvs hh := by
      rcases I.hrk with q
      exact q
     obtain ⟨v, hv⟩ := hhh
     obtain ⟨b, rfl, _⟩ := I.val hh v hv
     subst hst
     have I' := I.add (o := od) hg hv htch
     have lk := I.len
     have lk' := I'.len
     have hkl : (putK kvs (Sum.inr gl) (.bl (b != od))).length = kvs.length + 1 := by
      have hng := I.notin hg
      have := congrArg List.length (k0x kvs (Sum.inr gl) (.bl (b != od)))
      rw [if_neg hng, List.length_append, List.length_map, List.length_map] at this
      exact this
     refine j3n hu (j21 k1u (j07 hu (ev_v 2 (ev_v 4 ⟨d, .bl b, rfl, by rw [← hv]; exact DGet.k (k := Sum.inr st) ed, ev_v 7 ⟨rfl, ?_⟩⟩))))
     rw [j8f]
     refine ev_v 2 (ev_v 9 ⟨d, _, rfl, DPut.k (k := Sum.inr gl) ed (j0u (by omega)), ?_⟩)
     have eM' : (upd H5 d (.dK (putK kvs (Sum.inr gl) (.bl (b != od))))) M = some (Ls wt) := by rw [j0c nMd]; exact eM
     refine j1m (j1o (ev_v 3 ⟨M, rfl, ⟨_, eM'⟩, ev_v 9 ⟨_, eM', by rw [List.length_map]; exact j0u (by omega), ?_⟩⟩))
     have kT : ∀ c xs, H5 c = some (.tup xs) → (upd (upd H5 d (.dK (putK kvs (Sum.inr gl) (.bl (b != od))))) M (.lst (wt.map V.str ++ [.str gl]))) c = some (.tup xs) := fun c xs h => by
      rw [j0c (j1j h eM fun z => nomatch z), j0c (j1j h ed fun z => nomatch z)]
      exact h
     have mo : ∀ y, has kvs y → has (putK kvs (Sum.inr gl) (.bl (b != od))) y := fun y h => j5m h
     have hn := hnext _ mo (fun _ => ⟨.bl (b != od), by rw [j0q, if_pos rfl]⟩)
     refine j0l (j0l ⟨_, wt ++ [gl], _, _, j01 (j01 s5 hd) hM0, ?_, ?_, kT _ _ e1, kT _ _ e2, kT _ _ e3, I', ?_, fun l hl => ⟨fun e => mo _ ((hdone l hl).1 e), fun e => mo _ ((hdone l hl).2 e)⟩, hn.1, hn.2, rfl⟩)
     ·rw [j0c (Ne.symm nMd)]
      exact j0b
     ·rw [j0b]
      show some (HO.lst (wt.map V.str ++ [.str gl])) = some (HO.lst ((wt ++ [gl]).map V.str))
      rw [List.map_append]
      rfl
     ·rw [hkl, List.length_append]
      rw [hkl] at lk'
      show _ + (wt.length + 1) < m
      omega
   ·rw [if_neg (fun h => hst (V.str.inj (of_decide_eq_true h)))]
    show if false = true then _ else _
    rw [if_neg (by decide)]
    exact j0l (j0l (skip fun h => absurd h hst))
  ·rintro σ H5 ⟨kvs, wt, u8, u9, s5, ed, eM, _, _, _, I, hlt, hdone, d1, d2, rfl⟩
   refine j0l ⟨kvs, wt, _, _, _, _, _, s5, ed, eM, I, hlt, fun l hl => ?_, rfl⟩
   rcases htk l hl with q | q
   ·exact hdone l q
   ·subst q
    exact ⟨d1 (by show 0 < 2; decide), d2 (by show 1 < 2; decide)⟩
 ·rintro σ H3 ⟨kvs, wt, u5, u6, u7, u8, u9, s3, ed, eM, I, hlt, hdone, rfl⟩
  rw [List.length_map, lus, List.take_length] at hdone
  refine j0l ⟨_, hlt, by omega, kvs, wt, _, _, _, _, _, _, s3, ed, eM, I.close fun y o ht => ?_, rfl, rfl⟩
  rcases ht with h | h
  ·exact (hdone _ h).1 rfl
  ·exact (hdone _ h).2 rfl
end
end D4
namespace Nt
open PySem L2
theorem k45 {X : Cx} {H : Hp} {k : Nat} (y z : Str) : EqD X H k (.str y) (.str z) (decide (y = z)) := by
 have := j3l (X := X) (H := H) (k := k) (x := .str y) (y := .str z) rfl rfl
 have e : eqV (.str y) (.str z) = decide (y = z) := by
  show (y == z) = _
  rw [Bool.eq_iff_iff, decide_eq_true_iff]
  simp
 rw [e] at this
 exact this
theorem q0g (ys zs : List Str) (h : ys.length = zs.length) : (List.range ys.length).all (fun j => decide (ys[j]? = zs[j]?)) = decide (ys = zs) := by
 rw [Bool.eq_iff_iff, List.all_eq_true, decide_eq_true_iff]
 constructor
 ·intro q
  refine List.ext_getElem? fun j => ?_
  by_cases hj : j < ys.length
  ·exact of_decide_eq_true (q j (List.mem_range.mpr hj))
  ·rw [List.getElem?_eq_none (by omega), List.getElem?_eq_none (by omega)]
 ·rintro rfl j _
  exact decide_eq_true rfl
theorem k30 {X : Cx} {H : Hp} {a b : Addr} {ys zs : List Str} (ha : H a = some (Ls ys)) (hb : H b = some (Ls zs)) : RcD X H 1 (.ref a) (.ref b) (decide (ys = zs)) := by
 by_cases hl : ys.length = zs.length
 ·have q := j60 (X := X) (k := 0) (fun j => decide (ys[j]? = zs[j]?)) (SqL.of (K := X.K) ha) (SqL.of (K := X.K) hb) (by rw [List.length_map, List.length_map, hl]) fun j x y hx hy => by
   rw [List.getElem?_map, Option.map_eq_some_iff] at hx hy
   obtain ⟨u, hu, rfl⟩ := hx
   obtain ⟨v, hv, rfl⟩ := hy
   have := k45 (X := X) (H := H) (k := 0) u v
   have e : decide (ys[j]? = zs[j]?) = decide (u = v) := by
    rw [hu, hv, Bool.eq_iff_iff, decide_eq_true_iff, decide_eq_true_iff]
    exact ⟨Option.some.inj, fun h => by rw [h]⟩
   rw [e]
   exact this
  rw [List.length_map, q0g ys zs hl] at q
  exact q
 ·have e : decide (ys = zs) = false := decide_eq_false fun q => hl (by rw [q])
  rw [e]
  exact k4u (SqL.of ha) (SqL.of hb) (by rw [List.length_map, List.length_map]; exact hl)
theorem j95 {n : Net} (T : j02 n) {ss : List Str} {ls : List Bl} (t : Tells n ss ls) (h0 : 0 < n.length) {x : Str} {b : Bool} (w : Way ls (fstN n) x b) : x ∈ n.map (·.1) := by
 have k : ∀ {x y : Str} {o : Bool}, (x, y, o) ∈ ls → x ∈ n.map (·.1) ∧ y ∈ n.map (·.1) := fun {x y o} h => by
  obtain ⟨e, z, he, hl⟩ := t.fro _ h
  have h1 : x = nmA n e.1 := congrArg (·.1) hl
  have h2 : y = nmA n (other n e).1 := congrArg (·.2.1) hl
  rw [h1, h2]
  exact ⟨j25 (j1h he), j25 (j6c T he)⟩
 cases w with
 | here => exact j25 h0
 | there w h => exact (k h).2
 | back w h => exact (k h).1
theorem k0u {n : Net} (T : j02 n) {ss : List Str} {ls : List Bl} (t : Tells n ss ls) (h0 : 0 < n.length) {kvs : List (Key × V)} (I : SpI ls (fstN n) none kvs []) : kvs.length ≤ n.length := by
 have := nodup_le I.nod (b := (n.map (·.1)).map Sum.inr) fun k hk => by
  obtain ⟨x, rfl, _⟩ := I.txt k hk
  have : ∃ v, valV kvs (Sum.inr x) = some v := by
   cases hv : valV kvs (Sum.inr x) with
   | some v => exact ⟨v, rfl⟩
   | none => exact absurd hk (I.notin hv)
  obtain ⟨v, hv⟩ := this
  obtain ⟨b, _, w⟩ := I.val x v hv
  exact List.mem_map.mpr ⟨x, j95 T t h0 w, rfl⟩
 rw [List.length_map, List.length_map, List.length_map] at this
 exact this
theorem j8i {n : Net} (T : j02 n) (hh : Hang n) (h0 : 0 < n.length) {ss sd : List Str} {ls : List Bl} (t : Tells n ss ls) {kvs : List (Key × V)} (I : SpI ls (fstN n) none kvs []) (hs : Srt sd) (hm : ∀ x, x ∈ sd ↔ valV kvs (Sum.inr x) = some (.bl true)) :
  ((∀ z, z ∈ ss ↔ j6a n sd z) → IsSide n ss sd) ∧ ∀ sd', IsSide n ss sd' → sd' = sd := by
 constructor
 ·intro hc
  obtain ⟨b, hb⟩ := I.whole (fstN n) false .here
  obtain ⟨b', e, w⟩ := I.val _ _ hb
  cases e
  refine j8e T t hs (fun x hx => ?_) hc w ?_
  ·obtain ⟨b', e, w⟩ := I.val _ _ ((hm x).mp hx)
   exact j95 T t h0 w
  ·rw [hm, hb]
   exact ⟨fun q => V.bl.inj (Option.some.inj q), fun q => by rw [q]⟩
 ·intro sd' h
  refine j4j h.srt hs fun x => ?_
  rw [hm]
  constructor
  ·intro hx
   obtain ⟨b, w⟩ := k73 T hh h0 t x (h.mem x hx)
   obtain ⟨b', hb'⟩ := I.whole x b w
   obtain ⟨b2, e, w2⟩ := I.val _ _ hb'
   cases e
   have := j4v T t h w2
   rw [decide_eq_true hx] at this
   rw [hb', ← this]
  ·intro hx
   obtain ⟨b2, e, w2⟩ := I.val _ _ hx
   cases e
   exact of_decide_eq_true (j4v T t h w2)
end Nt
namespace D4
open PySem L2 Nt Sort2
open PyProof.Rows (sortedS)
def j82 : Sp := fun vs H Q _ => ∃ (R p : Addr) (as : List (Addr × Addr)) (n : Net) (ps : List Str), vs = [.ref R, .ref p] ∧ RowsAt H R as n ∧ j02 n ∧ n.length ≤ 60 ∧ (ties n).length ≤ 60 ∧ H p = some (Ls ps) ∧
 ∀ (L : Addr) (cs : List Str) (H' : Hp), Same H H' → H L = none → H' L = some (Ls cs) → Srt cs → (∀ z, z ∈ cs ↔ j6a n ps z) → cs.length ≤ 60 → Q (.ref L) H'
def j6d : Sp := fun vs H Q _ => ∃ (R p : Addr) (as : List (Addr × Addr)) (n : Net) (ss : List Str), vs = [.ref R, .ref p] ∧ RowsAt H R as n ∧ j02 n ∧ Hang n ∧ 0 < n.length ∧ n.length ≤ 60 ∧ (ties n).length ≤ 60 ∧ H p = some (Ls ss) ∧ Srt ss ∧
 (∀ (L : Addr) (sd : List Str) (H' : Hp), Same H H' → H L = none → H' L = some (Ls sd) → IsSide n ss sd → Q (.ref L) H') ∧ (∀ H', Same H H' → (∀ sd, ¬ IsSide n ss sd) → Q .non H')
section
variable {P : Program} {w : World} {K : PySem.W.Frag} {mg : Str → Option Value} {base : Heap}
def crs (ps : List Str) (x : Lk) : Bool := decide (x.2.1 ∈ ps) != decide (x.2.2 ∈ ps)
def cutL (ps : List Str) (ls : List Lk) : List Str := (ls.filter (crs ps)).map (·.1)
theorem k5f {ps : List Str} {ls : List Lk} (h : j61 ls) : Srt (cutL ps ls) := by
 unfold Srt cutL
 rw [List.pairwise_map]
 exact h.sublist List.filter_sublist
theorem k4r {n : Net} (T : j02 n) {ps : List Str} {ls : List Lk} (h : ∀ x, x ∈ ls ↔ j4n n x) (z : Str) : z ∈ cutL ps ls ↔ j6a n ps z := by
 unfold cutL
 rw [List.mem_map]
 constructor
 ·rintro ⟨x, hx, rfl⟩
  rw [List.mem_filter] at hx
  exact (j6s T ((h x).mp hx.1)).mpr hx.2
 ·intro hc
  obtain ⟨e, he, _⟩ := id hc
  rcases j92 T he with q | q
  ·exact ⟨_, List.mem_filter.mpr ⟨(h _).mpr q, (j6s T q).mp hc⟩, rfl⟩
  ·exact ⟨_, List.mem_filter.mpr ⟨(h _).mpr q, (j6s T q).mp hc⟩, rfl⟩
theorem j9w (ps : List Str) (ls : List Lk) : (cutL ps ls).length ≤ ls.length := by
 unfold cutL
 rw [List.length_map]
 exact List.length_filter_le _ _
theorem k2u (ps : List Str) (ls : List Lk) (x : Lk) : cutL ps (ls ++ [x]) = cutL ps ls ++ (if crs ps x = true then [x.1] else []) := by
 unfold cutL
 rw [List.filter_append, List.map_append]
 congr 1
 cases h : crs ps x <;> simp [h]
theorem j16 (zs : List Str) (z : Str) : zs.contains z = decide (z ∈ zs) := by
 rw [Bool.eq_iff_iff, decide_eq_true_iff]
 exact List.contains_iff_mem
abbrev NCu : List Str := ["rows", "points"]
abbrev NCu' : List Str := ["rows", "points", "tie", "one", "other"]
theorem scCu : FnScope NCu ["rows", "points"] (j0h j9u) := ⟨rfl, rfl, rfl, by decide +kernel, rfl, by decide +kernel, by decide +kernel⟩
theorem k8q : NCu'.Nodup := by decide +kernel
theorem k9n {f : Addr} {fd : FuncData} (F : Fun K "cut_of" "cut_of" j9u f fd) (T : Txt mg)
  (G : Has P w K mg base 1 "links_of" ["rows"] j6e) :
  FnOk P w K mg base CX0 2 f fd ["rows", "points"] j82 := by
 refine F.gb scCu (fun vs H Q E h => ?_) (fun b0 H vs Q E hr h => ?_)
 ·obtain ⟨R, p, as, n, ps, rfl, _⟩ := h
  rfl
 obtain ⟨R, p, as, n, ps, rfl, hR, hT, hn, ht, hp, q⟩ := h
 show Run _ _ _ [some (.ref R), some (.ref p)] H
 refine j0p (j2u (j0h j9u) NCu NCu' 3 (j1s j00) (j0t G hr (j0a (ev_v 0 (j0g ⟨R, as, n, rfl, hR, hT, by omega, ht, fun L us ls H1 s1 n1 eL hat hso hmem hlen => ?_⟩)))))
 refine ⟨L, rfl, ⟨_, SqL.of eL⟩, fun D hD => ?_⟩
 have nLD : L ≠ D := j0d eL hD
 have npD : p ≠ D := j0d (s1 _ _ hp) hD
 have lus := hat.1
 refine j2h (xs := us.map V.ref) (fun i σ' H' => (∃ v1 v2 v3, σ' = [some (.ref R), some (.ref p)] ++ [v1, v2, v3]) ∧ H' = upd H1 D (Ls (cutL ps (ls.take i)))) ⟨⟨_, _, _, rfl⟩, rfl⟩ ?_ ?_ ?_
 ·rintro i σ' H' _ ⟨_, rfl⟩
  exact SqL.of (by rw [j0c nLD]; exact eL)
 ·rintro i x σ' H' hx ⟨⟨v1, v2, v3, rfl⟩, rfl⟩
  rw [List.getElem?_map, Option.map_eq_some_iff] at hx
  obtain ⟨u, hu1, rfl⟩ := hx
  have hi : i < ls.length := by
   have := (List.getElem?_eq_some_iff.mp hu1).1
   omega
  have hli : ls[i]? = some ls[i] := List.getElem?_eq_getElem hi
  have hup := hat.2 i u _ hu1 hli
  have etk : ls.take (i + 1) = ls.take i ++ [ls[i]] := by rw [List.take_add_one, hli]; rfl
  rw [etk, k2u]
  generalize ls[i] = lx at hup
  obtain ⟨ti, on, ot⟩ := lx
  have hup' : (upd H1 D (Ls (cutL ps (ls.take i)))) u = some (.tup [.str ti, .str on, .str ot]) := by rw [j0c (j0d hup hD)]; exact hup
  have hp' : (upd H1 D (Ls (cutL ps (ls.take i)))) p = some (Ls ps) := by rw [j0c npD]; exact s1 _ _ hp
  intro cl C' s₀ H₀ ex
  refine j5l rfl (SqT.of hup') (j0j 2 k8q (j0j 3 k8q (j0j 4 k8q ?_)))
  intro cl C' s₀ H₀ ex
  refine j3b (j1e k1u (j21 j2p (ev_v 3 (ev_v 1 ⟨p, _, rfl, .inl (SqL.of hp'), rfl, j1w _, ?_⟩))))
  refine j21 j2p (ev_v 4 (ev_v 1 ⟨p, _, rfl, .inl (SqL.of hp'), rfl, j1w _, rfl, _, rfl, ?_⟩))
  have fF : ∀ (x y : Bool), (if false = true then x else y) = y := fun _ _ => rfl
  rw [fF, fF, j2g, j2g, j16, j16, j8f]
  show if crs ps (ti, on, ot) = true then _ else _
  have hcl := Nat.le_trans (j9w ps (ls.take i)) (show (ls.take i).length ≤ ls.length by rw [List.length_take]; omega)
  by_cases hc : crs ps (ti, on, ot) = true
  ·rw [if_pos hc]
   intro cl C' s₀ H₀ ex
   refine ev_v 2 ⟨_, j0b, by rw [List.length_map]; exact j0u (by omega), ⟨_, _, _, rfl⟩, ?_⟩
   rw [j4l, if_pos hc]
   exact k18
  ·rw [if_neg hc]
   refine ⟨⟨_, _, _, rfl⟩, ?_⟩
   rw [if_neg hc, List.append_nil]
 ·rintro σ' H' ⟨_, rfl⟩
  rw [List.length_map, lus, List.take_length]
  have hcl := j9w ps ls
  exact q D _ _ (s1.trans (j0e hD _)) (j1i s1 hD) j0b (k5f hso) (k4r hT hmem) (by omega)
abbrev blk (ss : List Str) (x : Lk) : Bl := (x.2.1, x.2.2, decide (x.1 ∈ ss))
abbrev NSi : List Str := ["rows", "some", "links", "odds", "side"]
abbrev NSi1 : List Str := ["rows", "some", "links", "odds", "side", "tie", "one", "other"]
abbrev NSi2 : List Str := ["rows", "some", "links", "odds", "side", "point"]
theorem scSi : FnScope NSi ["rows", "some"] (j0h j5f) := ⟨rfl, rfl, rfl, by decide +kernel, rfl, by decide +kernel, by decide +kernel⟩
theorem k1o : NSi1.Nodup := by decide +kernel
theorem q0k : NSi2.Nodup := by decide +kernel
theorem k2c {kvs : List (Key × V)} (hn : (kvs.map (·.1)).Nodup) {k : Key} {v : V} : (k, v) ∈ kvs ↔ valV kvs k = some v := by
 induction kvs with
 | nil => exact ⟨fun h => (by cases h), fun h => (by cases h)⟩
 | cons c r ih =>
  rw [List.map_cons, List.nodup_cons] at hn
  obtain ⟨c1, c2⟩ := c
  by_cases hc : c1 = k
  ·subst hc
   rw [j1g rfl]
   constructor
   ·intro h
    rcases List.mem_cons.mp h with e | e
    ·cases e
     rfl
    ·exact absurd (List.mem_map.mpr ⟨_, e, rfl⟩) hn.1
   ·intro h
    cases h
    exact List.mem_cons_self ..
  ·rw [j1f hc, ← ih hn.2]
   constructor
   ·intro h
    rcases List.mem_cons.mp h with e | e
    ·cases e
     exact absurd rfl hc
    ·exact e
   ·exact List.mem_cons_of_mem _
def j70 : Key → Str
 | Sum.inr z => z
 | _ => ⟨#[]⟩
def isT : V → Bool
 | .bl b => b
 | _ => false
def j3w (kvs : List (Key × V)) : List Str := (kvs.filter fun p => isT p.2).map fun p => j70 p.1
theorem j67 (kvs : List (Key × V)) : (j3w kvs).length ≤ kvs.length := by
 unfold j3w
 rw [List.length_map]
 exact List.length_filter_le _ _
theorem k0z (kvs : List (Key × V)) (p : Key × V) : j3w (kvs ++ [p]) = j3w kvs ++ (if isT p.2 = true then [j70 p.1] else []) := by
 unfold j3w
 rw [List.filter_append, List.map_append]
 congr 1
 cases h : isT p.2 <;> simp [h]
theorem k3c {kvs : List (Key × V)} (hn : (kvs.map (·.1)).Nodup) (ht : ∀ k ∈ kvs.map (·.1), ∃ x, k = Sum.inr x) (x : Str) : x ∈ j3w kvs ↔ valV kvs (Sum.inr x) = some (.bl true) := by
 rw [← k2c hn]
 unfold j3w
 rw [List.mem_map]
 constructor
 ·rintro ⟨⟨k, v⟩, hp, rfl⟩
  rw [List.mem_filter] at hp
  obtain ⟨y, hy⟩ := ht k (List.mem_map.mpr ⟨_, hp.1, rfl⟩)
  have hv : isT v = true := hp.2
  subst hy
  cases v with
  | bl b =>
   have : b = true := hv
   subst this
   exact hp.1
  | _ => cases hv
 ·intro h
  exact ⟨_, List.mem_filter.mpr ⟨h, rfl⟩, rfl⟩
theorem j83 {kvs : List (Key × V)} (hn : (kvs.map (·.1)).Nodup) (ht : ∀ k ∈ kvs.map (·.1), ∃ x, k = Sum.inr x) : (j3w kvs).Nodup := by
 have e : ((kvs.filter fun p => isT p.2).map (·.1)).Nodup := hn.sublist (List.filter_sublist.map _)
 unfold j3w
 have e2 : ((kvs.filter fun p => isT p.2).map fun p => j70 p.1).map Sum.inr = (kvs.filter fun p => isT p.2).map (fun p => (p.1 : Key)) := by
  rw [List.map_map]
  refine List.map_congr_left fun p hp => ?_
  obtain ⟨y, hy⟩ := ht p.1 (List.mem_map.mpr ⟨p, (List.mem_filter.mp hp).1, rfl⟩)
  show Sum.inr (j70 p.1) = p.1
  rw [hy]
  rfl
 rw [List.nodup_iff_pairwise_ne]
 have e3 : (((kvs.filter fun p => isT p.2).map fun p => j70 p.1).map (Sum.inr : Str → Key)).Nodup := by rw [e2]; exact e
 rw [List.nodup_iff_pairwise_ne, List.pairwise_map] at e3
 exact e3.imp fun h q => h (by rw [q])
theorem k78 {f : Addr} {fd : FuncData} (F : Fun K "side_of" "side_of" j5f f fd) (T : Txt mg)
  (GL : Has P w K mg base 2 "links_of" ["rows"] j6e)
  (GS : Has P w K mg base 2 "spread" ["first", "links"] j6g)
  (GC : Has P w K mg base 2 "cut_of" ["rows", "points"] j82) :
  FnOk P w K mg base CX0 3 f fd ["rows", "some"] j6d := by
 refine F.gb scSi (fun vs H Q E h => ?_) (fun b0 H vs Q E hr h => ?_)
 ·obtain ⟨R, p, as, n, ps, rfl, _⟩ := h
  rfl
 obtain ⟨R, p, as, n, ss, rfl, hR, hT, hHg, h0, hn, ht, hp, hss, q1, q2⟩ := h
 have nd := scSi.nd
 have hu := hr.u100
 have hu1 := hr.u1
 show Run _ _ _ [some (.ref R), some (.ref p), none, none, none] H
 refine j42 2 (j0h j5f) NSi NSi1 3 nd (j1s j00) (j0t GL hr (j0a (ev_v 0 (j0g ⟨R, as, n, rfl, hR, hT, by omega, ht, fun L us ls H1 s1 n1 eL hat hso hmem hlen => ?_⟩))))
 refine ⟨L, rfl, ⟨_, SqL.of eL⟩, fun D hD => ?_⟩
 have lus := hat.1
 have tl := k2d (ss := ss) hT hmem
 refine j2h (xs := us.map V.ref) (fun i σ' H' => (∃ v1 v2 v3, σ' = [some (.ref R), some (.ref p), none, none, none] ++ [v1, v2, v3]) ∧ ∃ ws : List Addr, Same H1 H' ∧ H' D = some (.lst (ws.map V.ref)) ∧ AtB H' ws ((ls.take i).map (blk ss))) ⟨⟨_, _, _, rfl⟩, [], j0e hD _, j0b, rfl, fun j u x h => by simp at h⟩ ?_ ?_ ?_
 ·rintro i σ' H' _ ⟨_, ws, sm, _⟩
  exact SqL.of (sm _ _ eL)
 ·rintro i x σ' H' hx ⟨⟨v1, v2, v3, rfl⟩, ws, sm, eD, hatb⟩
  rw [List.getElem?_map, Option.map_eq_some_iff] at hx
  obtain ⟨u, hu1, rfl⟩ := hx
  have hi : i < ls.length := by
   have := (List.getElem?_eq_some_iff.mp hu1).1
   omega
  have hli : ls[i]? = some ls[i] := List.getElem?_eq_getElem hi
  have hup := sm _ _ (hat.2 i u _ hu1 hli)
  have etk : (ls.take (i + 1)).map (blk ss) = (ls.take i).map (blk ss) ++ [blk ss ls[i]] := by rw [List.take_add_one, hli, List.map_append]; rfl
  rw [etk]
  have lw : ws.length = i := by
   have := hatb.1
   rw [List.length_map, List.length_take] at this
   omega
  generalize ls[i] = lx at hup
  obtain ⟨ti, on, ot⟩ := lx
  have hp' := sm _ _ (s1 _ _ hp)
  intro cl C' s₀ H₀ ex
  refine j5l rfl (SqT.of hup) (j0j 5 k1o (j0j 6 k1o (j0j 7 k1o ?_)))
  intro cl C' s₀ H₀ ex
  refine j3q ?_
  rw [if_pos rfl]
  intro cl C' s₀ H₀ ex
  refine j13 (j0a (ev_v 6 (j0a (ev_v 7 (j0a (j21 j2p (ev_v 5 (ev_v 1 ⟨p, _, rfl, .inl (SqL.of hp'), rfl, j1w _, j0g ⟨(by show 3 ≤ sizeLine; decide), fun t ht' => ?_⟩⟩))))))))
  have fF : ∀ (x y : Bool), (if false = true then x else y) = y := fun _ _ => rfl
  rw [fF, j2g, j16]
  have ntD : t ≠ D := fun e => by rw [e, eD] at ht'; cases ht'
  have sT := j0e ht' (.tup [.str on, .str ot, .bl (decide (ti ∈ ss))])
  refine ⟨_, sT _ _ eD, by rw [List.length_map]; exact j0u (by omega), ⟨_, _, _, rfl⟩, ws ++ [t], j01 (sm.trans sT) hD, ?_, ?_, ?_⟩
  ·rw [j0b, List.map_append]
   rfl
  ·rw [List.length_append, List.length_append, hatb.1]
   rfl
  ·intro j v y h1 h2
   have hl := hatb.1
   by_cases hj : j < ws.length
   ·rw [List.getElem?_append_left hj] at h1
    rw [List.getElem?_append_left (by omega)] at h2
    have e := hatb.2 j v y h1 h2
    rw [j0c (j1j (sT _ _ e) (sT _ _ eD) fun z => nomatch z)]
    exact sT _ _ e
   ·rw [List.getElem?_append_right (by omega)] at h1 h2
    have hj2 : j - ws.length = 0 := by
     have := (List.getElem?_eq_some_iff.mp h1).1
     simp at this
     omega
    rw [hj2] at h1
    rw [← hl, hj2] at h2
    cases h1
    cases h2
    rw [j0c ntD]
    exact j0b
 ·rintro σ' H2 ⟨_, ws, s2, eD, hatb⟩
  rw [List.length_map, lus, List.take_length] at hatb
  have sH2 : Same H H2 := s1.trans s2
  have hR2 := hR.same sH2
  obtain ⟨a0, ea0, eat0, et0, el0, er0⟩ := hR2.at h0
  have hf : n[0].1 = fstN n := (j2x h0).symm
  show Run _ _ _ [some (.ref R), some (.ref p), some (.ref D), none, none] H2
  refine j0i 3 nd (j0t GS hr (j0a (j0r j0z (j0r j0x (ev_v 0 (j0f ⟨R, _, _, .ref a0.1, rfl, rfl, SqL.of hR2.lst, eat0, j0f ⟨a0.1, _, _, .str n[0].1, rfl, rfl, SqT.of et0, rfl, ?_⟩⟩))))))
  refine j0a (ev_v 2 (j0g ⟨n[0].1, D, ws, ls.map (blk ss), rfl, eD, hatb, by rw [List.length_map]; exact hlen, fun d kvs H3 s3 nd3 ed3 I => ?_⟩))
  rw [hf] at I
  have sH3 : Same H H3 := sH2.trans s3
  have hkl := k0u hT tl h0 I
  have htx : ∀ k ∈ kvs.map (·.1), ∃ x, k = Sum.inr x := fun k hk => (I.txt k hk).imp fun x h => h.1
  show Run _ _ _ [some (.ref R), some (.ref p), some (.ref D), some (.ref d), none] H3
  refine j0i 4 nd (j06 j1r T.sorted PyProof.Rows.boot_sorted (j0a (j2u (j0h j5f) NSi NSi2 1 (k7n j00) (ev_v 3 ⟨d, kvs, rfl, ed3, fun ob E2 hE2 => ?_⟩))))
  have nE : E2 ≠ d := fun e => by rw [e, j0b] at hE2; cases hE2
  have hE3 : H3 E2 = none := by rw [j0c nE] at hE2; exact hE2
  have hd0 : H d = none := sH2.free nd3
  refine k1c (fun i σ' H' => (∃ v, σ' = [some (.ref R), some (.ref p), some (.ref D), some (.ref d), none] ++ [v]) ∧ H' = upd (upd H3 d (.frz ob (.dK kvs))) E2 (Ls (j3w (kvs.take i)))) ⟨⟨_, rfl⟩, rfl⟩ ?_ ?_ ?_
  ·rintro i σ' H' _ ⟨_, rfl⟩
   rw [j0c (Ne.symm nE), j0b]
  ·rintro i pr σ' H' hpr ⟨⟨v, rfl⟩, rfl⟩
   have hm : pr ∈ kvs := List.mem_of_getElem? hpr
   have etk : kvs.take (i + 1) = kvs.take i ++ [pr] := by rw [List.take_add_one, hpr]; rfl
   obtain ⟨k, vv⟩ := pr
   obtain ⟨z, rfl⟩ := htx k (List.mem_map.mpr ⟨_, hm, rfl⟩)
   have hv := (k2c I.nod).mp hm
   obtain ⟨b, rfl, _⟩ := I.val z vv hv
   rw [etk, k0z]
   intro cl C' s₀ H₀ ex
   refine j0j 5 q0k ?_
   intro cl C' s₀ H₀ ex
   have dg : DGet (upd (upd H3 d (.frz ob (.dK kvs))) E2 (Ls (j3w (kvs.take i)))) d (kV (Sum.inr z)) (some (.bl b)) := by
    rw [← hv]
    exact .inl ⟨kvs, Sum.inr z, .inr ⟨ob, by rw [j0c (Ne.symm nE), j0b]⟩, rfl, rfl⟩
   refine j3b (k2g (j07 hu1 (ev_v 3 (ev_v 5 ⟨d, .bl b, rfl, dg, b, rfl, ?_⟩))))
   have htl := Nat.le_trans (j67 (kvs.take i)) (show (kvs.take i).length ≤ kvs.length by rw [List.length_take]; omega)
   by_cases hb : b = true
   ·rw [if_pos hb]
    intro cl C' s₀ H₀ ex
    refine ev_v 5 ⟨_, j0b, by rw [List.length_map]; exact j0u (by omega), ⟨_, rfl⟩, ?_⟩
    rw [j4l, if_pos (show isT (.bl b) = true from hb)]
    exact k18
   ·rw [if_neg hb]
    refine ⟨⟨_, rfl⟩, ?_⟩
    rw [if_neg (show ¬ isT (.bl b) = true from hb), List.append_nil]
  ·rintro σ' H' ⟨_, rfl⟩
   rw [List.take_length]
   have htl := j67 kvs
   refine j0g ⟨E2, _, rfl, SqL.of j0b, by omega, fun l sd hl hpm hso2 => ?_⟩
   have nlE : l ≠ E2 := fun e => by rw [e, j0b] at hl; cases hl
   have nld : l ≠ d := fun e => by rw [e, j0c (Ne.symm nE), j0b] at hl; cases hl
   have hl3 : H3 l = none := by rw [j0c nlE, j0c nld] at hl; exact hl
   have hl0 : H l = none := sH3.free hl3
   have hE0 : H E2 = none := sH3.free hE3
   have sH4 : Same H (upd (upd (upd H3 d (.frz ob (.dK kvs))) E2 (Ls (j3w kvs))) l (.lst (sd.map V.str))) := fun c o' hc => by
    rw [j0c (j0d hc hl0), j0c (j0d hc hE0), j0c (j0d hc hd0)]
    exact sH3 _ _ hc
   have el4 : (upd (upd (upd H3 d (.frz ob (.dK kvs))) E2 (Ls (j3w kvs))) l (.lst (sd.map V.str))) l = some (Ls sd) := j0b
   show Run _ _ _ [some (.ref R), some (.ref p), some (.ref D), some (.ref d), some (.ref l)] (upd (upd (upd H3 d (.frz ob (.dK kvs))) E2 (Ls (j3w kvs))) l (.lst (sd.map V.str)))
   generalize upd (upd (upd H3 d (.frz ob (.dK kvs))) E2 (Ls (j3w kvs))) l (.lst (sd.map V.str)) = H4 at sH4 el4 ⊢
   have hsd : Srt sd := j7d hso2 (hpm.nodup_iff.mpr (j83 I.nod htx))
   have key := j8i hT hHg h0 tl I hsd fun x => by rw [hpm.mem_iff]; exact k3c I.nod htx x
   refine j0p (k4c (j1e (k2y hu) (j0t GC hr (j0a (ev_v 0 (j0a (ev_v 4 (j0g ⟨R, l, as, n, sd, rfl, hR.same sH4, hT, hn, ht, el4, fun L5 cs H5 s5 n5 e5 so5 m5 l5 => ?_⟩))))))))
   have sH5 := sH4.trans s5
   refine ev_v 1 ⟨1, _, by omega, k30 e5 (sH5 _ _ hp), _, rfl, ?_⟩
   by_cases hcs : cs = ss
   ·rw [if_pos (decide_eq_true hcs)]
    exact ev_v 4 (q1 l sd H5 sH5 hl0 (s5 _ _ el4) (key.1 fun z => by rw [← hcs]; exact m5 z))
   ·rw [if_neg (fun h => hcs (of_decide_eq_true h))]
    refine j54 (q2 H5 sH5 fun sd' hs' => ?_)
    have e := key.2 sd' hs'
    subst e
    exact hcs (j4j so5 hss fun z => (m5 z).trans (hs'.cut z).symm)
end
end D4
namespace L2
open PySem PySem.Spec PyProof.Rows SetT
section
variable {prog : Program} {w : World} {A : Around} {E : Value → Shared → Prop} {s : Shared} {T : String} {r d : Addr} {n : Nat} {P : Nat → Value → Prop} {OK : Heap → Prop}
theorem j9c {R : List Value → Shared → Prop} (K : PySem.W.KdlSrc prog w T r d n P OK) (hh : A.handled = none) (hok : OK s.heap) (hn : n ≤ sizeLine)
  (h : ∀ (h' : Heap) (tk : Nat) (acc : Array Value), (∀ b o, s.heap.get? b = some o → h'.get? b = some o) → s.heap.objs.size < h'.objs.size → ItemsOf P acc n → R acc.toList { s with heap := h', toks := tk }) :
  wpAny (model prog w) A (collect (.ref r)) R E s := by
 obtain ⟨l1, l2⟩ := K.there _ hok
 unfold collect
 refine wpAny_bind (wpAny_runValue (codeAny_builtin F.entry_proto_collect ?_))
 rw [Around.under_plainId F.plain_proto_collect _]
 show wpAny _ A.in1 (newList [] >>= fun l => again (.builtin "list.__iadd__" ⟨[l, .ref r], []⟩)) _ _ s
 refine wpAny_bind (wpAny_newList ?_)
 refine wpAny_pure ⟨plainId_quiet F.plain_list_iadd _, codeAny_builtin F.entry_list_iadd ?_⟩
 rw [Around.under_plainId F.plain_list_iadd _]
 generalize hL : s.heap.objs.size = L at *
 have hS : (s.heap.push { cls := .type "list", data := .seq ([] : List Value).toArray }).get? L = some { cls := .type "list", data := .seq #[] } := by rw [← hL]; exact Heap.get?_push_size _ rfl
 show wpAny _ A.in1 (Builtin.List.listExtendWith (.ref L) (.ref r) (.ref L)) _ _ _
 refine wpAny_mono (PySem.W.kdl_extend (A := A) (s := { s with heap := s.heap.push { cls := .type "list", data := .seq ([] : List Value).toArray } })
  (R := fun (q : Result) (s' : Shared) => ∃ (h' : Heap) (tk : Nat) (acc : Array Value) (c : Nat), q = .ok (.ret (.ref L)) ∧ s' = { s with heap := h', toks := tk } ∧ (∀ b o, s.heap.get? b = some o → h'.get? b = some o) ∧ h'.get? L = some { cls := .type "list", dict := none, data := .seq acc c, slots := #[] } ∧ ItemsOf P acc n)
  K hh (K.keep _ _ hok fun b _ o e => Heap.get?_push_of_some _ e) L (Nat.ne_of_gt l1) (Nat.ne_of_gt l2) (.ref L) 0 hS
  (fun h' tk acc c hk hS' hacc => ⟨h', tk, acc, c, rfl, rfl, fun b o e => hk b o (by rw [← hL]; exact Nat.ne_of_lt (Heap.lt_size e)) (Heap.get?_push_of_some _ e), hS', hacc⟩) hn) (fun fin s' x => ?_) fun e s' x => ?_
 ·cases fin with
  | done f =>
   obtain ⟨h', tk, acc, c, e, rfl, hk, hS', hacc⟩ := x
   cases e
   show wpAny _ A (load L >>= _) _ _ _
   exact wpAny_bind (wpAny_load hS' (wpAny_pure (h h' tk acc hk (Heap.lt_size hS') hacc)))
  | again c₁ =>
   refine ⟨x.1, codeAny_mono x.2 fun q s₂ y => ?_⟩
   obtain ⟨h', tk, acc, c, rfl, rfl, hk, hS', hacc⟩ := y
   show wpAny _ A (load L >>= _) _ _ _
   exact wpAny_bind (wpAny_load hS' (wpAny_pure (h h' tk acc hk (Heap.lt_size hS') hacc)))
 ·obtain ⟨_, _, _, _, e', _⟩ := x
  cases e'
end
section
variable {X : Cx}
theorem k3y : ∀ {zs : List Str} {us : List Value}, us.length = zs.length → (∀ (j : Nat) u, us[j]? = some u → ∃ z t, zs[j]? = some z ∧ u = Value.str z t) → StrsAre us zs := by
 intro zs
 induction zs with
 | nil =>
  intro us h _
  cases us with
  | nil => exact .nil
  | cons a r => cases h
 | cons z r ih =>
  intro us h g
  cases us with
  | nil => cases h
  | cons u q =>
   obtain ⟨z', t, e, rfl⟩ := g 0 u rfl
   simp only [List.getElem?_cons_zero, Option.some.injEq] at e
   subst e
   exact .cons z t (ih (by simpa using h) fun j u hu => by simpa using g (j + 1) u (by simpa using hu))
theorem j4t (hc : X.calm = true) : j3z X (.builtin "sorted") (fun xs H Q => ∃ a kvs zs, xs = [.ref a] ∧ Rd H a (.dK kvs) ∧ kvs.map (·.1) = zs.map Sum.inr ∧ zs.length < 64 ∧ ∀ l ss, H l = none → ss.Perm zs → sortedS ss = true → Q (.ref l) (upd H l (.lst (ss.map V.str)))) := by
 intro pins s σ H xs us Q I r h
 obtain ⟨a, kvs, zs, rfl, hH, hk, h64, q⟩ := h
 obtain ⟨u, rfl, ru⟩ := vals1 r
 cases (show u = Value.ref a from ru)
 obtain ⟨z, hd, vs, rel, dd⟩ := k01 I.hok hH
 obtain ⟨ep, da⟩ := dd.dictAt
 have hl := rel.length
 have hlz : vs.length = zs.length := by
  have := congrArg List.length hk
  rw [List.length_map, List.length_map] at this
  omega
 refine Calls.call_function_entry kind_sorted plain_sorted entry_sorted (args_sorted1 _) ?_
 unfold Builtin.«sorted»
 refine wpAny_bind (m := checkCount "sorted" 1 1 _) (wpAny_pure ?_)
 refine wpAny_bind (j9c (A := X.A.in1) (PySem.W.kdl_dict (knd := j03 X.prog X.w) (kvs := vs) (ep := ep) hd) (I.ok.hd hc) da (by omega) fun h' tk acc hkp hgr hacc => ?_)
 have hS : StrsAre acc.toList zs := k3y (by rw [Array.length_toList, hacc.1]; exact hlz) fun j u hu => by
  obtain ⟨k, x, e, g⟩ := hacc.2 j u (by rw [← Array.getElem?_toList]; exact hu)
  have e2 : (kvs.map (·.1))[j]? = some k := by rw [rel.keys, List.getElem?_map, e]; rfl
  rw [hk, List.getElem?_map, Option.map_eq_some_iff] at e2
  obtain ⟨zz, hz, rfl⟩ := e2
  obtain ⟨t, et⟩ : ∃ t, u = Value.str zz t := k9f g
  exact ⟨zz, t, hz, et⟩
 have hlen : acc.toList.length = zs.length := by rw [Array.length_toList, hacc.1]; exact hlz
 refine wpAny_bind (wpAny_newList ?_ (by rw [hlen]; exact k2n (by omega)))
 have hoL : (h'.push (seqObj "list" acc.toList.toArray 0)).get? h'.objs.size = some (seqObj "list" acc.toList.toArray 0) := Heap.get?_push_size _ rfl
 have hsz : s.heap.objs.size ≤ h'.objs.size := Nat.le_of_lt hgr
 refine wpAny_bind (wpAny_holding (wpAny_call_entry slot_list_sort ⟨_, hoL, rfl⟩ entry_list_sort (list_sort_treeK strKind_oneLt hoL hS.keysOf (fun v₁ v₂ rest e => keyKind_strs (by rw [← e]; exact hS)) (by rw [hlen]; exact h64) fun st' a1 a2 => ⟨_, rfl, ?_⟩) (args_list_sort _)))
 obtain ⟨ss, q1, q2, q3⟩ := sorted_out_str hS a1 a2
 obtain ⟨e, he⟩ := sortedHeap_at (out := (arrOf st').map (·.2)) hoL
 have hls : ss.length ≤ sizeLine := by rw [q2.length_eq]; exact k2n (by omega)
 refine wpAny_pure ⟨_, rfl, .ref _, _, I.laid' (a := h'.objs.size) (o := .lst (ss.map V.str)) (fun b u hb => ?_) rfl rfl hsz ⟨by rw [List.length_map]; exact hls, _, e, j3c q1, he⟩, rfl, q _ ss (I.hok.fresh hsz) q2 q3⟩
 have hb1 := hkp b u hb
 have hlt := Heap.lt_size hb1
 show (sortedHeap (h'.push _) h'.objs.size _ _).get? b = some u
 rw [sortedHeap_old (Nat.ne_of_lt hlt) (by rw [size_push']; exact Nat.lt_succ_of_lt hlt)]
 exact Heap.get?_push_of_some _ hb1
end
end L2
namespace L2
open PySem PySem.Spec PyProof.Rows
section
def Ite (K : PySem.W.Frag) (l : Addr) : It :=
  ⟨fun i H => ∃ xs x, SqL K H l xs ∧ xs[i]? = some x,
   fun i H v H' => ∃ T x, H T = none ∧ v = .ref T ∧ H' = upd H T (.tup [.int (i : Int), x]) ∧ ∀ xs, SqL K H l xs → xs[i]? = some x,
   fun i H => ∃ xs, SqL K H l xs ∧ xs.length ≤ i⟩
def k9m (m l : Addr) (i : Nat) (h : Heap) : Prop := (∃ old, IsEnum h (m + 1) m (i : Int) old) ∧ h.IsListIter m l i
theorem k3n {P : Program} {w : World} {K : PySem.W.Frag} {elts : List Expr} {k : Nat} {tp : Pos} (m l : Addr) : Turn P w K (.Tuple elts k tp) (Ite K l) [m, m + 1] (m + 1) (k9m m l) where
 mem := by simp
 obj := fun i h st c hc => by
  obtain ⟨⟨old, z1⟩, ⟨o4, e4, c4, d4⟩⟩ := st
  simp only [List.mem_cons, List.not_mem_nil, or_false] at hc
  rcases hc with rfl | rfl
  ·exact ⟨_, e4, fun v z => by rw [d4] at z; cases z⟩
  ·exact ⟨_, z1, fun v z => by cases z⟩
 keep := fun i h h' st kp => by
  obtain ⟨⟨old, z1⟩, ⟨o4, e4, r4⟩⟩ := st
  exact ⟨⟨old, kp _ (by simp) _ z1⟩, ⟨o4, kp _ (by simp) _ e4, r4⟩⟩
 item := by
  intro X hP hw hK hc i pins s σ H E I hf st hg
  subst hP hw hK
  obtain ⟨xs, x, hxs, hx⟩ := hg
  obtain ⟨its1, rv1, p1, hz1⟩ := I.list hxs
  obtain ⟨u1, hu1, ru1⟩ := rv1.get hx
  obtain ⟨⟨old, z1⟩, z4⟩ := id st
  refine wpAny_pyNext_enum_item z1 z4 p1.isList (x := u1) (by simpa using hu1) (by simp) fun h' a1 a2 a3 a4 kp => ?_
  have hT : H s.heap.objs.size = none := I.hok.fresh (Nat.le_refl _)
  have nT : ∀ c ∈ [m, m + 1], c ≠ s.heap.objs.size := fun c hc' => by
   have : ∃ o, s.heap.get? c = some o := by
    obtain ⟨o4, e4, _⟩ := z4
    simp only [List.mem_cons, List.not_mem_nil, or_false] at hc'
    rcases hc' with rfl | rfl
    ·exact ⟨_, e4⟩
    ·exact ⟨_, z1⟩
   obtain ⟨o, e⟩ := this
   exact Nat.ne_of_lt (Heap.lt_size e)
  have I1 : Inv X pins σ (upd H s.heap.objs.size (.tup [.int (i : Int), x])) { s with heap := s.heap.push { cls := .type "tuple", data := .seq #[.int i s.toks, u1] }, toks := s.toks + 1 } :=
   I.laid (t' := s.toks + 1) (fun b o e => Heap.get?_push_of_some _ e) (Nat.le_refl _) (show ObjOk X.prog X.w _ _ _ (.tup [.int (i : Int), x]) from ⟨(by show 2 ≤ sizeLine; decide), [.int i s.toks, u1], .cons ⟨_, rfl⟩ (.cons ru1 .nil), ⟨_, Heap.get?_push_size _ rfl, rfl, _, rfl⟩⟩)
  have f1 : ∀ c ∈ [m, m + 1], FpOk X pins (upd H s.heap.objs.size (.tup [.int (i : Int), x])) c := fun c hc' => ⟨by rw [j0c (nT c hc')]; exact (hf c hc').1, (hf c hc').2⟩
  have kp2 : ∀ c o, c ∉ [m, m + 1] → (s.heap.push { cls := .type "tuple", data := .seq #[.int i s.toks, u1] }).get? c = some o → h'.get? c = some o := fun c o hc' e => by
   rcases Heap.get?_push_cases e with ⟨ec, eo⟩ | e'
   ·rw [ec, eo]
    exact a3
   ·simp only [List.mem_cons, List.not_mem_nil, or_false, not_or] at hc'
    exact kp c o hc'.2 hc'.1 e'
  have I2 := Inv.turnedL (h' := h') (t' := s.toks + 1) I1 f1 kp2
  refine ⟨_, rfl, wpAny_letOwnedTupleGo_enum (s := { s with heap := h', toks := s.toks + 1 }) a1 fun h2 b1 sb => ?_⟩
  have kp3 : ∀ c o, c ∉ [m + 1] → h'.get? c = some o → h2.get? c = some o := fun c o hc' e => (sb.2 c (by simpa using hc')).trans e
  have I3 := Inv.turnedL (h' := h2) (t' := s.toks + 1) I2 (ch := [m + 1]) (fun c hc' => f1 c (by simp at hc'; simp [hc'])) kp3
  refine ⟨.ref s.heap.objs.size, _, I3, rfl, ⟨_, x, hT, rfl, rfl, fun zs hz => by rw [I.list_inj hz hxs]; exact hx⟩, ?_, fun c hc' => (f1 c hc').1⟩
  obtain ⟨o3, e3, r3⟩ := a2
  exact ⟨⟨u1, b1⟩, ⟨o3, kp3 _ _ (by simp) e3, r3⟩⟩
 done := by
  intro X hP hw hK hc i pins s σ H E I hf st hg
  subst hP hw hK
  obtain ⟨xs, hxs, hend⟩ := hg
  obtain ⟨its1, rv1, p1, hz1⟩ := I.list hxs
  have l1 := rv1.length
  obtain ⟨⟨old, z1⟩, z4⟩ := id st
  refine wpAny_pyNext_enum_end (I.ok.hd hc) z1 z4 p1.isList (by simp; omega) fun h' kp => ⟨rfl, I.turnedL (t' := s.toks) (ch := [m, m + 1]) hf fun c o hc' e => ?_⟩
  simp only [List.mem_cons, List.not_mem_nil, or_false, not_or] at hc'
  exact kp c o hc'.1 e
 self := fun _ _ _ _ _ st h => by
  obtain ⟨⟨old, z1⟩, _⟩ := st
  exact wpAny_pyIter_enum z1 h
end
section
variable {X : Cx}
def q2q (K : PySem.W.Frag) (ta : TA) : TI := fun σ H R => ta σ H fun vs H1 => ∃ a, vs = [.ref a] ∧ (∃ xs, SqL K H1 a xs) ∧ R (Ite K a) H1
theorem k7s {elts : List Expr} {k : Nat} {tp : Pos} {a : Expr} {ta : TA} {p pos : Pos} (hg : Gl X "enumerate") (hm : X.mg "enumerate" = none) (ha : PA X [a] ta) (hs : starEach [a] X.env = [(false, eval a X.env)] := by rfl) :
  PI X (.Tuple elts k tp) (.Call (.Name "enumerate" p) [a] [] pos) (q2q X.K ta) := by
 intro pins s σ H R I h
 refine Call_ (j4p I hg hm boot_enumerate (PyProof.Rows.callWith_type1 (thn (ha pos pins s σ H _ I h) fun us s1 ⟨vs, H1, I1, r1, q1⟩ => ?_) hs rfl))
 obtain ⟨x, e, ⟨xs, hx⟩, q⟩ := q1
 subst e
 obtain ⟨u, rfl, ru⟩ := r1.one
 cases (show u = Value.ref x from ru)
 obtain ⟨its1, rv1, p1, hz1⟩ := I1.list hx
 refine call_enumerate_list p1.isList fun h' a1 a2 a3 kp => ?_
 refine wpAny_pyIter_enum (s := { s1 with heap := h' }) a1 ?_
 refine ⟨s1.heap.objs.size + 1, [s1.heap.objs.size, s1.heap.objs.size + 1], _, _, H1, rfl, I1.kept (t' := s1.toks) kp, k3n s1.heap.objs.size x, ⟨⟨_, a1⟩, a2⟩, fun b hb => ?_, q⟩
 have hle : s1.heap.objs.size ≤ b := by
  simp only [List.mem_cons, List.not_mem_nil, or_false] at hb
  rcases hb with rfl | rfl <;> omega
 exact I1.fpOk hle (I1.hok.fresh hle)
end
end L2
namespace L2
open PySem PySem.Spec PyProof.Rows
section
variable {X : Cx}
theorem j9n (z : Str) : ∀ zs : List Str, countIn (.str z) (zs.map PyData.str) = (zs.count z : Int)
 | [] => rfl
 | y :: r => by
  rw [List.map_cons, countIn, j9n z r, List.count_cons]
  simp only [same]
  rcases Bool.eq_false_or_eq_true (y == z) with hb | hb <;> simp only [hb, Bool.false_eq_true, if_true, if_false] <;> push_cast <;> omega
def k9k (K : PySem.W.Frag) : V → List V → Hp → VK → Prop := fun x vs H Q => ∃ (l : Addr) (zs : List Str) (z : Str), x = .ref l ∧ vs = [.str z] ∧ SqL K H l (zs.map V.str) ∧ Q (.int (zs.count z : Int)) H
theorem k4h : MtM X "list.count" (k9k X.K) := by
 intro pins s σ H x vs v us Q I rx rv h
 obtain ⟨l, zs, z, rfl, rfl, hH, q⟩ := h
 cases rx
 obtain ⟨u, rfl, ru⟩ := rv.one
 obtain ⟨tk, rfl⟩ := ru
 obtain ⟨its, r, pl, hz⟩ := I.list hH
 refine count_list_strs pl.isList (j27 r) ?_
 rw [j9n]
 exact ⟨.int (zs.count z : Int), H, I.tok _, ⟨_, rfl⟩, q⟩
end
end L2
namespace L2
open PySem PySem.Spec PyProof.Rows
section
variable {X : Cx} {σ : St} {H : Hp} {D : Ends} {body : List Stmt}
def q0j (tl : TE) : TI := fun σ H R => tl σ H fun x H1 => ∃ d o kvs, x = .ref d ∧ H1 d = some (.frz o (.dK kvs)) ∧ R (Itk d o kvs) H1
theorem k0c {tg l : Expr} {tl : TE} (hl : PE X l tl) : PI X tg l (q0j tl) := by
 intro pins s σ H R I h
 refine thn (hl pins s σ H _ I h) fun v s1 ⟨x, H1, I1, r1, q1⟩ => ?_
 obtain ⟨d, o, kvs, e, hH, q⟩ := q1
 subst e
 cases (show v = Value.ref d from r1)
 obtain ⟨ho, z, hdm, vs, rel, dd⟩ := (show ObjOk X.prog X.w H1 s1.heap d (.frz o (.dK kvs)) from I1.hok d _ hH)
 obtain ⟨ep, o', es, ho', r1, r2, r3⟩ := dd.dictAt
 have : o = o' := Option.some.inj (ho.symm.trans ho')
 subst this
 refine wpAny_pyIter_dict hdm ⟨o, es, ho', r1, r2, r3⟩ ?_
 refine ⟨s1.heap.objs.size, [s1.heap.objs.size], _, _, _, rfl, I1.kept (t' := s1.toks) fun b o e => Heap.get?_push_of_some _ e, j7e d _ o es ep kvs r2, ⟨_, Heap.get?_push_size _ rfl, rfl, by rw [rel.length]; rfl⟩, fun b hb => ?_, q⟩
 have e : b = s1.heap.objs.size := by simpa using hb
 subst e
 exact I1.fpOk (Nat.le_refl _) (I1.hok.fresh (Nat.le_refl _))
theorem j7i {tg : Expr} {d : Addr} {o : Obj} {kvs : List (Key × V)} {after : St → Hp → Prop} (Pv : Nat → St → Hp → Prop) (h0 : Pv 0 σ H) (hl : ∀ i σ H, i ≤ kvs.length → Pv i σ H → H d = some (.frz o (.dK kvs)))
  (hs : ∀ i p σ H, kvs[i]? = some p → Pv i σ H → Eg X tg (kV p.1) σ H fun σ2 H2 => Run X body { D with nx := Pv (i + 1), ct := Pv (i + 1), bk := after } σ2 H2) (hd : ∀ σ H, Pv kvs.length σ H → after σ H) : Loop X tg body (Itk d o kvs) D after σ H := by
 refine ⟨fun i m σ H => m = kvs.length - i ∧ i ≤ kvs.length ∧ Pv i σ H, ⟨kvs.length, by simp, Nat.zero_le _, h0⟩, ?_⟩
 rintro i m σ H ⟨rfl, hi, p⟩
 have q := hl i σ H hi p
 by_cases hlt : i < kvs.length
 ·refine .inr ⟨⟨q, hlt⟩, Pv (i + 1), fun σ' H' p' => ⟨kvs.length - (i + 1), by omega, rfl, hlt, p'⟩, fun x H' y => ?_⟩
  obtain ⟨e, p', ep, y⟩ := y
  subst e y
  exact hs i p' σ _ ep p
 ·have e : i = kvs.length := by omega
  subst e
  exact .inl ⟨⟨q, Nat.le_refl _⟩, hd σ H p⟩
end
end L2
namespace D4
open PySem L2 Nt Sort2
open PyProof.Rows (sortedS)
open Classical
def k00 : Sp := fun vs H Q _ => ∃ (R a : Addr) (as : List (Addr × Addr)) (n : Net) (ss : List Str), vs = [.ref R, .ref a] ∧ RowsAt H R as n ∧ n.length ≤ 60 ∧ (ties n).length ≤ 1000 ∧ H a = some (Ls ss) ∧ ∀ H', Same H H' → Q (.bl (j2l n ss)) H'
def Dbl (n : Net) (ss : List Str) : Prop := j2l n ss = true ∧ ∃ sd, IsSide n ss sd
noncomputable def k7i : Sp := fun vs H Q _ => ∃ (R p : Addr) (as : List (Addr × Addr)) (n : Net) (ss : List Str), vs = [.ref R, .ref p] ∧ RowsAt H R as n ∧ j02 n ∧ Hang n ∧ 0 < n.length ∧ n.length ≤ 60 ∧ (ties n).length ≤ 60 ∧ H p = some (Ls ss) ∧ Srt ss ∧ ∀ H', Same H H' → Q (.bl (decide (Dbl n ss))) H'
section
variable {P : Program} {w : World} {K : PySem.W.Frag} {mg : Str → Option Value} {base : Heap}
theorem k1g (n : Net) (ss : List Str) (r : Str × List Str) : j2l (n ++ [r]) ss = (j2l n ss && ((r.2.filter fun z => ss.contains z).length % 2 == 0)) := by
 unfold j2l
 rw [List.all_append]
 simp
theorem k5q {n : Net} {ss : List Str} {i : Nat} (hi : i < n.length) (h : ¬ ((row n i).filter fun z => ss.contains z).length % 2 = 0) : j2l n ss = false := by
 cases e : j2l n ss with
 | false => rfl
 | true =>
  unfold j2l at e
  have := List.all_eq_true.mp e n[i] (List.getElem_mem hi)
  rw [beq_iff_eq, ← j3r hi] at this
  exact absurd this h
theorem k7v {X : Cx} {a : Expr} {pos : Pos} {σ : St} {H : Hp} {Q : VK} (h : Ev X a σ H fun x H1 => ∃ k, TruV X.K x H1 k ∧ Q (.bl (!k)) H1) : Ev X (.UnaryOp .Not a pos) σ H Q := by
 refine ⟨fun pins s I => PyProof.Rows.UnaryOp_ (thn (h.run pins s I) fun v s1 ⟨x, H1, I1, r1, k, tk, q1⟩ => ?_)⟩
 exact PyProof.Rows.not_of (thn (k6u pins s1 σ H1 x v (fun c H2 => Q (.bl (!c)) H2) I1 r1 ⟨k, tk, q1⟩) fun c s2 ⟨H2, I2, q2⟩ => ⟨.bl (!c), H2, I2, rfl, q2⟩)
def j4e (ss : List Str) (r : Str × List Str) : Bool := (r.2.filter fun z => ss.contains z).length % 2 == 0
def k7e : Sp := fun vs H Q _ => ∃ (R a : Addr) (as : List (Addr × Addr)) (n : Net) (ss : List Str), vs = [.ref R, .ref a] ∧ RowsAt H R as n ∧ n.length ≤ 60 ∧ (ties n).length ≤ 1000 ∧ H a = some (Ls ss) ∧
 ∀ (L : Addr) (zs : List Str) (H' : Hp), Same H H' → H L = none → H' L = some (Ls zs) → zs.Perm ((n.filter fun r => !j4e ss r).map (·.1)) → Q (.ref L) H'
abbrev NR : List Str := ["rows", "some"]
abbrev NR' : List Str := ["rows", "some", "point", "ties"]
abbrev NR2 : List Str := ["rows", "some", "point", "ties", "tie"]
theorem k9x : FnScope NR ["rows", "some"] (j0h sOdd) := ⟨rfl, rfl, rfl, by decide +kernel, rfl, by decide +kernel, by decide +kernel⟩
theorem q2r : FnScope NR ["rows", "some"] (j0h sRnd) := ⟨rfl, rfl, rfl, by decide +kernel, rfl, by decide +kernel, by decide +kernel⟩
theorem nd_r : NR'.Nodup := by decide +kernel
theorem q17 : NR2.Nodup := by decide +kernel
def q16 : Scope := match j2c sOdd with
 | [.Return (some (.Call _ [.ListComp _ _ sc _] _ _)) _] => sc
 | _ => j0h sOdd
def scIn : Scope := relabel q16 (PyProof.Rows.envOfC "odd_points" (j0h sOdd) 0 0 .none)
theorem q0m {f : Addr} {fd : FuncData} (F : Fun K "odd_points" "odd_points" sOdd f fd) (T : Txt mg) : FnOk P w K mg base CX0 1 f fd ["rows", "some"] k7e := by
 refine F.gb k9x (fun vs H Q E h => ?_) (fun b0 H vs Q E hr h => ?_)
 ·obtain ⟨R, a, as, n, ss, rfl, _⟩ := h
  rfl
 obtain ⟨R, a, as, n, ss, rfl, hR, hn, ht, ha, q⟩ := h
 have hal := hR.len
 show Run _ _ _ [some (.ref R), some (.ref a)] H
 refine j0p (j06 j1r T.sorted PyProof.Rows.boot_sorted (j0a (j2u (j0h sOdd) NR NR' 2 (j1s j00) (ev_v 0 ⟨R, rfl, ⟨_, SqL.of hR.lst⟩, fun D hD => ?_⟩))))
 refine j2h (xs := as.map fun a => V.ref a.1) (fun i σ' H' => (∃ v1 v2, σ' = [some (.ref R), some (.ref a)] ++ [v1, v2]) ∧ H' D = some (.lst (((n.take i).filter fun r => !j4e ss r).map fun r => V.str r.1)) ∧ Same H H') ⟨⟨none, none, rfl⟩, j0b, j0e hD _⟩ ?_ ?_ ?_
 ·rintro i σ' H' _ ⟨_, _, sm⟩
  exact SqL.of (sm _ _ hR.lst)
 ·rintro i x σ' H' hx ⟨⟨v1, v2, rfl⟩, eD, sm⟩
  have hi : i < n.length := by
   have := (List.getElem?_eq_some_iff.mp hx).1
   rw [List.length_map] at this
   omega
  obtain ⟨b, eb, eat, et, el, er⟩ := (hR.same sm).at hi
  rw [List.getElem?_map, eb] at hx
  cases hx
  have hrl : (row n i).length ≤ 1000 := Nat.le_trans (j2y n i) ht
  have et1 : n.take (i + 1) = n.take i ++ [n[i]] := by rw [List.take_add_one, List.getElem?_eq_getElem hi]; rfl
  intro cl C' s₀ H₀ ex
  refine j2a rfl (SqT.of et) (j0j 2 nd_r (j0j 3 nd_r ?_))
  intro cl C' s₀ H₀ ex
  refine j3b (j1e j4i (j0o j1b (j06 j0m T.len boot_len (j0a (j2u scIn NR' NR2 1 (j1s j00) (ev_v 3 ⟨b.2, rfl, ⟨_, SqL.of el⟩, fun D2 hD2 => ?_⟩))))))
  refine j3j (σ := [some (.ref R), some (.ref a), some (.str n[i].1), some (.ref b.2)]) (fun z => ss.contains z) (j0u (by omega)) el hD2 (fun cl C s₀ H₀ ex v v0 H' R' h => j0j 4 q17 h) (fun cl C s₀ H₀ ex z ys T' h => ?_) (fun cl C s₀ H₀ ex z H' R' h => ev_v 4 h) ?_
  ·refine j3b (j1e j2p (ev_v 4 (ev_v 1 ⟨a, _, rfl, .inl (SqL.of (by rw [j0c (j0d (sm _ _ ha) hD2)]; exact sm _ _ ha)), rfl, j1w _, _, rfl, ?_⟩)))
   show T' (inV (.str z) (ss.map V.str)) _
   rw [j2g]
   exact h
  ·have nDD : D ≠ D2 := j0d eD hD2
   have s2 := j0e hD2 (.lst (((row n i).filter fun z => ss.contains z).map V.str))
   refine j0g ⟨D2, _, rfl, .inl (SqL.of j0b), j0f ⟨_, _, rfl, rfl, (by show (0 : Int) < 2; decide), j0f ⟨rfl, _, rfl, ?_⟩⟩⟩
   have ek : decide (V.int ((((((row n i).filter fun z => ss.contains z).map V.str).length : Nat) : Int) % 2) = V.int 1) = !j4e ss n[i] := by
    unfold j4e
    rw [List.length_map, er]
    by_cases hc : (n[i].2.filter fun z => ss.contains z).length % 2 = 0
    ·rw [decide_eq_false (fun h => by have := V.int.inj h; omega), beq_iff_eq.mpr hc]
     rfl
    ·rw [decide_eq_true (congrArg V.int (by omega)), beq_eq_false_iff_ne.mpr hc]
     rfl
   show if decide (V.int ((((((row n i).filter fun z => ss.contains z).map V.str).length : Nat) : Int) % 2) = V.int 1) = true then _ else _
   rw [ek]
   refine ite2 (fun c => ?_) (fun c => ?_)
   ·intro cl C' s₀ H₀ ex
    refine ev_v 2 ⟨_, s2 _ _ eD, ?_, ⟨_, _, rfl⟩, ?_, j01 (sm.trans s2) hD⟩
    ·rw [List.length_map]
     refine j0u (Nat.le_trans (List.length_filter_le ..) ?_)
     rw [List.length_take]
     omega
    ·rw [j0b, et1, List.filter_append, List.map_append]
     have : [n[i]].filter (fun r => !j4e ss r) = [n[i]] := by rw [List.filter_cons_of_pos (by simpa using c)]; rfl
     rw [this]
     rfl
   ·refine ⟨⟨_, _, rfl⟩, ?_, sm.trans s2⟩
    rw [et1, List.filter_append]
    have : [n[i]].filter (fun r => !j4e ss r) = [] := by rw [List.filter_cons_of_neg (by simpa using c)]; rfl
    rw [this, List.append_nil]
    exact s2 _ _ eD
 ·rintro σ' H' ⟨_, eD, sm⟩
  rw [List.length_map, hal, List.take_length] at eD
  have e2 : ((n.filter fun r => !j4e ss r).map fun r => V.str r.1) = (((n.filter fun r => !j4e ss r).map (·.1)).map V.str) := by rw [List.map_map]; rfl
  rw [e2] at eD
  refine j0g ⟨D, _, rfl, SqL.of eD, ?_, fun l zs hl hp _ => ?_⟩
  ·rw [List.length_map]
   exact Nat.lt_of_le_of_lt (List.length_filter_le ..) (by omega)
  ·exact q l zs _ (sm.trans (j0e hl _)) (j1i sm hl) j0b hp
theorem k96 {f : Addr} {fd : FuncData} (F : Fun K "is_round" "is_round" sRnd f fd) (T : Txt mg)
  (G : Has P w K mg base 1 "odd_points" ["rows", "some"] k7e) : FnOk P w K mg base CX0 2 f fd ["rows", "some"] k00 := by
 refine F.gb q2r (fun vs H Q E h => ?_) (fun b0 H vs Q E hr h => ?_)
 ·obtain ⟨R, a, as, n, ss, rfl, _⟩ := h
  rfl
 obtain ⟨R, a, as, n, ss, rfl, hR, hn, ht, ha, q⟩ := h
 show Run _ _ _ [some (.ref R), some (.ref a)] H
 refine j0p (k7v (j0t G hr (j0a (ev_v 0 (j0a (ev_v 1 (j0g ⟨R, a, as, n, ss, rfl, hR, hn, ht, ha, fun L zs H' s' nL eL hp => ?_⟩)))))))
 refine ⟨_, Or.inl ⟨_, SqL.of eL, rfl⟩, ?_⟩
 have e : (!(!(zs.map V.str).isEmpty)) = j2l n ss := by
  rw [Bool.not_not]
  have e1 : (zs.map V.str).isEmpty = (n.filter fun r => !j4e ss r).isEmpty := by
   have hl := hp.length_eq
   rw [List.length_map] at hl
   have e0 : ∀ {α β : Type} (x : List α) (y : List β), x.length = y.length → x.isEmpty = y.isEmpty := fun x y h => by cases x <;> cases y <;> simp_all
   exact e0 _ _ (by rw [List.length_map]; exact hl)
  rw [e1]
  unfold j2l
  cases h1 : (n.filter fun r => !j4e ss r).isEmpty with
  | true =>
   have h2 := List.isEmpty_iff.mp h1
   refine (List.all_eq_true.mpr fun r hr => ?_).symm
   have := List.filter_eq_nil_iff.mp h2 r hr
   simpa [j4e] using this
  | false =>
   cases h3 : n.all fun r => (r.2.filter fun z => ss.contains z).length % 2 == 0 with
   | false => rfl
   | true =>
    exfalso
    have h4 : (n.filter fun r => !j4e ss r) = [] := List.filter_eq_nil_iff.mpr fun r hr => by
     have := List.all_eq_true.mp h3 r hr
     unfold j4e
     rw [this]
     simp
    rw [h4] at h1
    cases h1
 rw [e]
 exact q H' s'
theorem scDb : FnScope ["rows", "some"] ["rows", "some"] (j0h j3y) := ⟨rfl, rfl, rfl, by decide +kernel, rfl, by decide +kernel, by decide +kernel⟩
theorem k9j {f : Addr} {fd : FuncData} (F : Fun K "is_double" "is_double" j3y f fd) (T : Txt mg)
  (GQ : Has P w K mg base 3 "is_round" ["rows", "some"] k00)
  (GI : Has P w K mg base 3 "side_of" ["rows", "some"] j6d) :
  FnOk P w K mg base CX0 4 f fd ["rows", "some"] k7i := by
 refine F.gb scDb (fun vs H Q E h => ?_) (fun b0 H vs Q E hr h => ?_)
 ·obtain ⟨R, p, as, n, ss, rfl, _⟩ := h
  rfl
 obtain ⟨R, p, as, n, ss, rfl, hR, hT, hHg, h0, hn, hti, hp, so, q⟩ := h
 show Run _ _ _ [some (.ref R), some (.ref p)] H
 refine j0p (k6h (j0t GQ hr (j0a (ev_v 0 (j0a (ev_v 1 (j0g ⟨R, p, as, n, ss, rfl, hR, hn, by omega, hp, fun H1 s1 => ⟨_, rfl, ?_⟩⟩)))))))
 cases hev : j2l n ss with
 | false =>
  rw [if_neg (by decide)]
  have e : decide (Dbl n ss) = false := decide_eq_false fun k => by rw [k.1] at hev; cases hev
  rw [← e]
  exact q H1 s1
 | true =>
  rw [if_pos rfl]
  refine k1r (j21 k3x (j0t GI hr (j0a (ev_v 0 (j0a (ev_v 1 (j0g ⟨R, p, as, n, ss, rfl, hR.same s1, hT, hHg, h0, hn, hti, s1 _ _ hp, so, fun L sd H2 s2 n2 e2 hsd => j54 ⟨rfl, ?_⟩, fun H2 s2 hno => j54 ⟨rfl, ?_⟩⟩)))))))
  ·have e : decide (Dbl n ss) = true := decide_eq_true ⟨hev, sd, hsd⟩
   rw [decide_eq_false (fun k => by cases k), Bool.not_false, ← e]
   exact q H2 (s1.trans s2)
  ·have e : decide (Dbl n ss) = false := decide_eq_false fun k => by
    obtain ⟨_, sd, hsd⟩ := k
    exact hno sd hsd
   rw [decide_eq_true rfl, Bool.not_true, ← e]
   exact q H2 (s1.trans s2)
end
end D4
namespace D4
open PySem L2 Nt Sort2
open PyProof.Rows (sortedS)
def k3g : Sp := fun vs H Q _ => ∃ (a b : Addr) (xs ys : List Str), vs = [.ref a, .ref b] ∧ H a = some (Ls xs) ∧ H b = some (Ls ys) ∧ xs.length + ys.length < 64 ∧ xs.Nodup ∧ ys.Nodup ∧
 ∀ l ss H', Same H H' → H l = none → H' l = some (Ls ss) → Srt ss → (∀ z, z ∈ ss ↔ (if z ∈ xs then z ∉ ys else z ∈ ys)) → Q (.ref l) H'
section
variable {P : Program} {w : World} {K : PySem.W.Frag} {mg : Str → Option Value} {base : Heap}
abbrev NEv : List Str := ["_law_rows", "_law_some", "_law_point", "_law_names_here"]
abbrev NEv' : List Str := ["_law_rows", "_law_some", "_law_point", "_law_names_here", "_law_tie"]
theorem scEv : FnScope NEv ["_law_rows", "_law_some"] (j0h j4u) := ⟨rfl, rfl, rfl, by decide +kernel, rfl, by decide +kernel, by decide +kernel⟩
theorem q2c : NEv'.Nodup := by decide +kernel
theorem k8w {f : Addr} {fd : FuncData} (F : Fun K "_law_even" "_law_even" j4u f fd) (T : Txt mg) : FnOk P w K mg base CX0 1 f fd ["_law_rows", "_law_some"] k00 := by
 refine F.gb scEv (fun vs H Q E h => ?_) (fun b0 H vs Q E hr h => ?_)
 ·obtain ⟨R, a, as, n, ss, rfl, _⟩ := h
  rfl
 obtain ⟨R, a, as, n, ss, rfl, hR, hn, ht, ha, q⟩ := h
 have nd := scEv.nd
 have hal := hR.len
 show Run _ _ _ [some (.ref R), some (.ref a), none, none] H
 refine j2e (ev_v 0 ⟨R, rfl, ⟨_, SqL.of hR.lst⟩, j1x (xs := as.map fun a => V.ref a.1) (fun i σ H3 => Same H H3 ∧ j2l (n.take i) ss = true ∧ ∃ u v, σ = [some (.ref R), some (.ref a), u, v]) ⟨Same.refl H, rfl, _, _, rfl⟩ ?_ ?_ ?_⟩)
 ·rintro i σ H3 _ ⟨sm, _, _, _, _⟩
  exact SqL.of (sm _ _ hR.lst)
 ·rintro i x σ H3 hx ⟨sm, ev, u, v, rfl⟩
  have hi : i < n.length := by
   have := (List.getElem?_eq_some_iff.mp hx).1
   rw [List.length_map] at this
   omega
  obtain ⟨b, eb, eat, et, el, er⟩ := (hR.same sm).at hi
  rw [List.getElem?_map, eb] at hx
  cases hx
  have hrl : (row n i).length ≤ 1000 := Nat.le_trans (j2y n i) ht
  refine j2a rfl (SqT.of et) (j0j 2 nd (j0j 3 nd ?_))
  refine k3s (fun k H4 => Same H3 H4 ∧ k = decide (((row n i).filter fun z => ss.contains z).length % 2 = 1)) (fun σ' H' => Same H H' ∧ j2l (n.take (i + 1)) ss = true ∧ ∃ u v, σ' = [some (.ref R), some (.ref a), u, v]) ?_ ?_ ?_ (fun σ' H' h => j0l h)
  ·refine j1e j4i (j0o j1b (j06 j0m T.len boot_len (j0a (j2u (j0h j4u) NEv NEv' 1 (j1s j00) (ev_v 3 ⟨b.2, rfl, ⟨_, SqL.of el⟩, fun D hD => ?_⟩)))))
   refine j3j (σ := [some (.ref R), some (.ref a), some (.str n[i].1), some (.ref b.2)]) (fun z => ss.contains z) (j0u (by omega)) el hD (fun cl C s₀ H₀ ex v v0 H' R' h => j0j 4 q2c h) (fun cl C s₀ H₀ ex z ys T' h => ?_) (fun cl C s₀ H₀ ex z H' R' h => ev_v 4 h) ?_
   ·refine j3b (j1e j2p (ev_v 4 (ev_v 1 ⟨a, _, rfl, .inl (SqL.of (by rw [j0c (j0d (sm _ _ ha) hD)]; exact sm _ _ ha)), rfl, j1w _, _, rfl, ?_⟩)))
    show T' (inV (.str z) (ss.map V.str)) _
    rw [j2g]
    exact h
   ·refine j0g ⟨D, _, rfl, .inl (SqL.of j0b), j0f ⟨_, _, rfl, rfl, (by show (0 : Int) < 2; decide), j0f ⟨rfl, _, rfl, j0e hD _, ?_⟩⟩⟩
    rw [List.length_map]
    refine decide_eq_decide.mpr ⟨fun h => ?_, fun h => ?_⟩
    ·have := V.int.inj h
     omega
    ·have : ((((row n i).filter fun z => ss.contains z).length : Int)) % 2 = 1 := by omega
     exact congrArg V.int this
  ·rintro H4 ⟨s4, e⟩
   have hb := of_decide_eq_true e.symm
   refine j0p (k0m ?_)
   rw [← k5q (ss := ss) hi (by omega)]
   exact q H4 (sm.trans s4)
  ·rintro H4 ⟨s4, e⟩
   have hb := of_decide_eq_false e.symm
   refine j0l ⟨sm.trans s4, ?_, _, _, rfl⟩
   rw [List.take_add_one, List.getElem?_eq_getElem hi]
   show j2l (n.take i ++ [n[i]]) ss = true
   rw [k1g, ev, ← j3r hi, Bool.true_and, beq_iff_eq]
   omega
 ·rintro σ H3 ⟨sm, ev, u, v, rfl⟩
  rw [List.length_map, hal, List.take_length] at ev
  refine j0p (k0m ?_)
  rw [← ev]
  exact q H3 sm
abbrev NSu : List Str := ["_law_one", "_law_other_here", "_law_first", "_law_second"]
abbrev NSu' : List Str := ["_law_one", "_law_other_here", "_law_first", "_law_second", "_law_x"]
theorem scSu : FnScope NSu ["_law_one", "_law_other_here"] (j0h j5s) := ⟨rfl, rfl, rfl, by decide +kernel, rfl, by decide +kernel, by decide +kernel⟩
theorem k9q : NSu'.Nodup := by decide +kernel
theorem k8l {f : Addr} {fd : FuncData} (F : Fun K "_law_sum" "_law_sum" j5s f fd) (T : Txt mg) : FnOk P w K mg base CX0 1 f fd ["_law_one", "_law_other_here"] k3g := by
 refine F.gb scSu (fun vs H Q E h => ?_) (fun b0 H vs Q E hr h => ?_)
 ·obtain ⟨a, b, xs, ys, rfl, _⟩ := h
  rfl
 obtain ⟨a, b, xs, ys, rfl, ha, hb, hl, nx, ny, q⟩ := h
 have nd := scSu.nd
 show Run _ _ _ [some (.ref a), some (.ref b), none, none] H
 refine j42 2 (j0h j5s) NSu NSu' 1 nd (j1s j00) (ev_v 0 ⟨a, rfl, ⟨_, SqL.of ha⟩, fun D hD => ?_⟩)
 refine j3j (fun z => !ys.contains z) (j0u (by omega)) ha hD (fun cl C s0 H0 ex v v0 H' R' h => j0j 4 k9q h) (fun cl C s0 H0 ex z zs T' h => j3b (j1e j4q (ev_v 4 (ev_v 1 ⟨b, _, rfl, .inl (SqL.of (by rw [j0c (j0d hb hD)]; exact hb)), rfl, j1w _, _, rfl, ?_⟩)))) (fun cl C s0 H0 ex z H' R' h => ev_v 4 h) ?_
 ·show T' (!inV (.str z) (ys.map V.str)) _
  rw [j2g]
  exact h
 have s1 := j0e hD (.lst ((xs.filter fun z => !ys.contains z).map V.str))
 have eD : (upd H D (.lst ((xs.filter fun z => !ys.contains z).map V.str))) D = some (Ls (xs.filter fun z => !ys.contains z)) := j0b
 show Run _ _ _ [some (.ref a), some (.ref b), some (.ref D), none] (upd H D (.lst ((xs.filter fun z => !ys.contains z).map V.str)))
 generalize upd H D (.lst ((xs.filter fun z => !ys.contains z).map V.str)) = H1 at s1 eD
 have ha1 := s1 _ _ ha
 have hb1 := s1 _ _ hb
 refine j42 3 (j0h j5s) NSu NSu' 1 nd (j1s j00) (ev_v 1 ⟨b, rfl, ⟨_, SqL.of hb1⟩, fun D2 hD2 => ?_⟩)
 refine j3j (fun z => !xs.contains z) (j0u (by omega)) hb1 hD2 (fun cl C s0 H0 ex v v0 H' R' h => j0j 4 k9q h) (fun cl C s0 H0 ex z zs T' h => j3b (j1e j4q (ev_v 4 (ev_v 0 ⟨a, _, rfl, .inl (SqL.of (by rw [j0c (j0d ha1 hD2)]; exact ha1)), rfl, j1w _, _, rfl, ?_⟩)))) (fun cl C s0 H0 ex z H' R' h => ev_v 4 h) ?_
 ·show T' (!inV (.str z) (xs.map V.str)) _
  rw [j2g]
  exact h
 have s2 := j0e hD2 (.lst ((ys.filter fun z => !xs.contains z).map V.str))
 have eD2 : (upd H1 D2 (.lst ((ys.filter fun z => !xs.contains z).map V.str))) D2 = some (Ls (ys.filter fun z => !xs.contains z)) := j0b
 show Run _ _ _ [some (.ref a), some (.ref b), some (.ref D), some (.ref D2)] (upd H1 D2 (.lst ((ys.filter fun z => !xs.contains z).map V.str)))
 have eD := s2 _ _ eD
 generalize upd H1 D2 (.lst ((ys.filter fun z => !xs.contains z).map V.str)) = H2 at s2 eD2 eD
 have f1 := List.length_filter_le (fun z => !ys.contains z) xs
 have f2 := List.length_filter_le (fun z => !xs.contains z) ys
 have ndp : ((xs.filter fun z => !ys.contains z) ++ (ys.filter fun z => !xs.contains z)).Nodup := List.nodup_append.mpr ⟨nx.filter _, ny.filter _, fun x hx y hy e => by
  rw [List.mem_filter] at hx hy
  subst e
  have := hy.2
  simp [hx.1] at this⟩
 have mem : ∀ z, z ∈ (xs.filter fun z => !ys.contains z) ++ (ys.filter fun z => !xs.contains z) ↔ (if z ∈ xs then z ∉ ys else z ∈ ys) := fun z => by
  rw [List.mem_append, List.mem_filter, List.mem_filter]
  by_cases q1 : z ∈ xs <;> by_cases q2 : z ∈ ys <;> simp [q1, q2]
 refine j0p (j06 j1r T.sorted PyProof.Rows.boot_sorted (j0a (j0o k3b (ev_v 2 (ev_v 3 ⟨D, D2, _, _, rfl, rfl, eD, eD2, ?_, fun l hl2 => ?_⟩)))))
 ·rw [List.length_map, List.length_map]
  exact small (by omega)
 rw [← List.map_append]
 generalize (xs.filter fun z => !ys.contains z) ++ (ys.filter fun z => !xs.contains z) = L at ndp mem hl2 ⊢
 have s3 := s2.trans (j0e hl2 (Ls L))
 have lL : L.length < 64 := by
  have := nodup_le (b := xs ++ ys) ndp fun z hz => by
   have := (mem z).mp hz
   rw [List.mem_append]
   by_cases k : z ∈ xs
   ·exact .inl k
   ·rw [if_neg k] at this
    exact .inr this
  rw [List.length_append] at this
  omega
 refine j0g ⟨l, L, rfl, SqL.of j0b, lL, fun l4 ss hl4 hpm hso => ?_⟩
 have s4 := s1.trans s3
 exact q l4 ss _ (s4.trans (j0e hl4 _)) (s4.free hl4) j0b (j7d hso (hpm.nodup_iff.mpr ndp)) fun z => by rw [hpm.mem_iff]; exact mem z
end
end D4
namespace Nt
open PySem L2
open PyProof.Rows (sortedS)
theorem k34 {kvs : List (Key × V)} {k : Key} (hg : valV kvs k = none) : k ∉ kvs.map (·.1) := by
 induction kvs with
 | nil => intro h; cases h
 | cons c r ih =>
  intro h
  by_cases hc : c.1 = k
  ·rw [j1g hc] at hg
   cases hg
  ·rw [j1f hc] at hg
   rcases List.mem_cons.mp h with q | q
   ·exact hc q.symm
   ·exact ih hg q
theorem q0q {a b : Nat} (h : a ≠ b) : ¬ (Sum.inl (a : Int) : Key) = Sum.inl (b : Int) := fun q => h (by have := Sum.inl.inj q; omega)
theorem j6m {n : Net} (hn : (n.map (·.1)).Nodup) {i j : Nat} (hi : i < n.length) (hj : j < n.length) (h : nmA n i = nmA n j) : i = j := by
 rw [j2x hi, j2x hj] at h
 have := (List.nodup_iff_pairwise_ne.mp hn)
 rw [List.pairwise_iff_getElem] at this
 rcases Nat.lt_trichotomy i j with q | q | q
 ·exact absurd (by rw [List.getElem_map, List.getElem_map]; exact h) (this i j (by simpa using hi) (by simpa using hj) q)
 ·exact q
 ·exact absurd (by rw [List.getElem_map, List.getElem_map]; exact h.symm) (this j i (by simpa using hj) (by simpa using hi) q)
end Nt
namespace Nt
open PySem L2
theorem j9l (x : Str) : ∀ {sd : List Str}, Srt sd → ∃ sd', Srt sd' ∧ ∀ y, y ∈ sd' ↔ y = x ∨ y ∈ sd
 | [], _ => ⟨[x], List.pairwise_singleton _ _, fun y => by simp⟩
 | a :: r, h => by
  have h' := List.pairwise_cons.mp h
  by_cases q : x.cps.toList < a.cps.toList
  ·refine ⟨x :: a :: r, List.pairwise_cons.mpr ⟨fun y hy => ?_, h⟩, fun y => by simp⟩
   rcases List.mem_cons.mp hy with e | e
   ·rw [e]; exact q
   ·exact List.lt_trans q (h'.1 y e)
  ·rcases List.le_iff_lt_or_eq.mp (List.not_lt.mp q) with q2 | q2
   ·obtain ⟨sd', s1, s2⟩ := j9l x h'.2
    refine ⟨a :: sd', List.pairwise_cons.mpr ⟨fun y hy => ?_, s1⟩, fun y => ?_⟩
    ·rcases (s2 y).mp hy with e | e
     ·rw [e]; exact q2
     ·exact h'.1 y e
    ·rw [List.mem_cons, s2, List.mem_cons]
     constructor
     ·rintro (e | e | e)
      ·exact .inr (.inl e)
      ·exact .inl e
      ·exact .inr (.inr e)
     ·rintro (e | e | e)
      ·exact .inr (.inl e)
      ·exact .inl e
      ·exact .inr (.inr e)
   ·refine ⟨a :: r, h, fun y => ?_⟩
    have : a = x := SetT.str_ext q2
    subst this
    simp
theorem j69 : ∀ L : List Str, ∃ sd, Srt sd ∧ ∀ y, y ∈ sd ↔ y ∈ L
 | [] => ⟨[], List.Pairwise.nil, fun _ => Iff.rfl⟩
 | x :: L => by
  obtain ⟨sd, h1, h2⟩ := j69 L
  obtain ⟨sd', h3, h4⟩ := j9l x h1
  exact ⟨sd', h3, fun y => by rw [h4, h2, List.mem_cons]⟩
abbrev vB (b : Bool) : V := .int (if b then 1 else 0)
theorem k33 {b c : Bool} (h : vB b = vB c) : b = c := by
 cases b <;> cases c <;> first | rfl | (exact absurd (V.int.inj h) (by decide))
structure FxI (n : Net) (ss : List Str) (kvs : List (Key × V)) : Prop where
 nod : (kvs.map (·.1)).Nodup
 num : ∀ k ∈ kvs.map (·.1), ∃ r : Nat, k = Sum.inl (r : Int) ∧ r < n.length
 val : ∀ (r : Nat) v, valV kvs (Sum.inl (r : Int)) = some v → ∃ b, v = vB b ∧ Way (lksE n ss) (fstN n) (nmA n r) b
 fst : valV kvs (Sum.inl ((0 : Nat) : Int)) = some (vB false)
theorem FxI.start {n : Net} {ss : List Str} (h0 : 0 < n.length) : FxI n ss (putK [] (Sum.inl 0) (.int 0)) := by
 have hv : ∀ r : Nat, valV (putK ([] : List (Key × V)) (Sum.inl 0) (.int 0)) (Sum.inl (r : Int)) = if r = 0 then some (.int 0) else none := fun r => by
  rw [j0q]
  by_cases h : r = 0
  ·subst h
   rfl
  ·rw [if_neg h, if_neg (fun q => h (by have := Sum.inl.inj q; omega))]
   rfl
 refine ⟨by show ([Sum.inl 0] : List Key).Nodup; simp, fun k hk => ⟨0, by simpa [putK] using hk, h0⟩, fun r v h => ?_, (hv 0).trans (if_pos rfl)⟩
 rw [hv] at h
 by_cases c : r = 0
 ·rw [if_pos c] at h
  cases h
  subst c
  exact ⟨false, rfl, .here⟩
 ·rw [if_neg c] at h
  cases h
theorem FxI.len {n : Net} {ss : List Str} {kvs : List (Key × V)} (I : FxI n ss kvs) : kvs.length ≤ n.length := by
 have := nodup_le I.nod (b := (List.range n.length).map fun r => Sum.inl ((r : Nat) : Int)) fun k hk => by
  obtain ⟨r, e, h⟩ := I.num k hk
  exact List.mem_map.mpr ⟨r, List.mem_range.mpr h, e.symm⟩
 rw [List.length_map, List.length_map, List.length_range] at this
 exact this
theorem FxI.way {n : Net} {ss : List Str} {kvs : List (Key × V)} (I : FxI n ss kvs) {e : End} {z : Str} {b : Bool} (hz : j0s n e = some z) (hb : valV kvs (Sum.inl (e.1 : Int)) = some (vB b)) : Way (lksE n ss) (fstN n) (nmA n (other n e).1) (b != decide (z ∈ ss)) := by
 obtain ⟨b', q, w⟩ := I.val e.1 _ hb
 have := k33 q
 subst this
 rcases (j4g (n := n) (ss := ss)).to e z hz with t | t
 ·exact .there w t
 ·exact .back w t
theorem FxI.add {n : Net} (T : j02 n) {ss : List Str} {kvs : List (Key × V)} (I : FxI n ss kvs) {e : End} {z : Str} {b : Bool} (hz : j0s n e = some z) (hb : valV kvs (Sum.inl (e.1 : Int)) = some (vB b)) (hn : valV kvs (Sum.inl ((other n e).1 : Int)) = none) :
  FxI n ss (putK kvs (Sum.inl ((other n e).1 : Int)) (vB (b != decide (z ∈ ss)))) ∧ (putK kvs (Sum.inl ((other n e).1 : Int)) (vB (b != decide (z ∈ ss)))).length = kvs.length + 1 := by
 have w := I.way hz hb
 have hlt := j6c T hz
 have hnk := k34 hn
 refine ⟨⟨?_, fun k hk => ?_, fun r v hv => ?_, ?_⟩, ?_⟩
 ·rw [k0x, if_neg hnk]
  exact j23 I.nod hnk
 ·rw [k0x, if_neg hnk] at hk
  rcases List.mem_append.mp hk with hk | hk
  ·exact I.num k hk
  ·exact ⟨_, List.mem_singleton.mp hk, hlt⟩
 ·rw [j0q] at hv
  by_cases q : r = (other n e).1
  ·rw [if_pos (by rw [q])] at hv
   cases hv
   exact ⟨_, rfl, by rw [q]; exact w⟩
  ·rw [if_neg (q0q q)] at hv
   exact I.val r v hv
 ·have hv := I.fst
  rw [j0q, if_neg (fun q => by rw [q, hn] at hv; cases hv)]
  exact hv
 ·have := congrArg List.length (k0x kvs (Sum.inl ((other n e).1 : Int)) (vB (b != decide (z ∈ ss))))
  rw [if_neg hnk, List.length_append, List.length_map, List.length_map] at this
  exact this
def Shut (n : Net) (kvs : List (Key × V)) (z : Str) : Prop := ∀ e, j0s n e = some z → valV kvs (Sum.inl (e.1 : Int)) ≠ none → valV kvs (Sum.inl ((other n e).1 : Int)) ≠ none
theorem FxI.all {n : Net} (T : j02 n) (hg : Hang n) (h0 : 0 < n.length) (hn : (n.map (·.1)).Nodup) {ss : List Str} {kvs : List (Key × V)} (I : FxI n ss kvs) (hs : ∀ z ∈ ties n, Shut n kvs z) : ∀ r, r < n.length → ∃ b, valV kvs (Sum.inl (r : Int)) = some (vB b) := fun r hr => by
 have one : ∀ i, valV kvs (Sum.inl ((i : Nat) : Int)) ≠ none → ∃ b, valV kvs (Sum.inl (i : Int)) = some (vB b) := fun i hi => by
  obtain ⟨v, hv⟩ := Option.ne_none_iff_exists'.mp hi
  obtain ⟨b, e, _⟩ := I.val i v hv
  exact ⟨b, by rw [hv, e]⟩
 refine one r ?_
 have := hg (fun x => ∃ i, i < n.length ∧ nmA n i = x ∧ valV kvs (Sum.inl ((i : Nat) : Int)) ≠ none) ⟨n[0], List.getElem_mem h0, 0, h0, j2x h0, by rw [I.fst]; exact fun z => nomatch z⟩ (fun r hr s hs' t tr ts ⟨i, hi, e, hb⟩ => ?_) n[r] (List.getElem_mem hr)
 ·obtain ⟨i, hi, e, hb⟩ := this
  rw [← j2x hr] at e
  rw [← j6m hn hi hr e]
  exact hb
 ·obtain ⟨k, hk, rfl⟩ := List.mem_iff_getElem.mp hr
  obtain ⟨j, hj, rfl⟩ := List.mem_iff_getElem.mp hs'
  rw [← j2x hk] at e
  have := j6m hn hi hk e
  subst this
  obtain ⟨p, hp⟩ := List.getElem?_of_mem tr
  obtain ⟨q, hq⟩ := List.getElem?_of_mem ts
  have h1 : j0s n (i, p) = some t := by show (row n i)[p]? = _; rw [j3r hi]; exact hp
  have h2 : j0s n (j, q) = some t := by show (row n j)[q]? = _; rw [j3r hj]; exact hq
  refine ⟨j, hj, j2x hj, ?_⟩
  rcases (j2t T h1).mp h2 with e | e
  ·have : j = i := congrArg (·.1) e
   subst this
   exact hb
  ·have := hs t (j2s h1) (i, p) h1 hb
   rw [← e] at this
   exact this
theorem FxI.bad {n : Net} (T : j02 n) {ss : List Str} {kvs : List (Key × V)} (I : FxI n ss kvs) {e : End} {z : Str} {b c : Bool} (hz : j0s n e = some z) (hb : valV kvs (Sum.inl (e.1 : Int)) = some (vB b)) (hc : valV kvs (Sum.inl ((other n e).1 : Int)) = some (vB c))
  (hne : (b != c) ≠ decide (z ∈ ss)) : ∀ sd, ¬ IsSide n ss sd := fun sd hs => by
 obtain ⟨c', q, w⟩ := I.val _ _ hc
 have := k33 q
 subst this
 have e1 := j4v T j4g hs w
 have e2 := j4v T j4g hs (I.way hz hb)
 rw [e1] at e2
 apply hne
 rw [e2]
 cases b <;> cases decide (z ∈ ss) <;> rfl
theorem FxI.whole {n : Net} (T : j02 n) (hn : (n.map (·.1)).Nodup) (h0 : 0 < n.length) {ss : List Str} {kvs : List (Key × V)} (I : FxI n ss kvs) (ha : ∀ r, r < n.length → ∃ b, valV kvs (Sum.inl (r : Int)) = some (vB b)) (hss : ∀ z ∈ ss, z ∈ ties n)
  (hok : ∀ z ∈ ties n, ∃ e b c, j0s n e = some z ∧ valV kvs (Sum.inl (e.1 : Int)) = some (vB b) ∧ valV kvs (Sum.inl ((other n e).1 : Int)) = some (vB c) ∧ (b != c) = decide (z ∈ ss)) : ∃ sd, IsSide n ss sd := by
 obtain ⟨sd, h1, h2⟩ := j69 (((List.range n.length).filter fun (r : Nat) => decide (valV kvs (Sum.inl (r : Int)) = some (vB true))).map (nmA n))
 have mem : ∀ r, r < n.length → ∀ b, valV kvs (Sum.inl (r : Int)) = some (vB b) → decide (nmA n r ∈ sd) = b := fun r hr b hb => by
  have : nmA n r ∈ sd ↔ b = true := by
   rw [h2, List.mem_map]
   constructor
   ·rintro ⟨i, hi, e⟩
    rw [List.mem_filter, List.mem_range] at hi
    have := j6m hn hi.1 hr e
    subst this
    have h3 := of_decide_eq_true hi.2
    rw [hb] at h3
    exact k33 (Option.some.inj h3)
   ·intro e
    subst e
    exact ⟨r, List.mem_filter.mpr ⟨List.mem_range.mpr hr, decide_eq_true hb⟩, rfl⟩
  by_cases q : b = true
  ·rw [q]; exact decide_eq_true (this.mpr q)
  ·rw [Bool.not_eq_true] at q
   rw [q]
   exact decide_eq_false fun k => by rw [this.mp k] at q; cases q
 refine ⟨sd, h1, fun x hx => ?_, fun hx => ?_, fun z => ?_⟩
 ·obtain ⟨i, hi, rfl⟩ := List.mem_map.mp ((h2 x).mp hx)
  exact j25 (List.mem_range.mp (List.mem_filter.mp hi).1)
 ·have := mem 0 h0 false I.fst
  exact absurd hx (of_decide_eq_false this)
 ·by_cases hz : z ∈ ties n
  ·obtain ⟨e, b, c, he, hb, hc, hbc⟩ := hok z hz
   rw [j80 T he, mem _ (j1h he) b hb, mem _ (j6c T he) c hc, hbc]
   exact ⟨fun h => decide_eq_true h, fun h => of_decide_eq_true h⟩
  ·exact ⟨fun h => absurd (hss z h) hz, fun h => absurd (k7u h) hz⟩
end Nt
namespace L2
open PySem PySem.Spec PyProof.Rows
theorem j2o : ∀ (names : List (Str × NameKind)) (n : Nat) (acc : List (Str × Addr)), cellsFrom n names acc = cellsFrom n names [] ++ acc
 | [], _, _ => rfl
 | (y, k) :: r, n, acc => by
  unfold cellsFrom
  split
  ·rw [j2o r (n + 1) ((y, n) :: acc), j2o r (n + 1) [(y, n)], List.append_assoc]
   rfl
  ·exact j2o r n acc
theorem j3f : ∀ (names : List (Str × NameKind)) (n : Nat) {x : Str} {c : Addr}, (x, c) ∈ cellsFrom n names [] → (x, NameKind.cell) ∈ names ∧ n ≤ c
 | [], _, _, _, h => by cases h
 | (y, k) :: r, n, x, c, h => by
  unfold cellsFrom at h
  split at h
  ·rename_i hk
   rw [j2o, List.mem_append] at h
   rcases h with h | h
   ·obtain ⟨a, b⟩ := j3f r (n + 1) h
    exact ⟨List.mem_cons_of_mem _ a, by omega⟩
   ·cases List.mem_singleton.mp h
    have : k = .cell := by cases k <;> first | rfl | exact absurd hk (by decide)
    subst this
    exact ⟨List.mem_cons_self, Nat.le_refl _⟩
  ·obtain ⟨a, b⟩ := j3f r n h
   exact ⟨List.mem_cons_of_mem _ a, b⟩
theorem j5i {names : List (Str × NameKind)} {n : Nat} {cl : List (Str × Addr)} {x : Str} {c : Addr} (h : (cellsFrom n names cl).lookup x = some c) : ((x, c) ∈ cellsFrom n names [] ∧ n ≤ c) ∨ cl.lookup x = some c := by
 rw [j2o, List.lookup_append] at h
 cases e : (cellsFrom n names []).lookup x with
 | some d =>
  rw [e] at h
  cases h
  have hm := PySem.mem_of_lookup e
  exact .inl ⟨hm, (j3f _ _ hm).2⟩
 | none =>
  rw [e] at h
  exact .inr h
theorem k3f {names : List (Str × NameKind)} {n : Nat} {cl : List (Str × Addr)} {x : Str} (h : (x, NameKind.cell) ∉ names) : (cellsFrom n names cl).lookup x = cl.lookup x := by
 rw [j2o, List.lookup_append]
 cases e : (cellsFrom n names []).lookup x with
 | some d => exact absurd (j3f _ _ (PySem.mem_of_lookup e)).1 h
 | none => rfl
section
variable {M : Model} {A : Around} {E : Value → Shared → Prop} {s : Shared}
theorem j7z {scope : Scope} {globals : Addr} {closure : List (Str × Addr)} {qual : Str} {func : Option Addr} {code : Value} {outer : Env} {builtins : Addr} {Q : Env → Shared → Prop}
  (hQ : ∀ h', h'.Ns s.heap.objs.size (fun _ => none) → (∀ b o, s.heap.get? b = some o → h'.get? b = some o) → CellsOk h' (s.heap.objs.size + 1) (cellsFrom (s.heap.objs.size + 1) scope.names []) →
   Q (newEnv scope s.heap.objs.size globals (cellsFrom (s.heap.objs.size + 1) scope.names closure) qual func code (some outer) builtins) { s with heap := h' }) :
  wpAny M A (newFunctionEnv scope globals closure [] qual func code (some outer) builtins) Q E s := by
 simp only [newFunctionEnv, Option.isSome_some, if_true]
 refine wpAny_bind (wpAny_alloc ?_)
 refine wpAny_bind (wpAny_layCells _ (fun name kind cells => by cases hkc : kind == NameKind.cell <;> simp [hkc]) _ _ _ _ ?_)
 have ok := cellsFrom_ok scope.names (s.heap.push { cls := .type "dict", data := .dict #[] }) (s.heap.objs.size + 1) [] ⟨fun _ _ hm => (nomatch hm), List.Pairwise.nil⟩ (by rw [Heap.size_push]; exact Nat.le_refl _)
 rw [Heap.size_push] at ok
 rw [show ({ s with heap := s.heap.push { cls := .type "dict", data := .dict #[] } } : Shared).heap.objs.size = s.heap.objs.size + 1 from Heap.size_push ..]
 rw [List.forIn_nil]
 exact wpAny_bind (wpAny_pure (wpAny_pure (hQ _ ((Heap.Ns.new s.heap (.type "dict")).keeps (pushCells_keeps _ _)) (fun b o e => pushCells_keeps _ _ b o (Heap.get?_push_of_some _ e)) ok)))
end
def j10 (X : Cx) (N' : List Str) (scope : Scope) (cl : List (Str × Addr)) (C : Addr) (s₀ : Shared) (H₀ : Hp) (ex : List Addr) : Cx :=
 { j1a X N' scope cl C s₀ H₀ ex with fn := fun x => match scope.names.lookup x with | some .cell => true | _ => false }
def j6t (sc scope : Scope) (N N' : List Str) : Bool :=
 (match scope.kind with | .function => true | _ => false) &&
 scope.names.all (fun y => match y.2 with
  | .cell => (match scope.names.lookup y.1 with | some .cell => true | _ => false)
  | .local => (match scope.names.lookup y.1 with | some .local => true | _ => false)
  | .free => (match sc.names.lookup y.1 with | some .cell => true | some .free => true | _ => false) && (match scope.names.lookup y.1 with | some .free => true | _ => false)
  | _ => true) &&
 (List.range N'.length).all fun i => match N'[i]? with
  | none => true
  | some x => match scope.names.lookup x with
   | some .local => decide (N.length ≤ i)
   | some .cell => decide (N.length ≤ i)
   | some .free => decide (N[i]? = some x)
   | _ => true
structure CompOkC (sc scope : Scope) (N N' : List Str) : Prop where
 kind : scope.kind = .function
 cell : ∀ y ∈ scope.names, y.2 = .cell → scope.names.lookup y.1 = some .cell
 names : ∀ y ∈ scope.names, y.2 = .local → scope.names.lookup y.1 = some .local
 free : ∀ y ∈ scope.names, y.2 = .free → sc.names.lookup y.1 = some .cell ∨ sc.names.lookup y.1 = some .free
 freeL : ∀ y ∈ scope.names, y.2 = .free → scope.names.lookup y.1 = some .free
 own : ∀ (i : Nat) x, N'[i]? = some x → scope.names.lookup x = some .local → N.length ≤ i
 ownC : ∀ (i : Nat) x, N'[i]? = some x → scope.names.lookup x = some .cell → N.length ≤ i
 out : ∀ (i : Nat) x, N'[i]? = some x → scope.names.lookup x = some .free → N[i]? = some x
theorem CompOkC.of {sc scope : Scope} {N N' : List Str} (h : j6t sc scope N N' = true) : CompOkC sc scope N N' := by
 unfold j6t at h
 rw [Bool.and_eq_true, Bool.and_eq_true] at h
 obtain ⟨⟨h1, h2⟩, h3⟩ := h
 have h2' := List.all_eq_true.mp h2
 have h3' := List.all_eq_true.mp h3
 refine ⟨?_, fun y hy e => ?_, fun y hy e => ?_, fun y hy e => ?_, fun y hy e => ?_, fun i x hi e => ?_, fun i x hi e => ?_, fun i x hi e => ?_⟩
 ·revert h1; cases scope.kind <;> intro h1 <;> first | rfl | cases h1
 ·have q := h2' y hy
  rw [e] at q
  simp only at q
  split at q
  ·assumption
  ·cases q
 ·have q := h2' y hy
  rw [e] at q
  simp only at q
  split at q
  ·assumption
  ·cases q
 ·have q := h2' y hy
  rw [e] at q
  simp only at q
  rw [Bool.and_eq_true] at q
  have q := q.1
  split at q
  ·exact .inl (by assumption)
  ·exact .inr (by assumption)
  ·cases q
 ·have q := h2' y hy
  rw [e] at q
  simp only at q
  rw [Bool.and_eq_true] at q
  have q := q.2
  split at q
  ·assumption
  ·cases q
 ·have q := h3' i (List.mem_range.mpr (List.getElem?_eq_some_iff.mp hi).1)
  rw [hi] at q
  simp only [e] at q
  exact of_decide_eq_true q
 ·have q := h3' i (List.mem_range.mpr (List.getElem?_eq_some_iff.mp hi).1)
  rw [hi] at q
  simp only [e] at q
  exact of_decide_eq_true q
 ·have q := h3' i (List.mem_range.mpr (List.getElem?_eq_some_iff.mp hi).1)
  rw [hi] at q
  simp only [e] at q
  exact of_decide_eq_true q
section
variable {X : Cx} {pins : List (Addr × Obj)} {σ : St} {H : Hp} {s : Shared}
theorem k2v {N' : List Str} {scope : Scope} {n : Nat} {fp : List Addr} {h₁ : Heap} {t' : Nat} {m : Str → Option Value} (I : Inv X pins σ H s) (ck : CompOkC X.env.scope scope X.N N') (hl : N'.length = X.N.length + n)
  (hns : h₁.Ns s.heap.objs.size m) (old : ∀ b o, s.heap.get? b = some o → h₁.get? b = some o) (hcs : CellsOk h₁ (s.heap.objs.size + 1) (cellsFrom (s.heap.objs.size + 1) scope.names []))
  (hfp : ∀ b ∈ fp, FpOk X pins H b ∧ b < s.heap.objs.size) :
  Inv (j10 X N' scope (cellsFrom (s.heap.objs.size + 1) scope.names (j0v scope.names X.env.cells [])) s.heap.objs.size s H fp) [] (σ ++ List.replicate n none) H { s with heap := h₁, toks := t' } := by
 have sub : ∀ x c, (j0v scope.names X.env.cells []).lookup x = some c → X.env.cells.lookup x = some c := fun x c e => j2k _ _ _ (fun _ _ z => by simp at z) x c (PySem.mem_of_lookup e)
 have both : ∀ x c, (cellsFrom (s.heap.objs.size + 1) scope.names (j0v scope.names X.env.cells [])).lookup x = some c → ((x, c) ∈ cellsFrom (s.heap.objs.size + 1) scope.names [] ∧ s.heap.objs.size + 1 ≤ c) ∨ X.env.cells.lookup x = some c := fun x c e => by
  rcases j5i e with z | z
  ·exact .inl z
  ·exact .inr (sub x c z)
 have oldlt : ∀ x c, X.env.cells.lookup x = some c → c < s.heap.objs.size := fun x c e => by
  obtain ⟨v, o, ho, _⟩ := I.cell x c e
  exact Heap.lt_size ho
 have fre : H s.heap.objs.size = none := I.hok.fresh (Nat.le_refl _)
 have kindOf : ∀ {x : Str} {k' : NameKind}, (relabel scope X.env).names.lookup x = some k' → ∃ k, scope.names.lookup x = some k ∧ (k' = k ∨ (k = .free ∧ k' = .cell)) := fun z => j08 z
 have frl : ∀ x, scope.names.lookup x = some .free → (cellsFrom (s.heap.objs.size + 1) scope.names (j0v scope.names X.env.cells [])).lookup x = (j0v scope.names X.env.cells []).lookup x := fun x e => k3f fun hm => by
  have := ck.cell _ hm rfl
  rw [e] at this
  cases this
 have hasC : ∀ x, scope.names.lookup x = some .cell → ∃ c, (cellsFrom (s.heap.objs.size + 1) scope.names (j0v scope.names X.env.cells [])).lookup x = some c := fun x e => Option.isSome_iff_exists.mp (PySem.W.cellsFrom_some _ _ _ (.inl e))
 have ok' : (j10 X N' scope (cellsFrom (s.heap.objs.size + 1) scope.names (j0v scope.names X.env.cells [])) s.heap.objs.size s H fp).Ok := by
  refine ⟨I.ok.mod, ck.kind, I.ok.glob, I.ok.blt, Nat.le_refl _, fun x y c e1 e2 => ?_, fun x hx => ?_, fun x c hf e => ?_, I.ok.hd, I.ok.frames, .inl rfl, fun b hb => ⟨Nat.ne_of_lt (hfp b hb).2, fun x c e => ?_⟩,
   I.bs, Nat.le_trans I.ok.bsz I.sz, fun b o e hb => ?_, fun b hb hf => ?_, I.stack, I.stkFree⟩
  ·rcases both x c e1 with z1 | z1
   ·rcases both y c e2 with z2 | z2
    ·exact name_of_addr hcs.apart z1.1 z2.1
    ·exact absurd (oldlt y c z2) (Nat.not_lt.mpr (Nat.le_of_succ_le z1.2))
   ·rcases both y c e2 with z2 | z2
    ·exact absurd (oldlt x c z1) (Nat.not_lt.mpr (Nat.le_of_succ_le z2.2))
    ·exact I.ok.inj x y c z1 z2
  ·have hx' : (relabel scope X.env).names.lookup x = some .cell ∨ (relabel scope X.env).names.lookup x = some .free := hx
   have : ∃ k, scope.names.lookup x = some k ∧ (k = .free ∨ k = .cell) := by
    rcases hx' with z | z
    ·obtain ⟨k, e, r⟩ := kindOf z
     rcases r with r | ⟨r, _⟩
     ·exact ⟨k, e, .inr r.symm⟩
     ·exact ⟨k, e, .inl r⟩
    ·obtain ⟨k, e, r⟩ := kindOf z
     rcases r with r | ⟨r, _⟩
     ·exact ⟨k, e, .inl r.symm⟩
     ·exact ⟨k, e, .inl r⟩
   obtain ⟨k, e, rfl | rfl⟩ := this
   ·have hm := PySem.mem_of_lookup e
    obtain ⟨c, hc⟩ := I.ok.has x (ck.free _ hm rfl)
    obtain ⟨d, hd⟩ := j09 (j2w scope.names X.env.cells [] x c hm hc)
    exact ⟨d, (frl x e).trans hd⟩
   ·exact hasC x e
  ·have hx : scope.names.lookup x = some .cell := by
    have hf' : (match scope.names.lookup x with | some .cell => true | _ => false) = true := hf
    split at hf'
    ·assumption
    ·cases hf'
   have e' : (cellsFrom (s.heap.objs.size + 1) scope.names (j0v scope.names X.env.cells [])).lookup x = some c := e
   have q1 := Option.isSome_iff_exists.mp (PySem.W.cellsFrom_some scope.names (s.heap.objs.size + 1) [] (.inl hx))
   obtain ⟨d, hd⟩ := q1
   rw [j2o, List.lookup_append, hd] at e'
   have e2 : d = c := Option.some.inj e'
   have := (j3f _ _ (PySem.mem_of_lookup hd)).2
   rw [← e2]
   exact Nat.le_of_succ_le this
  ·have e' : (cellsFrom (s.heap.objs.size + 1) scope.names (j0v scope.names X.env.cells [])).lookup x = some c := e
   rcases both x c e' with z | z
   ·have h1 := (hfp b hb).2
    have h2 := z.2
    exact fun k => absurd h1 (Nat.not_lt.mpr (by rw [← k]; exact Nat.le_of_succ_le h2))
   ·exact (hfp b hb).1.2.2.2.2.1 x c z
  ·have := (hfp b hb).1.2.2.2.1
   rcases this with z | z
   ·exact I.ok.noex b o e z
   ·exact absurd (Nat.lt_of_lt_of_le (Heap.lt_size e) (Nat.le_trans I.ok.bsz z)) (Nat.lt_irrefl _)
  ·rcases List.mem_cons.mp (I.stkSub b hf) with z | z
   ·exact (hfp b hb).1.2.1 z
   ·exact (hfp b hb).1.2.2.1 z
 refine ⟨ok', rfl, I.bare, Un.kept old, ⟨m, hns, fun i x v e1 e2 e3 => ?_⟩, fun x c e => ?_, fre, fun x c e => ?_, fun p hp => absurd hp (by simp [j10, j1a]), I.hok.kept old, ?_⟩
 ·have hi : i < σ.length := by
   by_cases hi : i < σ.length
   ·exact hi
   ·rw [List.getElem?_append_right (by omega), List.getElem?_replicate] at e2
    split at e2 <;> cases e2
  rw [List.getElem?_append_left hi] at e2
  have e1' : N'[i]? = some x := e1
  have vis : ∃ k', (relabel scope X.env).names.lookup x = some k' ∧ (k' = .local ∨ k' = .cell ∨ k' = .free) := by
   rcases e3 with z | z | z
   ·exact ⟨_, z, .inl rfl⟩
   ·exact ⟨_, z, .inr (.inl rfl)⟩
   ·exact ⟨_, z, .inr (.inr rfl)⟩
  obtain ⟨k', ek', hk'⟩ := vis
  obtain ⟨k, ek, r⟩ := kindOf ek'
  have kf : k = .free := by
   rcases r with r | ⟨r, _⟩
   ·subst r
    rcases hk' with z | z | z
    ·subst z
     have := ck.own i x e1' ek
     rw [I.len] at hi
     omega
    ·subst z
     have := ck.ownC i x e1' ek
     rw [I.len] at hi
     omega
    ·exact z
   ·exact r
  subst kf
  have hm := PySem.mem_of_lookup ek
  have hxN := ck.out i x e1' ek
  obtain ⟨m0, hn0, hl0⟩ := I.loc
  have kx := ck.free _ hm rfl
  obtain ⟨u, ru, lk⟩ := hl0 i x v hxN e2 (by rcases kx with z | z; exact .inr (.inl z); exact .inr (.inr z))
  refine ⟨u, ru, .inr ⟨?_, ?_⟩⟩
  ·rcases r with r | ⟨_, r⟩
   ·subst r
    exact .inr ek'
   ·subst r
    exact .inl ek'
  ·rcases lk with ⟨k1, _⟩ | ⟨_, c, hc, hcell⟩
   ·have k1' : X.env.scope.names.lookup x = some .local := k1
    rcases kx with z | z
    ·rw [k1'] at z; cases z
    ·rw [k1'] at z; cases z
   ·have hin := j2w scope.names X.env.cells [] x c hm hc
    obtain ⟨d, hd⟩ := j09 hin
    have : d = c := Option.some.inj ((sub x d hd).symm.trans hc)
    subst this
    obtain ⟨o, ho, hdat⟩ := hcell
    exact ⟨d, (frl x ek).trans hd, o, old _ _ ho, hdat⟩
 ·have e' : (cellsFrom (s.heap.objs.size + 1) scope.names (j0v scope.names X.env.cells [])).lookup x = some c := e
  rcases both x c e' with z | z
  ·exact ⟨none, (hcs.empty x c z.1).1⟩
  ·obtain ⟨v, o, ho, hdat⟩ := I.cell x c z
   exact ⟨v, o, old _ _ ho, hdat⟩
 ·have e' : (cellsFrom (s.heap.objs.size + 1) scope.names (j0v scope.names X.env.cells [])).lookup x = some c := e
  rcases both x c e' with z | z
  ·exact I.hok.fresh (Nat.le_of_succ_le z.2)
  ·exact I.freeC x c z
 ·rw [List.length_append, List.length_replicate, I.len]
  exact hl.symm
end
section
variable {X : Cx} {elt tg iter : Expr} {ifs : List Expr} {scope : Scope} {pos : Pos} {N' : List Str} {n : Nat} {wi : TI} {g : TG} {tc : TT} {te : TE}
theorem k1d {pins : List (Addr × Obj)} {σ : St} {H2 : Hp} {s2 : Shared} {E : Value → Shared → Prop} {RR : Value → Addr → Result → Shared → Prop} {it : Addr} {fp : List Addr} {tn : Nat → Heap → Prop} {J : It} {Q : VK}
  (hc : X.calm = true) (ck : CompOkC X.env.scope scope X.N N') (hl : N'.length = X.N.length + n)
  (hg : ∀ cl C s₀ H₀ ex, PG (j10 X N' scope cl C s₀ H₀ ex) tg g) (hif : ∀ cl C s₀ H₀ ex, PIf (j10 X N' scope cl C s₀ H₀ ex) ifs tc) (he : ∀ cl C s₀ H₀ ex, PE (j10 X N' scope cl C s₀ H₀ ex) elt te)
  (I2 : Inv X pins σ H2 s2) (T : Turn X.prog X.w X.K tg J fp it tn) (st2 : tn 0 s2.heap) (f2 : ∀ b ∈ fp, FpOk X pins H2 b)
  (q : ∀ D, H2 D = none → ∃ W : Nat → Nat → St → Hp → Prop, (∃ m, W 0 m (σ ++ List.replicate n none) (upd H2 D (.lst []))) ∧ ∀ i m σ' H', W i m σ' H' →
   (J.stop i H' ∧ Q (.ref D) H') ∨ (J.go i H' ∧ ∃ N : St → Hp → Prop, (∀ σ' H', N σ' H' → ∃ m', m' < m ∧ W (i + 1) m' σ' H') ∧ ∀ x H2, J.yld i H' x H2 → g x σ' H2 fun σ2 H3 => tc σ2 H3 fun b H4 =>
    if b = true then te σ2 H4 fun v H5 => ∃ ys, H5 D = some (.lst ys) ∧ ys.length < sizeLine ∧ N σ2 (upd H5 D (.lst (ys ++ [v]))) else N σ2 H4))
  (hRR : ∀ D C H' s' m, Inv X pins σ H' s' → s'.heap.Ns C m → H' C = none → C ≠ X.env.locals → X.s₀.heap.objs.size ≤ C → (∀ x c, X.env.cells.lookup x = some c → c ≠ C) → (∀ p ∈ X.pn ++ pins, p.1 ≠ C) → Q (.ref D) H' → RR (.ref D) C (.ok .next) s') :
  wpAny (model X.prog X.w) X.A (newList []) (fun acc s₃ => wpAny (model X.prog X.w) X.A (newFunctionEnv scope X.env.globals (j0v scope.names X.env.cells []) [] X.env.qual none .none (some X.env)) (fun cenv s₄ =>
   codeAny (model X.prog X.w) X.A (.compStart (.ListComp elt [⟨tg, iter, ifs, 0⟩] scope pos) 0 (.ref it) acc { cenv with scope := relabel scope X.env }) (RR acc cenv.locals) s₄) E s₃) E s2 := by
 refine wpAny_newObj_type (j7z (fun h₁ hns₁ old₁ hcs₁ => ?_)) (by show (0 : Nat) ≤ sizeLine; exact Nat.zero_le _)
 have hD : H2 s2.heap.objs.size = none := I2.hok.fresh (Nat.le_refl _)
 obtain ⟨W, ⟨m0, w0⟩, turn⟩ := q s2.heap.objs.size hD
 have fl : ∀ b ∈ fp, b < s2.heap.objs.size := fun b hb => by
  obtain ⟨o, e, _⟩ := T.obj 0 _ st2 b hb
  exact Heap.lt_size e
 have I3 : Inv X pins σ (upd H2 s2.heap.objs.size (.lst [])) { s2 with heap := s2.heap.push { cls := .type "list", dict := none, data := .seq ([] : List Value).toArray } } :=
  I2.laid (t' := s2.toks) (fun b o e => Heap.get?_push_of_some _ e) (Nat.le_refl _) (show ObjOk X.prog X.w _ _ _ (.lst []) from ⟨Nat.zero_le _, [], 0, .nil, Heap.get?_push_size _ rfl⟩)
 generalize hs3 : ({ s2 with heap := s2.heap.push { cls := .type "list", dict := none, data := .seq ([] : List Value).toArray } } : Shared) = s3 at I3 hns₁ old₁ hcs₁ ⊢
 have hz3 : s3.heap.objs.size = s2.heap.objs.size + 1 := by rw [← hs3]; exact Heap.size_push ..
 have old2 : ∀ b o, s2.heap.get? b = some o → s3.heap.get? b = some o := fun b o e => by rw [← hs3]; exact Heap.get?_push_of_some _ e
 have old : ∀ b o, s3.heap.get? b = some o → h₁.get? b = some o := old₁
 have f3 : ∀ b ∈ fp, FpOk X pins (upd H2 s2.heap.objs.size (.lst [])) b ∧ b < s3.heap.objs.size := fun b hb => by
  refine ⟨⟨?_, (f2 b hb).2⟩, by rw [hz3]; exact Nat.lt_succ_of_lt (fl b hb)⟩
  rw [j0c (Nat.ne_of_lt (fl b hb))]
  exact (f2 b hb).1
 have I4 := fun (t' : Nat) => k2v (N' := N') (scope := scope) (n := n) (fp := fp) (h₁ := h₁) (t' := t') I3 ck hl hns₁ old hcs₁ f3
 generalize hX : j10 X N' scope (cellsFrom (s3.heap.objs.size + 1) scope.names (j0v scope.names X.env.cells [])) s3.heap.objs.size s3 (upd H2 s2.heap.objs.size (.lst [])) fp = X' at I4
 have eP : X'.prog = X.prog := by rw [← hX]; rfl
 have ew : X'.w = X.w := by rw [← hX]; rfl
 have eK : X'.K = X.K := by rw [← hX]; rfl
 have eA : X'.A = X.A := by rw [← hX]; rfl
 have eE : X'.env = compEnvC scope (cellsFrom (s3.heap.objs.size + 1) scope.names (j0v scope.names X.env.cells [])) s3.heap.objs.size X.env := by rw [← hX]; rfl
 have ec : X'.calm = true := by rw [← hX]; exact hc
 have ex' : X'.xe = fun _ _ => False := by rw [← hX]; rfl
 have hg' : PG X' tg g := by rw [← hX]; exact hg _ _ _ _ _
 have hif' : PIf X' ifs tc := by rw [← hX]; exact hif _ _ _ _ _
 have he' : PE X' elt te := by rw [← hX]; exact he _ _ _ _ _
 have stat : ∀ {H' : Hp}, (∀ b ∈ fp, H' b = none) → ∀ b ∈ fp, FpOk X' [] H' b := fun hn b hb => by
  refine ⟨hn b hb, ?_, ?_, ?_, ?_, ?_⟩
  ·rw [eE]; exact Nat.ne_of_lt (f3 b hb).2
  ·rw [← hX]
   intro hf
   rcases List.mem_cons.mp (I3.stkSub b hf) with z | z
   ·exact (f3 b hb).1.2.1 z
   ·exact (f3 b hb).1.2.2.1 z
  ·rw [← hX]; exact .inl hb
  ·rw [eE]
   intro x c e
   rcases j5i e with z | z
   ·exact fun k => absurd (f3 b hb).2 (Nat.not_lt.mpr (by rw [← k]; exact Nat.le_of_succ_le z.2))
   ·exact (f3 b hb).1.2.2.2.2.1 x c (j2k _ _ _ (fun _ _ z => by simp at z) x c (PySem.mem_of_lookup z))
  ·rw [← hX]; intro p hp; exact absurd hp (by simp [j10, j1a])
 have fin : ∀ {σ' : St} {H' : Hp} {s' : Shared}, Inv X' [] σ' H' s' → Q (.ref s2.heap.objs.size) H' → RR (.ref s2.heap.objs.size) s3.heap.objs.size (.ok .next) s' := fun {σ' H' s'} I' q' => by
  obtain ⟨m', hn', _⟩ := id I'.loc
  rw [eE] at hn'
  have hos : s'.os = s3.os := by have := I'.os; rw [← hX] at this; exact this
  have hun : Un (frs X.stack) fp (upd H2 s2.heap.objs.size (.lst [])) H' s3.heap s'.heap := by have := I'.base; rw [← hX] at this; exact this
  have hok : HOk X.prog X.w H' s'.heap := by have := I'.hok; rw [eP, ew] at this; exact this
  have IX : Inv X pins σ H' s' := I3.call' (ch := fp) hos hun hok I'.bare fun b hb => ⟨(f3 b hb).1.2.2.2.1, (f3 b hb).1.2.1, (f3 b hb).1.2.2.2.2.1, (f3 b hb).1.2.2.2.2.2⟩
  have hfr := I'.free
  rw [eE] at hfr
  refine hRR _ _ H' s' m' IX hn' hfr (Nat.ne_of_gt I3.lt) I3.sz (fun x c e z => ?_) (fun p hp z => ?_) q'
  ·obtain ⟨v, o, ho, _⟩ := I3.cell x c e
   exact absurd (Heap.lt_size ho) (by rw [z]; exact Nat.lt_irrefl _)
  ·exact absurd (Heap.lt_size (I3.pin p hp).1) (by rw [z]; exact Nat.lt_irrefl _)
 have loop : ∀ t', codeAny (model X.prog X.w) X.A (.compLoop (.ListComp elt [⟨tg, iter, ifs, 0⟩] scope pos) 0 (.ref it) (.ref s2.heap.objs.size) (compEnvC scope (cellsFrom (s3.heap.objs.size + 1) scope.names (j0v scope.names X.env.cells [])) s3.heap.objs.size X.env)) (RR (.ref s2.heap.objs.size) s3.heap.objs.size) { s3 with heap := h₁, toks := t' } := fun t' => by
  refine j2d (fun k s' => ∃ i σ' H', Inv X' [] σ' H' s' ∧ tn i s'.heap ∧ (∀ b ∈ fp, H' b = none) ∧ W i k σ' H') ?_ m0
   ⟨0, _, _, I4 t', T.keep 0 _ _ st2 fun b _ o e => old b o (old2 b o e), fun b hb => (f3 b hb).1.1, w0⟩
  rintro k s4 ⟨i, σ4, H4, J4, st4, fr4, w4⟩
  rw [← eP, ← ew, ← eA, ← eE]
  rcases turn i k σ4 H4 w4 with ⟨stop, qn⟩ | ⟨go, N, hN, step⟩
  ·have d1 := T.done X' eP ew eK ec i [] s4 σ4 H4 (fun _ _ => False) J4 (stat fr4) st4 stop
   rw [← eP, ← ew] at d1
   refine thnF d1 fun r s5 ⟨hr, I5⟩ => ?_
   subst hr
   exact fin I5 qn
  ·have d1 := T.item X' eP ew eK ec i [] s4 σ4 H4 (fun _ _ => False) J4 (stat fr4) st4 go
   rw [← eP, ← ew] at d1
   refine thnF d1 fun r s5 ⟨u, hr, h5⟩ => ?_
   subst hr
   refine thnF h5 fun _ s6 ⟨x, H6, I6, r6, y6, st6, fr6⟩ => ?_
   have I6' := I6.pinned (stat fr6) (T.obj _ _ st6)
   have again : ∀ {σ7 : St} {H7 : Hp} {s7 : Shared}, Inv X' ([] ++ j45 fp s6.heap) σ7 H7 s7 → N σ7 H7 → ∃ m, m < k ∧ ∃ i σ' H', Inv X' [] σ' H' s7 ∧ tn i s7.heap ∧ (∀ b ∈ fp, H' b = none) ∧ W i m σ' H' := fun {σ7 H7 s7} I7 n7 => by
    obtain ⟨m', hm, w7⟩ := hN σ7 H7 n7
    refine ⟨m', hm, i + 1, σ7, H7, I7.unpinned, T.keep _ _ _ st6 fun b hb o e => (I7.pin (b, o) (List.mem_append_right _ (List.mem_append_right _ (j1u hb e)))).1, fun b hb => ?_, w7⟩
    obtain ⟨o, e, d⟩ := T.obj _ _ st6 b hb
    exact (I7.pin (b, o) (List.mem_append_right _ (List.mem_append_right _ (j1u hb e)))).2.1
   have a1 := hg' _ s6 σ4 H6 x u _ I6' r6 (step x H6 y6)
   rw [ex'] at a1
   refine thnF a1 fun _ s7 ⟨σ7, H7, I7, q7⟩ => ?_
   have a2 := hif' _ s7 σ7 H7 _ I7 q7
   rw [ex'] at a2
   refine thnF a2 fun ok s8 ⟨H8, I8, q8⟩ => ?_
   cases ok with
   | false =>
    rw [if_neg Bool.false_ne_true] at q8 ⊢
    exact again I8 q8
   | true =>
    rw [if_pos rfl] at q8 ⊢
    have a3 := he' _ s8 σ7 H8 _ I8 q8
    rw [ex'] at a3
    refine thnF a3 fun v s9 ⟨vv, H9, I9, r9, ys, hy, hz, q9⟩ => ?_
    have a4 := j4a (X := X') _ s9 σ7 H9 (.ref s2.heap.objs.size) [vv] (.ref s2.heap.objs.size) [v] (fun _ H' => N σ7 H') I9 rfl (.cons r9 .nil) ⟨_, ys, vv, rfl, rfl, hy, hz, q9⟩
    rw [ex'] at a4
    exact thnF a4 fun _ s10 ⟨_, H10, I10, _, q10⟩ => again I10 q10
 refine codeAny_compStart_list (loop _) (T.self _ 0 _ _ _ ?_ (loop _))
 exact T.keep 0 _ _ st2 fun b _ o e => old b o (old2 b o e)
theorem k5c (sc : Scope) (N N' : List Str) (n : Nat) (hi : PI X tg iter wi)
  (hg : ∀ cl C s₀ H₀ ex, PG (j10 X N' scope cl C s₀ H₀ ex) tg g) (hif : ∀ cl C s₀ H₀ ex, PIf (j10 X N' scope cl C s₀ H₀ ex) ifs tc) (he : ∀ cl C s₀ H₀ ex, PE (j10 X N' scope cl C s₀ H₀ ex) elt te)
  (hc : X.calm = true := by rfl) (hsc : X.env.scope = sc := by rfl) (hN : X.N = N := by rfl) (hk : j6t sc scope N N' = true := by decide +kernel) (hl : N'.length = N.length + n := by rfl)
  (hs : ∀ x, foldedSetIterable iter X.env x = pure x := by intro _; rfl) : PE X (.ListComp elt [⟨tg, iter, ifs, 0⟩] scope pos) (k68 n wi g tc te) := by
 intro pins s σ H Q I h
 subst hsc hN
 have ck := CompOkC.of hk
 rw [eval_ListComp]
 refine wpAny_comprehension_free (use := none) rfl hs (j2j fun x hx hf => I.ok.has x.1 (ck.free x hx hf)) ck.kind ck.names (thn (hi pins s σ H _ I h) fun v s1 h1 => thn h1 fun itv s2 h2 => ?_)
 obtain ⟨it, fp, tn, J, H2, e, I2, T, st2, f2, q⟩ := h2
 subst e
 refine k1d (RR := fun acc C => compPost (model X.prog X.w) X.A X.xe none (EP X pins σ Q) acc C) hc ck hl hg hif he I2 T st2 f2 q ?_
 intro D C H' s' m IX hn hC c1 c2 c3 c4 qq
 exact ⟨m, hn, fun h' hs' => ⟨.ref D, H', IX.turned (t' := s'.toks) (fun b o hb e => hs'.extBut b o hb e) hC (Ne.symm (Ne.symm c1)) (.inr c2) c3 c4, rfl, qq⟩⟩
end
def CEvC (X : Cx) (N' : List Str) (scope : Scope) (e : Expr) (σ : St) (H : Hp) (Q : VK) : Prop := ∀ cl C s₀ H₀ ex, Ev (j10 X N' scope cl C s₀ H₀ ex) e σ H Q
def CEgC (X : Cx) (N' : List Str) (scope : Scope) (e : Expr) (v : V) (σ : St) (H : Hp) (Q : St → Hp → Prop) : Prop := ∀ cl C s₀ H₀ ex, Eg (j10 X N' scope cl C s₀ H₀ ex) e v σ H Q
def CEiC (X : Cx) (N' : List Str) (scope : Scope) (ifs : List Expr) (σ : St) (H : Hp) (Q : Bool → Hp → Prop) : Prop := ∀ cl C s₀ H₀ ex, Ei (j10 X N' scope cl C s₀ H₀ ex) ifs σ H Q
def k6n (X : Cx) (N' : List Str) (scope : Scope) (tg : Expr) (ifs : List Expr) (elt : Expr) (J : It) (D : Addr) (after : Hp → Prop) (σ : St) (H : Hp) : Prop :=
 ∃ W : Nat → Nat → St → Hp → Prop, (∃ m, W 0 m σ H) ∧ ∀ i m σ' H', W i m σ' H' →
  (J.stop i H' ∧ after H') ∨ (J.go i H' ∧ ∃ N : St → Hp → Prop, (∀ σ' H', N σ' H' → ∃ m', m' < m ∧ W (i + 1) m' σ' H') ∧ ∀ x H2, J.yld i H' x H2 → CEgC X N' scope tg x σ' H2 fun σ2 H3 => CEiC X N' scope ifs σ2 H3 fun b H4 =>
   if b = true then CEvC X N' scope elt σ2 H4 fun v H5 => ∃ ys, H5 D = some (.lst ys) ∧ ys.length < sizeLine ∧ N σ2 (upd H5 D (.lst (ys ++ [v]))) else N σ2 H4)
section
variable {X : Cx} {elt tg iter c : Expr} {ifs : List Expr} {scope : Scope} {pos p : Pos} {wi : TI} {σ : St} {H : Hp} {Q : VK} {T : Bool → Hp → Prop} {rest : List Stmt} {D : Ends}
theorem k4l (sc : Scope) (N N' : List Str) (n : Nat) (hi : PI X tg iter wi)
  (h : wi σ H fun J H1 => ∀ D, H1 D = none → k6n X N' scope tg ifs elt J D (fun H' => Q (.ref D) H') (σ ++ List.replicate n none) (upd H1 D (.lst [])))
  (hc : X.calm = true := by rfl) (hsc : X.env.scope = sc := by rfl) (hN : X.N = N := by rfl) (hk : j6t sc scope N N' = true := by decide +kernel) (hl : N'.length = N.length + n := by rfl)
  (hs : ∀ x, foldedSetIterable iter X.env x = pure x := by intro _; rfl) : Ev X (.ListComp elt [⟨tg, iter, ifs, 0⟩] scope pos) σ H Q :=
 j12 (k5c (g := fun v σ H Q => CEgC X N' scope tg v σ H Q) (tc := fun σ H Q => CEiC X N' scope ifs σ H Q) (te := fun σ H Q => CEvC X N' scope elt σ H Q) sc N N' n hi
  (fun cl C s₀ H₀ ex pins s σ H v u Q I r h => (h cl C s₀ H₀ ex).run pins s u I r) (fun cl C s₀ H₀ ex pins s σ H Q I h => (h cl C s₀ H₀ ex).run pins s I) (fun cl C s₀ H₀ ex pins s σ H Q I h => (h cl C s₀ H₀ ex).run pins s I) hc hsc hN hk hl hs) h
end
section
variable {X : Cx} {elt tg : Expr} {ifs : List Expr} {scope : Scope} {σ : St} {H : Hp} {N' : List Str} {A a d : Addr} {xs : List V} {kvs : List (Key × V)} {after : Hp → Prop}
theorem j9a (Pv : Nat → St → Hp → Prop) (h0 : Pv 0 σ H) (hl : ∀ i σ' H', i ≤ xs.length → Pv i σ' H' → SqL X.K H' a xs)
  (hs : ∀ i x σ' H', xs[i]? = some x → Pv i σ' H' → CEgC X N' scope tg x σ' H' fun σ2 H3 => CEiC X N' scope ifs σ2 H3 fun b H4 =>
   if b = true then CEvC X N' scope elt σ2 H4 fun v H5 => ∃ ys, H5 A = some (.lst ys) ∧ ys.length < sizeLine ∧ Pv (i + 1) σ2 (upd H5 A (.lst (ys ++ [v]))) else Pv (i + 1) σ2 H4)
  (hd : ∀ σ' H', Pv xs.length σ' H' → after H') : k6n X N' scope tg ifs elt (Itl X.K a) A after σ H := by
 refine ⟨fun i m σ' H' => m = xs.length - i ∧ i ≤ xs.length ∧ Pv i σ' H', ⟨_, rfl, Nat.zero_le _, h0⟩, ?_⟩
 rintro i m σ' H' ⟨rfl, hi, p⟩
 have q := hl i σ' H' hi p
 by_cases hlt : i < xs.length
 ·refine .inr ⟨⟨xs, xs[i], q, by simp [hlt]⟩, Pv (i + 1), fun σ' H' p' => ⟨xs.length - (i + 1), by omega, rfl, hlt, p'⟩, fun x H2 y => ?_⟩
  obtain ⟨e, y⟩ := y
  subst e
  exact hs i x σ' _ (y xs q) p
 ·have e : i = xs.length := by omega
  subst e
  exact .inl ⟨⟨xs, q, Nat.le_refl _⟩, hd σ' H' p⟩
end
end L2
namespace L2
open PySem PySem.Spec PyProof.Rows
section
variable {X : Cx} {σ : St} {H : Hp} {D : Ends} {body rest : List Stmt} {a b : Expr}
theorem k8e (i j : Nat) {x y : Str} {px py pt pos : Pos} {kt k2 : Nat} {pt2 : Pos} (hN : X.N.Nodup) (hij : i ≠ j) (h : Ea X [a, b] σ H fun vs H1 => ∃ v w, vs = [v, w] ∧ Run X rest D ((σ.set i (some v)).set j (some w)) H1)
  (hi : X.N[i]? = some x := by rfl) (hj : X.N[j]? = some y := by rfl) (hx : X.env.scope.names.lookup x = some .local := by rfl) (hy : X.env.scope.names.lookup y = some .local := by rfl) (hc : X.calm = true := by rfl)
  (hw : swappedStores [.Tuple [.Name x px, .Name y py] kt pt] (.Tuple [a, b] k2 pt2) X.env = pure (some [x, y]) := by rfl)
  (hs : swapsWithSole [.Tuple [.Name x px, .Name y py] kt pt] (.Tuple [a, b] k2 pt2) pos.line X.env = pure false := by rfl) :
  Run X (.Assign [.Tuple [.Name x px, .Name y py] kt pt] (.Tuple [a, b] k2 pt2) pos :: rest) D σ H :=
 j15 (q1s hc hN hi hj hij hx hy j28 hw hs) h
theorem k60 {d : Addr} {kvs : List (Key × V)} {l : List Stmt} (hd : H d = some (.dK kvs)) (h : ∀ o, Run X l D σ (upd H d (.frz o (.dK kvs)))) : Run X l D σ H := by
 refine ⟨fun pins s I => ?_⟩
 obtain ⟨o, ho, I'⟩ := j57 I hd
 exact (h o).run pins s I'
theorem k2m {tg : Expr} {l : Addr} {xs : List V} {after : St → Hp → Prop} (Pv : Nat → St → Hp → Prop) (h0 : Pv 0 σ H) (hl : ∀ i σ H, i ≤ xs.length → Pv i σ H → SqL X.K H l xs)
  (hs : ∀ (i : Nat) x T σ H, xs[i]? = some x → Pv i σ H → H T = none → Eg X tg (.ref T) σ (upd H T (.tup [.int (i : Int), x])) fun σ2 H2 => Run X body { D with nx := Pv (i + 1), ct := Pv (i + 1), bk := after } σ2 H2)
  (hd : ∀ σ H, Pv xs.length σ H → after σ H) : Loop X tg body (Ite X.K l) D after σ H := by
 refine ⟨fun i m σ H => m = xs.length - i ∧ i ≤ xs.length ∧ Pv i σ H, ⟨xs.length, by simp, Nat.zero_le _, h0⟩, ?_⟩
 rintro i m σ H ⟨rfl, hi, p⟩
 have q := hl i σ H hi p
 by_cases hlt : i < xs.length
 ·refine .inr ⟨⟨xs, xs[i], q, by simp [hlt]⟩, Pv (i + 1), fun σ' H' p' => ⟨xs.length - (i + 1), by omega, rfl, hlt, p'⟩, fun v H' y => ?_⟩
  obtain ⟨T, x, hT, rfl, rfl, hx⟩ := y
  exact hs i x T σ _ (hx xs q) p hT
 ·have e : i = xs.length := by omega
  subst e
  exact .inl ⟨⟨xs, q, Nat.le_refl _⟩, hd σ H p⟩
end
end L2
namespace D4
open PySem L2 Nt Sort2
open PyProof.Rows (sortedS)
structure SeatsF (H : Hp) (d : Addr) (o : Obj) (n : Net) (ks : List Str) : Prop where
 dict : ∃ kvs, H d = some (.frz o (.dK kvs)) ∧ kvs.map (·.1) = ks.map Sum.inr ∧ ∀ z ∈ ties n, ∃ a ts, valV kvs (Sum.inr z) = some (.ref a) ∧ H a = some (.lst (ts.map V.ref)) ∧ Pd H ts (pos n z)
 nodup : ks.Nodup
 mem : ∀ z, z ∈ ks ↔ z ∈ ties n
theorem SeatsF.same {H H' : Hp} {d : Addr} {o : Obj} {n : Net} {ks : List Str} (S : SeatsF H d o n ks) (s : Same H H') : SeatsF H' d o n ks := by
 obtain ⟨kvs, h1, h2, h3⟩ := S.dict
 refine ⟨⟨kvs, s _ _ h1, h2, fun z hz => ?_⟩, S.nodup, S.mem⟩
 obtain ⟨a, ts, q1, q2, q3⟩ := h3 z hz
 exact ⟨a, ts, q1, s _ _ q2, q3.keep fun t e h => s _ _ h⟩
theorem k75 {n : Net} (T : j02 n) {z : Str} (h : z ∈ ties n) : ∃ x, j0s n x = some z ∧ j0s n (other n x) = some z ∧ pos n z = [x, other n x] := by
 rw [j94] at h
 obtain ⟨e, he⟩ := List.exists_mem_of_ne_nil _ h
 obtain ⟨a, b, hp, hab, _⟩ := j4f T (mem_pos.mp he)
 have ha : j0s n a = some z := mem_pos.mp (by rw [hp]; exact List.mem_cons_self ..)
 have hb : j0s n b = some z := mem_pos.mp (by rw [hp]; simp)
 have e : b = other n a := by
  rcases (j2t T ha).mp hb with q | q
  ·exact absurd q.symm hab
  ·exact q
 subst e
 exact ⟨a, ha, hb, hp⟩
def j8j : Sp := fun vs H Q _ => ∃ (R d p : Addr) (as : List (Addr × Addr)) (n : Net) (ss ks : List Str) (ob : Obj), vs = [.ref R, .ref d, .ref p] ∧ RowsAt H R as n ∧ SeatsF H d ob n ks ∧ j02 n ∧ Hang n ∧ (n.map (·.1)).Nodup ∧ 0 < n.length ∧ n.length ≤ 60 ∧ H p = some (Ls ss) ∧ (∀ z ∈ ss, z ∈ ties n) ∧
 (∀ (L : Addr) (H' : Hp), Same H H' → (∃ sd, IsSide n ss sd) → Q (.ref L) H') ∧ (∀ H', Same H H' → (∀ sd, ¬ IsSide n ss sd) → Q .non H')
section
variable {P : Program} {w : World} {K : PySem.W.Frag} {mg : Str → Option Value} {base : Heap}
abbrev NLs : List Str := ["_law_rows", "_law_seats_here", "_law_some", "_law_side_here", "_law_more", "_law_tie", "_law_one", "_law_other_here"]
abbrev NLs' : List Str := ["_law_rows", "_law_seats_here", "_law_some", "_law_side_here", "_law_more", "_law_tie", "_law_one", "_law_other_here", "_law_r"]
theorem scLs : FnScope NLs ["_law_rows", "_law_seats_here", "_law_some"] (j0h j4y) := ⟨rfl, rfl, rfl, by decide +kernel, rfl, by decide +kernel, by decide +kernel⟩
theorem q2v : NLs'.Nodup := by decide +kernel
theorem k6o {kvS : List (Key × V)} {ks : List Str} (ek : kvS.map (·.1) = ks.map Sum.inr) {i : Nat} {pr : Key × V} (h : kvS[i]? = some pr) : ∃ z, ks[i]? = some z ∧ pr.1 = Sum.inr z := by
 have e2 : (kvS.map (·.1))[i]? = some pr.1 := by rw [List.getElem?_map, h]; rfl
 rw [ek, List.getElem?_map, Option.map_eq_some_iff] at e2
 obtain ⟨z, hz, e⟩ := e2
 exact ⟨z, hz, e.symm⟩
theorem k86 (b c : Bool) : ((if b then (1 : Int) else 0) + (if c then 1 else 0)) % 2 = if (b != c) then 1 else 0 := by cases b <;> cases c <;> decide
theorem k4x {f : Addr} {fd : FuncData} (F : Fun K "_law_side" "_law_side" j4y f fd) (T : Txt mg) : FnOk P w K mg base CX0 1 f fd ["_law_rows", "_law_seats_here", "_law_some"] j8j := by
 refine F.gb scLs (fun vs H Q E h => ?_) (fun b0 H vs Q E hr h => ?_)
 ·obtain ⟨R, d, p, as, n, ss, ks, ob, rfl, _⟩ := h
  rfl
 obtain ⟨R, d, p, as, n, ss, ks, ob, rfl, hR, hS, hT, hHg, hnn, h0, hn, hp, hss, q1, q2⟩ := h
 have nd := scLs.nd
 have hu1 := hr.u1
 have hal := hR.len
 obtain ⟨kvS, ed, ek, ev⟩ := hS.dict
 have seat : ∀ {H' : Hp} {z : Str}, Same H H' → z ∈ ties n → ∃ x a tx ty, j0s n x = some z ∧ j0s n (other n x) = some z ∧ DGet H' d (.str z) (some (.ref a)) ∧ H' a = some (.lst [.ref tx, .ref ty]) ∧ H' tx = some (Tp x) ∧ H' ty = some (Tp (other n x)) := fun {H' z} sm hz => by
  obtain ⟨x, hx1, hx2, hp⟩ := k75 hT hz
  obtain ⟨a, ts, v1, v2, v3⟩ := ev z hz
  rw [hp] at v3
  cases v3 with
  | cons x1 v3 =>
  cases v3 with
  | cons y1 v3 =>
  cases v3
  rename_i tx ty
  exact ⟨x, a, tx, ty, hx1, hx2, by rw [← v1]; exact .inl ⟨kvS, Sum.inr z, .inr ⟨ob, sm _ _ ed⟩, rfl, rfl⟩, sm _ _ v2, sm _ _ x1, sm _ _ y1⟩
 show Run _ _ _ [some (.ref R), some (.ref d), some (.ref p), none, none, none, none, none] H
 refine j0i 3 nd (j9o hu1 fun d2 hd2 => j0f (j0f ⟨_, DPut.k (k := Sum.inl 0) j0b (j0u (Nat.zero_le _)), ?_⟩))
 rw [j4l]
 refine j0i 4 nd (k0m ?_)
 have s0 : Same H (upd H d2 (.dK (putK [] (Sum.inl 0) (.int 0)))) := j0e hd2 _
 have e0 : (upd H d2 (.dK (putK [] (Sum.inl 0) (.int 0)))) d2 = some (.dK (putK [] (Sum.inl 0) (.int 0))) := j0b
 show Run _ _ _ [some (.ref R), some (.ref d), some (.ref p), some (.ref d2), some (.bl true), none, none, none] (upd H d2 (.dK (putK [] (Sum.inl 0) (.int 0))))
 generalize upd H d2 (.dK (putK [] (Sum.inl 0) (.int 0))) = H0 at s0 e0
 refine j3d (fun m σ H' => ∃ (kvs : List (Key × V)) (mo : Bool) (u5 u6 u7 : Option V), Same H H' ∧ H' d2 = some (.dK kvs) ∧ FxI n ss kvs ∧ (mo = false → ∀ z ∈ ties n, Shut n kvs z) ∧ m = 2 * (n.length - kvs.length) + (if mo then 1 else 0) ∧
   σ = [some (.ref R), some (.ref d), some (.ref p), some (.ref d2), some (.bl mo), u5, u6, u7]) (m0 := 2 * (n.length - 1) + 1)
  ⟨_, true, _, _, _, s0, e0, FxI.start h0, fun z => (nomatch z), rfl, rfl⟩ ?_
 rintro m σ H2 ⟨kvs, mo, u5, u6, u7, s2, e2, I, sh, em, rfl⟩
 refine k2g (ev_v 4 ⟨mo, rfl, ?_⟩)
 cases mo with
 | true =>
  rw [if_pos rfl]
  refine j0i 4 nd (k0m ?_)
  show Run _ _ _ [some (.ref R), some (.ref d), some (.ref p), some (.ref d2), some (.bl false), u5, u6, u7] H2
  have hml : kvs.length ≤ n.length := I.len
  refine j3u (k0c j00) (ev_v 1 ⟨d, ob, kvS, rfl, s2 _ _ ed, j7i (fun i σ H' => ∃ (kv2 : List (Key × V)) (mo : Bool) (u5 u6 u7 : Option V), Same H H' ∧ H' d2 = some (.dK kv2) ∧ FxI n ss kv2 ∧ kvs.length ≤ kv2.length ∧ (mo = true → kvs.length < kv2.length) ∧ (mo = false → kv2 = kvs ∧ ∀ j, j < i → ∀ z, ks[j]? = some z → Shut n kvs z) ∧
    σ = [some (.ref R), some (.ref d), some (.ref p), some (.ref d2), some (.bl mo), u5, u6, u7]) ⟨kvs, false, _, _, _, s2, e2, I, Nat.le_refl _, fun z => (nomatch z), fun _ => ⟨rfl, fun j hj => absurd hj (Nat.not_lt_zero _)⟩, rfl⟩ ?_ ?_ ?_⟩)
  ·rintro i σ H' _ ⟨kv2, mo, v5, v6, v7, s3, _⟩
   exact s3 _ _ ed
  ·rintro i pr σ H3 hpr ⟨kv2, mo, v5, v6, v7, s3, e3, I3, hl, hm1, hm0, rfl⟩
   obtain ⟨z, hz, epr⟩ := k6o ek hpr
   rw [epr]
   have hzt : z ∈ ties n := (hS.mem z).mp (List.mem_of_getElem? hz)
   obtain ⟨x, a, tx, ty, hx1, hx2, dg, ea, etx, ety⟩ := seat s3 hzt
   refine j0j 5 nd ?_
   refine j0i 6 nd (j0r j0z (j0r j0x (j07 hu1 (ev_v 1 (ev_v 5 ⟨d, .ref a, rfl, dg, j0f ⟨a, _, _, .ref tx, rfl, rfl, SqL.of ea, rfl, j0f ⟨tx, _, _, .int (x.1 : Int), rfl, rfl, SqT.of etx, rfl, ?_⟩⟩⟩)))))
   refine j0i 7 nd (j0r j0z (j0r j0x (j07 hu1 (ev_v 1 (ev_v 5 ⟨d, .ref a, rfl, dg, j0f ⟨a, _, _, .ref ty, rfl, rfl, SqL.of ea, rfl, j0f ⟨ty, _, _, .int ((other n x).1 : Int), rfl, rfl, SqT.of ety, rfl, ?_⟩⟩⟩)))))
   show Run _ _ _ [some (.ref R), some (.ref d), some (.ref p), some (.ref d2), some (.bl mo), some (.str z), some (.int (x.1 : Int)), some (.int ((other n x).1 : Int))] H3
   refine j8v (valV kv2 (Sum.inl (x.1 : Int)) = none ∧ valV kv2 (Sum.inl ((other n x).1 : Int)) ≠ none) (valV kv2 (Sum.inl (x.1 : Int)) = none → valV kv2 (Sum.inl ((other n x).1 : Int)) = none)
    (fun σ' H' => H' = H3 ∧ ∃ e, j0s n e = some z ∧ j0s n (other n e) = some z ∧ other n (other n e) = e ∧ (valV kv2 (Sum.inl (e.1 : Int)) = none → valV kv2 (Sum.inl ((other n e).1 : Int)) = none) ∧ σ' = [some (.ref R), some (.ref d), some (.ref p), some (.ref d2), some (.bl mo), some (.str z), some (.int (e.1 : Int)), some (.int ((other n e).1 : Int))]) (fun T' qq => ?_) (fun c => ?_) (fun c => j0l ⟨rfl, x, hx1, hx2, (j1t hT hx1).2.1, c, rfl⟩) ?_
   ·refine j47 (j93 (j5d hu1 (ev_v 6 (ev_v 3 ⟨d2, _, rfl, DGet.k (k := Sum.inl (x.1 : Int)) e3, ?_⟩))))
    cases hg : valV kv2 (Sum.inl (x.1 : Int)) with
    | none =>
     refine iteT ?_
     refine j6f (j9k hu1 (ev_v 7 (ev_v 3 ⟨d2, _, rfl, DGet.k (k := Sum.inl ((other n x).1 : Int)) e3, ?_⟩)))
     cases hg2 : valV kv2 (Sum.inl ((other n x).1 : Int)) with
     | none => exact qq false (fun z => nomatch z) fun _ _ => hg2
     | some v => exact qq true (fun _ => ⟨hg, by rw [hg2]; exact fun z => nomatch z⟩) fun z => nomatch z
    | some v =>
     refine iteF ?_
     exact qq false (fun z => nomatch z) fun _ k => by rw [hg] at k; cases k
   ·refine k8e 6 7 nd (by decide) (j0a (ev_v 7 (j0a (ev_v 6 (j0g ⟨_, _, rfl, ?_⟩)))))
    have oo := (j1t hT hx1).2.1
    exact j0l ⟨rfl, other n x, hx2, by rw [oo]; exact hx1, by rw [oo], fun k => absurd k c.2, by rw [oo]; rfl⟩
   rintro σ' H' ⟨rfl, e, he1, he2, oo, hne, rfl⟩
   refine j5u (valV kv2 (Sum.inl (e.1 : Int)) ≠ none ∧ valV kv2 (Sum.inl ((other n e).1 : Int)) = none) (¬ (valV kv2 (Sum.inl (e.1 : Int)) ≠ none ∧ valV kv2 (Sum.inl ((other n e).1 : Int)) = none)) (fun T' qq => ?_) (fun c => ?_) (fun c => ?_)
   ·refine j47 (j93 (j9k hu1 (ev_v 6 (ev_v 3 ⟨d2, _, rfl, DGet.k (k := Sum.inl (e.1 : Int)) e3, ?_⟩))))
    cases hg : valV kv2 (Sum.inl (e.1 : Int)) with
    | some v =>
     refine iteT ?_
     refine j6f (j5d hu1 (ev_v 7 (ev_v 3 ⟨d2, _, rfl, DGet.k (k := Sum.inl ((other n e).1 : Int)) e3, ?_⟩)))
     cases hg2 : valV kv2 (Sum.inl ((other n e).1 : Int)) with
     | none => exact qq true (fun _ => ⟨by rw [hg]; exact fun z => (nomatch z), hg2⟩) fun z => nomatch z
     | some v => exact qq false (fun z => nomatch z) fun _ k => by rw [hg2] at k; cases k.2
    | none =>
     refine iteF ?_
     exact qq false (fun z => nomatch z) fun _ k => k.1 hg
   ·obtain ⟨c1, c2⟩ := c
    obtain ⟨v, hv⟩ := Option.ne_none_iff_exists'.mp c1
    obtain ⟨b, rfl, wy⟩ := I3.val e.1 v hv
    obtain ⟨I4, hl4⟩ := I3.add hT he1 hv c2
    have lk := I3.len
    refine j3n hu1 (j0o j1b (j0o j11 (j07 hu1 (ev_v 3 (ev_v 6 ⟨d2, vB b, rfl, by rw [← hv]; exact DGet.k (k := Sum.inl (e.1 : Int)) e3, ?_⟩)))))
    refine j5c j5n T.tint PyProof.Rows.boot_int (j0a (j21 j2p (ev_v 5 (ev_v 2 ⟨p, _, rfl, .inl (SqL.of (s3 _ _ hp)), rfl, j1w _, ?_⟩))))
    refine j0g ⟨_, rfl, _, _, rfl, rfl, j0f ⟨_, _, rfl, rfl, (by show (0 : Int) < 2; decide), ?_⟩⟩
    rw [j2g, j16]
    have e9 : vB (b != decide (z ∈ ss)) = .int (((if b then (1 : Int) else 0) + (if decide (z ∈ ss) then 1 else 0)) % 2) := congrArg V.int (k86 b (decide (z ∈ ss))).symm
    rw [e9] at I4 hl4
    refine ev_v 3 (ev_v 7 ⟨d2, _, rfl, DPut.k (k := Sum.inl ((other n e).1 : Int)) e3 (j0u (by omega)), ?_⟩)
    refine j0i 4 nd (k0m ?_)
    refine j0l (j0l ⟨_, true, _, _, _, j01 s3 hd2, j0b, I4, Nat.le_trans (Nat.le_succ_of_le hl) (Nat.le_of_eq hl4.symm), fun _ => Nat.lt_of_lt_of_le (Nat.lt_succ_of_le hl) (Nat.le_of_eq hl4.symm), fun z => (nomatch z), rfl⟩)
   ·refine j0l (j0l ⟨kv2, mo, _, _, _, s3, e3, I3, hl, hm1, fun q => ?_, rfl⟩)
    obtain ⟨r1, r2⟩ := hm0 q
    refine ⟨r1, fun j hj y hy => ?_⟩
    by_cases k : j < i
    ·exact r2 j k y hy
    ·have : j = i := by omega
     subst this
     rw [hz] at hy
     cases hy
     subst r1
     intro x' hx' hx2'
     rcases (j2t hT he1).mp hx' with q' | q'
     ·subst q'
      intro k'
      exact c ⟨hx2', k'⟩
     ·subst q'
      rw [oo]
      intro k'
      exact hx2' (hne k')
  ·rintro σ H3 ⟨kv2, mo, v5, v6, v7, s3, e3, I3, hl, hm1, hm0, rfl⟩
   have hl3 := I3.len
   refine j0l ⟨_, ?_, kv2, mo, v5, v6, v7, s3, e3, I3, fun q => ?_, rfl, rfl⟩
   ·cases mo with
    | true =>
     have := hm1 rfl
     simp only [if_true] at em ⊢
     omega
    | false =>
     simp only [if_true, Bool.false_eq_true, if_false] at em ⊢
     omega
   ·obtain ⟨r1, r2⟩ := hm0 q
    subst r1
    intro z hz
    obtain ⟨j, hj⟩ := List.getElem?_of_mem ((hS.mem z).mpr hz)
    have lk : kvS.length = ks.length := by have := congrArg List.length ek; rw [List.length_map, List.length_map] at this; exact this
    exact r2 j (by rw [lk]; exact (List.getElem?_eq_some_iff.mp hj).1) z hj
 | false =>
  rw [if_neg (by decide)]
  have all := I.all hT hHg h0 hnn (sh rfl)
  refine j3u (k0c j00) (ev_v 1 ⟨d, ob, kvS, rfl, s2 _ _ ed, j7i (fun i σ H' => ∃ (u5 u6 u7 : Option V), H' = H2 ∧ (∀ j, j < i → ∀ z, ks[j]? = some z → ∃ e b c, j0s n e = some z ∧ valV kvs (Sum.inl (e.1 : Int)) = some (vB b) ∧ valV kvs (Sum.inl ((other n e).1 : Int)) = some (vB c) ∧ (b != c) = decide (z ∈ ss)) ∧
    σ = [some (.ref R), some (.ref d), some (.ref p), some (.ref d2), some (.bl false), u5, u6, u7]) ⟨_, _, _, rfl, fun j hj => absurd hj (Nat.not_lt_zero _), rfl⟩ ?_ ?_ ?_⟩)
  ·rintro i σ H' _ ⟨v5, v6, v7, rfl, _⟩
   exact s2 _ _ ed
  ·rintro i pr σ H3 hpr ⟨v5, v6, v7, rfl, hj, rfl⟩
   obtain ⟨z, hz, epr⟩ := k6o ek hpr
   rw [epr]
   have hzt : z ∈ ties n := (hS.mem z).mp (List.mem_of_getElem? hz)
   obtain ⟨x, a, tx, ty, hx1, hx2, dg, ea, etx, ety⟩ := seat s2 hzt
   obtain ⟨b, hb⟩ := all x.1 (j1h hx1)
   obtain ⟨c, hc⟩ := all (other n x).1 (j1h hx2)
   refine j0j 5 nd ?_
   refine j0i 6 nd (j07 hu1 (ev_v 3 (j0r j0z (j0r j0x (j07 hu1 (ev_v 1 (ev_v 5 ⟨d, .ref a, rfl, dg, j0f ⟨a, _, _, .ref tx, rfl, rfl, SqL.of ea, rfl, j0f ⟨tx, _, _, .int (x.1 : Int), rfl, rfl, SqT.of etx, rfl, d2, vB b, rfl, by rw [← hb]; exact DGet.k (k := Sum.inl (x.1 : Int)) e2, ?_⟩⟩⟩)))))))
   refine j0i 7 nd (j07 hu1 (ev_v 3 (j0r j0z (j0r j0x (j07 hu1 (ev_v 1 (ev_v 5 ⟨d, .ref a, rfl, dg, j0f ⟨a, _, _, .ref ty, rfl, rfl, SqL.of ea, rfl, j0f ⟨ty, _, _, .int ((other n x).1 : Int), rfl, rfl, SqT.of ety, rfl, d2, vB c, rfl, by rw [← hc]; exact DGet.k (k := Sum.inl ((other n x).1 : Int)) e2, ?_⟩⟩⟩)))))))
   show Run _ _ _ [some (.ref R), some (.ref d), some (.ref p), some (.ref d2), some (.bl false), some (.str z), some (vB b), some (vB c)] H3
   refine j5u ((b != c) ≠ decide (z ∈ ss)) ((b != c) = decide (z ∈ ss)) (fun T' qq => ?_) (fun k => ?_) (fun k => ?_)
   ·refine j1e k1u (j21 k1u (ev_v 6 (ev_v 7 ⟨rfl, ?_⟩)))
    refine j21 j2p (ev_v 5 (ev_v 2 ⟨p, _, rfl, .inl (SqL.of (s2 _ _ hp)), rfl, j1w _, rfl, _, rfl, ?_⟩))
    rw [j2g, j16]
    have e9 : (!decide (V.bl (!decide (vB b = vB c)) = V.bl (decide (z ∈ ss)))) = ((b != c) != decide (z ∈ ss)) := by
     rw [j8f]
     cases b <;> cases c <;> rfl
    show T' (!decide (V.bl (!decide (vB b = vB c)) = V.bl (decide (z ∈ ss)))) H3
    rw [e9]
    exact qq _ (fun k => bne_iff_ne.mp k) fun k => by generalize (b != c) = u at k ⊢; cases u <;> cases hd : decide (z ∈ ss) <;> rw [hd] at k <;> first | rfl | cases k
   ·refine j0p (j54 ?_)
    exact q2 _ s2 (I.bad hT hx1 hb hc k)
   ·refine j0l (j0l ⟨_, _, _, rfl, fun j hj' y hy => ?_, rfl⟩)
    by_cases kk : j < i
    ·exact hj j kk y hy
    ·have : j = i := by omega
     subst this
     rw [hz] at hy
     cases hy
     exact ⟨x, b, c, hx1, hb, hc, k⟩
  ·rintro σ H3 ⟨v5, v6, v7, rfl, hj, rfl⟩
   have whole : ∃ sd, IsSide n ss sd := I.whole hT hnn h0 all hss fun z hz => by
    obtain ⟨j, hj'⟩ := List.getElem?_of_mem ((hS.mem z).mpr hz)
    have lk : kvS.length = ks.length := by have := congrArg List.length ek; rw [List.length_map, List.length_map] at this; exact this
    exact hj j (by rw [lk]; exact (List.getElem?_eq_some_iff.mp hj').1) z hj'
   have hRn := (hR.same s2).len
   refine j0p (j2u (j0h j4y) NLs NLs' 1 (j39 rfl T.range j28) (j0a (j06 j0m T.len boot_len (j0a (ev_v 0 (j0g ⟨R, _, rfl, .inl (SqL.of (hR.same s2).lst), j0g ⟨_, rfl, ?_, ?_, fun D hD => ?_⟩⟩))))))
   ·rw [List.length_map]
    omega
   ·rw [List.length_map]
    omega
   rw [List.length_map, Int.toNat_natCast, hal]
   refine j3s (fun i σ' H' => (∃ v, σ' = [some (.ref R), some (.ref d), some (.ref p), some (.ref d2), some (.bl false), v5, v6, v7] ++ [v]) ∧ Same H H' ∧ H' d2 = some (.dK kvs) ∧ ∃ ys, H' D = some (.lst ys) ∧ ys.length ≤ i) ⟨⟨_, rfl⟩, s2.trans (j0e hD _), by rw [j0c (j0d e2 hD)]; exact e2, [], j0b, Nat.le_refl _⟩ ?_ ?_
   ·rintro i σ' H' hi ⟨⟨v, rfl⟩, s4, e4, ys, eD, hys⟩
    rw [Int.zero_add]
    obtain ⟨b, hb⟩ := all i hi
    intro cl C s₀ H₀ ex
    refine j0j 8 q2v ?_
    intro cl C s₀ H₀ ex
    refine j3b (j1e j4i (j07 hu1 (ev_v 3 (ev_v 8 ⟨d2, vB b, rfl, by rw [← hb]; exact DGet.k (k := Sum.inl (i : Int)) e4, j0f ⟨rfl, _, rfl, ?_⟩⟩))))
    have nD : d2 ≠ D := j1j e4 eD fun z => nomatch z
    refine ite2 (fun c => ?_) (fun c => ⟨⟨_, rfl⟩, s4, e4, ys, eD, by omega⟩)
    intro cl C s₀ H₀ ex
    refine ev_v 8 ⟨ys, eD, j0u (by omega), ⟨_, rfl⟩, j01 s4 (s2.free hD), by rw [j0c nD]; exact e4, _, j0b, by rw [List.length_append]; show ys.length + 1 ≤ i + 1; omega⟩
   ·rintro σ' H' ⟨_, s4, _⟩
    exact q1 D H' s4 whole
end
end D4
namespace D4
open PySem L2 Nt Sort2
open PyProof.Rows (sortedS)
def j8l : Sp := fun vs H Q _ => ∃ (R W : Addr) (as : List (Addr × Addr)) (n : Net) (ts : List Addr) (es : List Nt.End), vs = [.ref R, .ref W] ∧ RowsAt H R as n ∧ (n.map (·.1)).Nodup ∧ n.length ≤ 1000 ∧ H W = some (.lst (ts.map V.ref)) ∧ AtE n H ts es ∧ (∀ e ∈ es, e ∈ ends n) ∧ es.length ≤ 1000 ∧ (∀ l : List Str, l.Nodup → (∀ z ∈ l, z ∈ es.map (tnm n)) → l.length < 64) ∧
 ∀ (l : Addr) (ss : List Str) (H' : Hp), Same H H' → H l = none → H' l = some (Ls ss) → Srt ss → (∀ z, z ∈ ss ↔ (es.map (tnm n)).count z = 1) → Q (.ref l) H'
section
variable {P : Program} {w : World} {K : PySem.W.Frag} {mg : Str → Option Value} {base : Heap}
abbrev NCo : List Str := ["_law_rows", "_law_walker", "_law_ties"]
abbrev NCo1 : List Str := ["_law_rows", "_law_walker", "_law_ties", "_law_end"]
abbrev NCo2 : List Str := ["_law_rows", "_law_walker", "_law_ties", "_law_end", "_law_row"]
abbrev NCoT : List Str := ["_law_rows", "_law_walker", "_law_ties", "_law_tie"]
theorem scCo : FnScope NCo ["_law_rows", "_law_walker"] (j0h j2r) := ⟨rfl, rfl, rfl, by decide +kernel, rfl, by decide +kernel, by decide +kernel⟩
theorem q0l : NCo1.Nodup := by decide +kernel
theorem q1i : NCo2.Nodup := by decide +kernel
theorem q07 : NCoT.Nodup := by decide +kernel
def q12 : Scope := match j2c j2r with
 | .Assign _ (.ListComp _ _ sc _) _ :: _ => sc
 | _ => j0h j2r
def q2x : Scope := relabel q12 (PyProof.Rows.envOfC "_law_core" (j0h j2r) 0 0 .none)
theorem j58 (L : List Str) : (L.filter fun z => decide (L.count z = 1)).Nodup := by
 rw [List.nodup_iff_count]
 intro z
 by_cases h : L.count z = 1
 ·rw [List.count_filter (by simpa using h)]
  omega
 ·rw [List.count_eq_zero_of_not_mem]
  ·omega
  ·intro hm
   exact h (of_decide_eq_true (List.mem_filter.mp hm).2)
theorem k4j (L : List Str) (z : Str) : z ∈ (L.filter fun z => decide (L.count z = 1)) ↔ L.count z = 1 := by
 rw [List.mem_filter, decide_eq_true_iff]
 exact ⟨fun h => h.2, fun h => ⟨List.count_pos_iff.mp (by omega), h⟩⟩
theorem k40 {f : Addr} {fd : FuncData} (F : Fun K "_law_core" "_law_core" j2r f fd) (T : Txt mg) : FnOk P w K mg base CX0 1 f fd ["_law_rows", "_law_walker"] j8l := by
 refine F.gb scCo (fun vs H Q E h => ?_) (fun b0 H vs Q E hr h => ?_)
 ·obtain ⟨R, W, as, n, ts, es, rfl, _⟩ := h
  rfl
 obtain ⟨R, W, as, n, ts, es, rfl, hR, hN, hn, hW, hE, hes, hle, hdup, q⟩ := h
 have nd := scCo.nd
 have hal := hR.len
 have hl := hE.1
 show Run _ _ _ [some (.ref R), some (.ref W), none] H
 refine j0i 2 nd (k4l (j0h j2r) NCo NCo1 1 (j1s j00) (ev_v 1 ⟨W, rfl, ⟨_, SqL.of hW⟩, fun D hD => ?_⟩))
 refine j9a (xs := ts.map V.ref) (fun i σ' H' => (∃ v, σ' = [some (.ref R), some (.ref W), none] ++ [v]) ∧ Same H H' ∧ H' D = some (Ls ((es.take i).map (tnm n)))) ⟨⟨none, rfl⟩, j0e hD _, j0b⟩ ?_ ?_ ?_
 ·rintro i σ' H' _ ⟨_, sm, _⟩
  exact SqL.of (sm _ _ hW)
 ·rintro i x σ' H' hx ⟨⟨v, rfl⟩, sm, eD⟩
  rw [List.getElem?_map, Option.map_eq_some_iff] at hx
  obtain ⟨t, ht, rfl⟩ := hx
  have hi : i < es.length := by have := (List.getElem?_eq_some_iff.mp ht).1; omega
  have he : es[i]? = some es[i] := List.getElem?_eq_getElem hi
  have et1 : es.take (i + 1) = es.take i ++ [es[i]] := by rw [List.take_add_one, he]; rfl
  generalize hee : es[i] = e at he et1
  have hte := hE.2 i t e ht he
  have hen := hes e (List.mem_of_getElem? he)
  obtain ⟨z, hz⟩ := mem_ends.mp hen
  have htz : tnm n e = z := j76 hz
  intro cl C s₀ H₀ ex
  refine j0j 3 q0l ?_
  intro cl C s₀ H₀ ex
  refine j3q ?_
  rw [if_pos rfl]
  intro cl C s₀ H₀ ex
  refine j0r j0x (j2u q2x NCo1 NCo2 1 (j1s j00) (ev_v 0 ⟨R, rfl, ⟨_, SqL.of (sm _ _ hR.lst)⟩, fun D2 hD2 => ?_⟩))
  have nDD : D ≠ D2 := j0d eD hD2
  refine j2h (xs := as.map fun a => V.ref a.1) (fun j σ' H2 => (∃ v, σ' = [some (.ref R), some (.ref W), none, some (.ref t)] ++ [v]) ∧ Same H' H2 ∧ H2 D2 = some (Ls (if e.1 < j then [z] else []))) ⟨⟨none, rfl⟩, j0e hD2 _, j0b⟩ ?_ ?_ ?_
  ·rintro j σ' H2 _ ⟨_, sm2, _⟩
   exact SqL.of (sm2 _ _ (sm _ _ hR.lst))
  ·rintro j x σ' H2 hx ⟨⟨v, rfl⟩, sm2, eD2⟩
   have hj : j < n.length := by
    have := (List.getElem?_eq_some_iff.mp hx).1
    rw [List.length_map] at this
    omega
   obtain ⟨b, eb, eat, et, el, er⟩ := (hR.same (sm.trans sm2)).at hj
   rw [List.getElem?_map, eb] at hx
   cases hx
   have hte2 := (sm.trans sm2) _ _ hte
   intro cl C s₀ H₀ ex
   refine j0j 4 q1i ?_
   intro cl C s₀ H₀ ex
   refine j3b (j1e j4i (j0r j0z (ev_v 4 (j0f ⟨b.1, _, _, .str n[j].1, rfl, rfl, SqT.of et, rfl, j0r j0z (ev_v 3 (j0f ⟨t, _, _, .str (nameAt n e.1), rfl, rfl, SqT.of hte2, rfl, rfl, _, rfl, ?_⟩))⟩))))
   have hel := j1h hz
   have ek : decide (V.str n[j].1 = V.str (nameAt n e.1)) = decide (e.1 = j) := by
    refine decide_eq_decide.mpr ⟨fun k => ?_, fun k => ?_⟩
    ·have k := V.str.inj k
     exact (j6m hN hj hel (by rw [j2x hj]; exact k)).symm
    ·rw [← j18 hj, k]
   show if decide (V.str n[j].1 = V.str (nameAt n e.1)) = true then _ else _
   rw [ek]
   refine ite2 (fun c => ?_) (fun c => ?_)
   ·have c := of_decide_eq_true c
    subst c
    intro cl C s₀ H₀ ex
    have hat : (row n e.1)[e.2]? = some z := hz
    refine j0r j0x (j0r j0z (ev_v 4 (j0f ⟨b.1, _, _, .ref b.2, rfl, rfl, SqT.of et, rfl, j0r j0z (ev_v 3 (j0f ⟨t, _, _, .int (e.2 : Int), rfl, rfl, SqT.of hte2, rfl, b.2, _, _, .str z, rfl, rfl, SqL.of el, j5k hat, _, eD2, ?_, ⟨_, rfl⟩, j01 sm2 hD2, ?_⟩))⟩)))
    ·rw [if_neg (Nat.lt_irrefl _)]
     exact j0u (by decide)
    ·rw [j0b, if_neg (Nat.lt_irrefl _), if_pos (Nat.lt_succ_self _)]
     rfl
   ·have c := of_decide_eq_false (Bool.eq_false_iff.mpr c)
    refine ⟨⟨_, rfl⟩, sm2, ?_⟩
    rw [eD2]
    by_cases k : e.1 < j
    ·rw [if_pos k, if_pos (by omega)]
    ·rw [if_neg k, if_neg (by omega)]
  ·rintro σ' H2 ⟨_, sm2, eD2⟩
   rw [List.length_map, hal, if_pos (j1h hz)] at eD2
   refine j0f ⟨D2, _, _, .str z, rfl, rfl, SqL.of eD2, rfl, _, sm2 _ _ eD, ?_, ⟨_, rfl⟩, j01 (sm.trans sm2) hD, ?_⟩
   ·rw [List.length_map, List.length_map, List.length_take]
    exact j0u (by omega)
   ·rw [j0b, et1, List.map_append]
    show some (HO.lst (((es.take i).map (tnm n)).map V.str ++ [V.str z])) = some (HO.lst (((es.take i).map (tnm n) ++ [tnm n e]).map V.str))
    rw [List.map_append]
    show some (HO.lst (((es.take i).map (tnm n)).map V.str ++ [V.str z])) = some (HO.lst (((es.take i).map (tnm n)).map V.str ++ [V.str (tnm n e)]))
    rw [htz]
 rintro σ' H' ⟨_, sm, eD⟩
 have elen : es.take (ts.map V.ref).length = es := List.take_of_length_le (by rw [List.length_map]; omega)
 rw [elen] at eD
 show Run _ _ _ [some (.ref R), some (.ref W), some (.ref D)] H'
 generalize hLL : es.map (tnm n) = L at eD hdup q
 have hLl : L.length ≤ 1000 := by rw [← hLL, List.length_map]; exact hle
 refine j0p (j06 j1r T.sorted PyProof.Rows.boot_sorted (j0a (j2u (j0h j2r) NCo NCoT 1 (j1s j00) (ev_v 2 ⟨D, rfl, ⟨_, SqL.of eD⟩, fun D3 hD3 => ?_⟩))))
 have n3 : D ≠ D3 := j0d eD hD3
 refine j3j (fun z => decide (L.count z = 1)) (j0u (by omega)) eD hD3 (fun cl C s0 H0 ex v v0 H' R' h => j0j 3 q07 h) (fun cl C s0 H0 ex z zs T' h => j3b (j1e j4i (k7p PySem.F.plainAttrs_list PySem.F.slot_list_count PySem.F.type_list_count k4h (ev_v 2 (v := .ref D) ⟨Or.inl ⟨rfl, _, SqL.of (by rw [j0c n3]; exact eD)⟩, ev_v 3 ⟨D, L, z, rfl, rfl, SqL.of (by rw [j0c n3]; exact eD), j0f ⟨rfl, _, rfl, ?_⟩⟩⟩)))) (fun cl C s0 H0 ex z H' R' h => ev_v 3 h) ?_
 ·have ek : decide (V.int (L.count z : Int) = V.int 1) = decide (L.count z = 1) := decide_eq_decide.mpr ⟨fun k => by have := V.int.inj k; omega, fun k => by rw [k]; rfl⟩
  show T' (decide (V.int (L.count z : Int) = V.int 1)) _
  rw [ek]
  exact h
 refine j0g ⟨D3, _, rfl, SqL.of j0b, hdup _ (j58 L) (fun z hz => (List.mem_filter.mp hz).1), fun l ss hl2 hpm hso => ?_⟩
 have s3 := sm.trans (j0e hD3 (Ls (L.filter fun z => decide (L.count z = 1))))
 exact q l ss _ (s3.trans (j0e hl2 _)) (s3.free hl2) j0b (j7d hso (hpm.nodup_iff.mpr (j58 L))) fun z => by rw [hpm.mem_iff]; exact k4j L z
end
end D4
namespace Nt
open PySem L2
open PyProof.Rows (sortedS)
theorem k0q (a b c : List Str) (h : ∀ z, z ∈ c ↔ (if z ∈ a then z ∉ b else z ∈ b)) : ∀ zs : List Str, (zs.filter fun z => c.contains z).length % 2 = ((zs.filter fun z => a.contains z).length + (zs.filter fun z => b.contains z).length) % 2
 | [] => rfl
 | z :: r => by
  have ih := k0q a b c h r
  have hz := h z
  have ca := fun (l : List Str) => (List.contains_iff_mem (as := l) (a := z))
  simp only [List.filter_cons]
  by_cases ha : z ∈ a <;> by_cases hb : z ∈ b
  ·have hc : z ∉ c := fun q => by have := hz.mp q; rw [if_pos ha] at this; exact this hb
   rw [if_pos ((ca a).mpr ha), if_pos ((ca b).mpr hb), if_neg (fun q => hc ((ca c).mp q)), List.length_cons, List.length_cons]
   omega
  ·have hc : z ∈ c := hz.mpr (by rw [if_pos ha]; exact hb)
   rw [if_pos ((ca a).mpr ha), if_neg (fun q => hb ((ca b).mp q)), if_pos ((ca c).mpr hc), List.length_cons, List.length_cons]
   omega
  ·have hc : z ∈ c := hz.mpr (by rw [if_neg ha]; exact hb)
   rw [if_neg (fun q => ha ((ca a).mp q)), if_pos ((ca b).mpr hb), if_pos ((ca c).mpr hc), List.length_cons, List.length_cons]
   omega
  ·have hc : z ∉ c := fun q => by have := hz.mp q; rw [if_neg ha] at this; exact hb this
   rw [if_neg (fun q => ha ((ca a).mp q)), if_neg (fun q => hb ((ca b).mp q)), if_neg (fun q => hc ((ca c).mp q))]
   exact ih
theorem j8d {a : List Str} (hn : a.Nodup) : ∀ l : List Str, (l.filter fun z => a.contains z).length = (a.map fun z => l.count z).sum
 | [] => by
  have : ∀ a : List Str, (a.map fun z => ([] : List Str).count z).sum = 0 := fun a => by
   induction a with
   | nil => rfl
   | cons x r ih => rw [List.map_cons, List.sum_cons, ih]; rfl
  rw [this]
  rfl
 | y :: l => by
  have ih := j8d hn l
  have key : ∀ a : List Str, (a.map fun z => (y :: l).count z).sum = (a.map fun z => l.count z).sum + a.count y := fun a => by
   induction a with
   | nil => rfl
   | cons x r ih =>
    rw [List.map_cons, List.sum_cons, ih, List.map_cons, List.sum_cons, List.count_cons, List.count_cons]
    by_cases h : y = x
    ·rw [if_pos (by simp [h]), if_pos (by simp [h])]
     omega
    ·rw [if_neg (by simpa using h), if_neg (by simpa using fun q => h (Eq.symm q))]
     omega
  rw [key, List.filter_cons, ← ih, hn.count]
  by_cases h : y ∈ a
  ·rw [if_pos (List.contains_iff_mem.mpr h), if_pos h, List.length_cons]
  ·rw [if_neg (fun q => h (List.contains_iff_mem.mp q)), if_neg h]
   rfl
theorem j9z {n : Net} (T : j02 n) {ss : List Str} (hn : ss.Nodup) (hm : ∀ z ∈ ss, z ∈ ties n) : 2 * ss.length ≤ (ties n).length := by
 have h := j8d hn (ties n)
 have e : ∀ l : List Str, (∀ z ∈ l, z ∈ ties n) → (l.map fun z => (ties n).count z).sum = 2 * l.length := fun l => by
  induction l with
  | nil => intro _; rfl
  | cons x r ih =>
   intro hl
   rw [List.map_cons, List.sum_cons, ih fun z hz => hl z (List.mem_cons_of_mem _ hz), T x (hl x (List.mem_cons_self ..)), List.length_cons]
   omega
 rw [e ss hm] at h
 rw [← h]
 exact List.length_filter_le _ _
end Nt
namespace Nt
open PySem L2
theorem k5m {n : Net} (T : j02 n) {e : End} (h : e ∈ ends n) : ∃ k, Per n e k ∧ k ≤ (ends n).length := by
 obtain ⟨k, k0, k1, k2⟩ := j4d (f := two n) (S := ends n) (fun a ha => j6y T ha) (fun a ha b hb => k2z T ha hb) h
 have aux : ∀ m, ∀ k, k ≤ m → 0 < k → it (two n) k e = e → ∃ j, j ≤ k ∧ Per n e j := by
  intro m
  induction m with
  | zero => intro k h1 h2; omega
  | succ m ih =>
   intro k h1 h2 h3
   by_cases c : ∃ i, 0 < i ∧ i < k ∧ it (two n) i e = e
   ·obtain ⟨i, i1, i2, i3⟩ := c
    obtain ⟨j, j1, j2⟩ := ih i (by omega) i1 i3
    exact ⟨j, by omega, j2⟩
   ·exact ⟨k, Nat.le_refl _, h2, h3, fun i i1 i2 i3 => c ⟨i, i1, i2, i3⟩⟩
 obtain ⟨j, j1, j2⟩ := aux k k (Nat.le_refl _) k0 k2
 exact ⟨j, j2, by omega⟩
theorem k2b {n : Net} (T : j02 n) {e : End} (h : e ∈ ends n) : IsWk n (walker n e) := by
 obtain ⟨k, p, hk⟩ := k5m T h
 unfold walker
 rw [k6b p]
 exact k91 T h p hk
theorem k2j {n : Net} (T : j02 n) : ∀ (es : List End) (told : List Str), (∀ e ∈ es, e ∈ ends n) → ∀ w ∈ wks n es told, IsWk n w
 | [], _, _, w, hw => by cases hw
 | e :: r, told, h, w, hw => by
  unfold wks at hw
  split at hw
  ·exact k2j T r told (fun a ha => h a (List.mem_cons_of_mem _ ha)) w hw
  ·rcases List.mem_cons.mp hw with rfl | hw
   ·exact k2b T (h e (List.mem_cons_self ..))
   ·exact k2j T r _ (fun a ha => h a (List.mem_cons_of_mem _ ha)) w hw
theorem j84 (n : Net) : ∀ (es : List End) (told : List Str), (wks n es told).length ≤ es.length
 | [], _ => Nat.le_refl _
 | e :: r, told => by
  unfold wks
  split
  ·have := j84 n r told
   show _ ≤ r.length + 1
   omega
  ·have := j84 n r (told ++ (evens (walker n e)).map (tnm n))
   show _ + 1 ≤ r.length + 1
   omega
end Nt
namespace D4
open PySem L2 Nt Sort2
open PyProof.Rows (sortedS)
open Classical
theorem k_bb (K : PySem.W.Frag) : PySem.W.kitOne K (.type "bool") (.type "bool") = some true := by rfl
def Good (n : Net) (H : Hp) (a : Addr) : Prop := ∃ ss, H a = some (Ls ss) ∧ Srt ss ∧ ∀ z ∈ ss, z ∈ ties n
theorem Good.same {n : Net} {H H' : Hp} {a : Addr} (h : Good n H a) (s : Same H H') : Good n H' a := let ⟨ss, h1, h2⟩ := h; ⟨ss, s _ _ h1, h2⟩
theorem Good.upd {n : Net} {H : Hp} {a b : Addr} {o : HO} (h : Good n H a) (ne : a ≠ b) : Good n (upd H b o) a := let ⟨ss, h1, h2⟩ := h; ⟨ss, by rw [j0c ne]; exact h1, h2⟩
def k4e (K : PySem.W.Frag) : Sp := fun vs H Q _ => ∃ (a : Addr) (ns : List Int), vs = [.ref a] ∧ SqL K H a (ns.map V.int) ∧ ns.length ≤ 63 ∧ ∀ H', Q (.bl true) H'
abbrev NW : List Str := ["_law_script", "_law_big_here", "_law_rows", "_law_handed", "_law_seats_here", "_law_ties", "_law_bits", "_law_some", "_law_sets", "_law_total", "_law_k", "_law_walker", "_law_core_here", "_law_one", "_law_given", "_law_found", "_law_due"]
abbrev NW' : List Str := ["_law_script", "_law_big_here", "_law_rows", "_law_handed", "_law_seats_here", "_law_ties", "_law_bits", "_law_some", "_law_sets", "_law_total", "?", "_law_walker", "_law_core_here", "_law_one", "_law_given", "_law_found", "_law_due", "_law_k"]
theorem scLaw : FnScope NW ["_law_script"] (j0h sLaw) := ⟨rfl, rfl, rfl, by decide +kernel, rfl, by decide +kernel, by decide +kernel⟩
theorem q2h : NW'.Nodup := by decide +kernel
theorem j6w {xs ys : List Str} (h : Srt ys) (s : xs.Sublist ys) : Srt xs := List.Pairwise.sublist s h
section
variable {P : Program} {w : World} {K : PySem.W.Frag} {mg : Str → Option Value} {base : Heap}
theorem q1c {f : Addr} {fd : FuncData} (F : Fun K "law" "law" sLaw f fd) (T : Txt mg)
  (GC : Has P w K mg base 5 "_law_cell_at" ["_law_script", "_law_k"] (j9g K))
  (GB : Has P w K mg base 5 "_law_big" ["_law_script", "_law_at"] (k7h K))
  (GN : Has P w K mg base 5 "_law_net_by" ["_law_big_here", "_law_most", "_law_stem"] k87)
  (GY : Has P w K mg base 5 "_law_copy" ["_law_rows"] k1w)
  (GS : Has P w K mg base 5 "_law_seats" ["_law_rows"] j6z)
  (GI : Has P w K mg base 5 "_law_side" ["_law_rows", "_law_seats_here", "_law_some"] j8j)
  (GE : Has P w K mg base 5 "_law_even" ["_law_rows", "_law_some"] k00)
  (GM : Has P w K mg base 5 "_law_sum" ["_law_one", "_law_other_here"] k3g)
  (GO : Has P w K mg base 5 "_law_core" ["_law_rows", "_law_walker"] j8l)
  (GW : Has P w K mg base 5 "walkers_of" ["rows"] k8m)
  (GD : Has P w K mg base 5 "is_double" ["rows", "some"] k7i) :
  FnOk P w K mg base CX0 6 f fd ["_law_script"] (k4e K) := by
 refine F.gb scLaw (fun vs H Q E h => ?_) (fun b0 H vs Q E hr h => ?_)
 ·obtain ⟨a, ns, rfl, _⟩ := h
  rfl
 obtain ⟨a, ns, rfl, hS, h63, q⟩ := h
 have nd := scLaw.nd
 have hu := hr.u1
 have un := hr.u100
 show Run _ _ _ [some (.ref a), none, none, none, none, none, none, none, none, none, none, none, none, none, none, none, none] H
 refine j0i 1 nd (j0t GB hr (j0a (ev_v 0 (j0a (j0f (j0g ⟨a, ns, 0, rfl, hS, by decide, fun b H1 s1 => ?_⟩))))))
 refine j0i 2 nd (j0t GN hr (j0a (j0o j1y (ev_v 1 (j0f ⟨_, _, rfl, rfl, ⟨by decide, by decide⟩, ?_⟩)))))
 refine j0a (j0f (j0a (j0o j11 (j0o j1b (ev_v 1 (j0f ⟨_, _, rfl, rfl, (by show (0 : Int) < 97; decide), j0t GC hr (j0a (ev_v 0 (j0a (j0f (j0g ⟨a, ns, 9, rfl, s1.seq hS, by decide, fun c9 => ⟨_, _, rfl, rfl, ?_⟩⟩)))))⟩))))))
 refine j0g ⟨_, 16, _, rfl, by decide, by decide, fun R as n H2 s2 n2 hR hT hN hF hHg hti hnl has => ?_⟩
 have e16 : ((16 : Int)).toNat = 16 := rfl
 rw [e16] at hti hnl
 have sH2 : Same H H2 := s1.trans s2
 have hel := j4x n
 have h0n : 0 < n.length := List.length_pos_iff.mpr (Full.some hF)
 refine j0i 3 nd (j0t GY hr (j0a (ev_v 2 (j0g ⟨R, as, n, rfl, hR, by omega, fun M bs H3 s3 n3 f3 hM => ?_⟩))))
 refine j0i 4 nd (j0t GS hr (j0a (ev_v 2 (j0g ⟨R, as, n, rfl, hR.same s3, by omega, by omega, fun ds ks H4 s4 n4 hSe => ?_⟩))))
 obtain ⟨kvS, ed, ek, ev⟩ := hSe.dict
 have hkl : ks.length ≤ 32 := by
  have := nodup_le hSe.nodup fun z hz => (hSe.mem z).mp hz
  omega
 refine k60 ed fun ob => ?_
 have n42 : H2 ds = none := s3.free n4
 have sF : Same H3 (upd H4 ds (.frz ob (.dK kvS))) := j01 s4 n4
 have kF : ∀ b o, b ≠ ds → H4 b = some o → (upd H4 ds (.frz ob (.dK kvS))) b = some o := fun b o hb h => by rw [j0c hb]; exact h
 have hSF : SeatsF (upd H4 ds (.frz ob (.dK kvS))) ds ob n ks := by
  refine ⟨⟨kvS, j0b, ek, fun z hz => ?_⟩, hSe.nodup, hSe.mem⟩
  obtain ⟨a, ts, q1, q2, q3⟩ := ev z hz
  exact ⟨a, ts, q1, kF _ _ (j1j q2 ed fun z => nomatch z) q2, q3.keep fun t e h => kF _ _ (j1j h ed fun z => nomatch z) h⟩
 have hS5 : SqL K (upd H4 ds (.frz ob (.dK kvS))) a (ns.map V.int) := ((sH2.trans s3).trans sF).seq hS
 have hR5 := (hR.same s3).same sF
 have hM5 := hM.same sF
 show Run _ _ _ [some (.ref a), some (.int b), some (.ref R), some (.ref M), some (.ref ds), none, none, none, none, none, none, none, none, none, none, none, none] (upd H4 ds (.frz ob (.dK kvS)))
 have edF : (upd H4 ds (.frz ob (.dK kvS))) ds = some (.frz ob (.dK kvS)) := j0b
 generalize upd H4 ds (.frz ob (.dK kvS)) = H5 at hSF hS5 hR5 hM5 edF
 refine j0i 5 nd (j06 (j4t rfl) T.sorted PyProof.Rows.boot_sorted (j0a (ev_v 4 (j0g ⟨ds, kvS, ks, rfl, .inr ⟨ob, edF⟩, ek, by omega, fun t tt ht hpm hso => ?_⟩))))
 have so5 : Srt tt := j7d hso (hpm.nodup_iff.mpr hSF.nodup)
 have mt5 : ∀ z, z ∈ tt ↔ z ∈ ties n := fun z => by rw [hpm.mem_iff]; exact hSF.mem z
 have s6 := j0e ht (Ls tt)
 have et6 : (upd H5 t (Ls tt)) t = some (Ls tt) := j0b
 show Run _ _ _ [some (.ref a), some (.int b), some (.ref R), some (.ref M), some (.ref ds), some (.ref t), none, none, none, none, none, none, none, none, none, none, none] (upd H5 t (Ls tt))
 generalize upd H5 t (Ls tt) = H6 at s6 et6
 refine j0i 6 nd (j0t GB hr (j0a (ev_v 0 (j0a (j0f (j0g ⟨a, ns, 10, rfl, s6.seq hS5, by decide, fun bi H7 s7 => ?_⟩))))))
 have s57 := s6.trans s7
 have et7 := s7 _ _ et6
 have htl := j9z hT (j19 so5) fun z hz => (mt5 z).mp hz
 have etl : (tt.map V.str).length = tt.length := List.length_map ..
 show Run _ _ _ [some (.ref a), some (.int b), some (.ref R), some (.ref M), some (.ref ds), some (.ref t), some (.int bi), none, none, none, none, none, none, none, none, none, none] H7
 refine j42 7 (j0h sLaw) NW NW' 1 nd (j39 rfl T.range j28) (j0a (j06 j0m T.len boot_len (j0a (ev_v 5 (j0g ⟨t, _, rfl, .inl (SqL.of et7), j0g ⟨_, rfl, by omega, by omega, fun D hD => ?_⟩⟩)))))
 rw [etl, Int.toNat_natCast]
 refine j3s (fun i σ' H' => (∃ v, σ' = [some (.ref a), some (.int b), some (.ref R), some (.ref M), some (.ref ds), some (.ref t), some (.int bi), none, none, none, none, none, none, none, none, none, none] ++ [v]) ∧ Same H7 H' ∧ ∃ ss, H' D = some (Ls ss) ∧ ss.Sublist (tt.take i)) ⟨⟨_, rfl⟩, j0e hD _, [], j0b, List.Sublist.refl _⟩ ?_ ?_
 ·rintro i σ' H' hi ⟨⟨v, rfl⟩, sm, ss, eD, hsub⟩
  rw [Int.zero_add]
  have hti' : tt[i]? = some tt[i] := List.getElem?_eq_getElem hi
  have etk : tt.take (i + 1) = tt.take i ++ [tt[i]] := by rw [List.take_add_one, hti']; rfl
  intro cl C s₀ H₀ ex
  refine j0j 17 q2h ?_
  intro cl C s₀ H₀ ex
  refine j3b (j1e j4i (j0o k6s (j0o k58 (ev_v 6 (ev_v 17 ⟨bi, (i : Int), rfl, rfl, ?_, j0f ⟨_, _, rfl, rfl, j0f ⟨rfl, _, rfl, ?_⟩⟩⟩)))))
  ·omega
  refine ite2 (fun c => ?_) (fun c => ⟨⟨_, rfl⟩, sm, ss, eD, by rw [etk]; exact hsub.trans (List.sublist_append_left _ _)⟩)
  intro cl C s₀ H₀ ex
  have hsl := hsub.length_le
  rw [List.length_take] at hsl
  refine j0r j0x (ev_v 5 (ev_v 17 ⟨t, _, _, .str tt[i], rfl, rfl, SqL.of (sm _ _ et7), j5k hti', _, eD, by rw [List.length_map]; exact j0u (by omega), ⟨_, rfl⟩, j01 sm hD, ss ++ [tt[i]], by rw [j0b]; show some (HO.lst (ss.map V.str ++ [V.str tt[i]])) = some (HO.lst ((ss ++ [tt[i]]).map V.str)); rw [List.map_append]; rfl, by rw [etk]; exact List.Sublist.append hsub (List.Sublist.refl _)⟩))
 rintro σ' H8 ⟨_, s8, so, eo, hsub⟩
 rw [List.take_length] at hsub
 have s58 := s57.trans s8
 have et8 := s8 _ _ et7
 have gT : Good n H8 t := ⟨tt, et8, so5, fun z hz => (mt5 z).mp hz⟩
 have gO : Good n H8 D := ⟨so, eo, j6w so5 hsub, fun z hz => (mt5 z).mp (hsub.subset hz)⟩
 show Run _ _ _ [some (.ref a), some (.int b), some (.ref R), some (.ref M), some (.ref ds), some (.ref t), some (.int bi), some (.ref D), none, none, none, none, none, none, none, none, none] H8
 refine j0i 8 nd (j1p (j0a (j1p (j0g ⟨(by show 0 ≤ sizeLine; decide), fun p0 hp0 => ?_⟩))))
 have s9 := j0e hp0 (.lst [])
 have et9 := s9 _ _ et8
 refine j0a (ev_v 5 (j0a (ev_v 7 (j0a (j35 j5b (ev_v 5 (j46 (j5h (j0f ⟨1, rfl, t, _, rfl, SqL.of et9, fun p1 hp1 => ?_⟩)))))))))
 have ec1 : cutV (tt.map V.str) none (some (1 : Int)) = (tt.take 1).map V.str := k6e tt 1
 rw [ec1]
 have s10 := j0e hp1 (.lst ((tt.take 1).map V.str))
 refine j0a (j35 j5b (ev_v 5 (j5h (j0f ⟨1, rfl, j46 ⟨t, _, rfl, SqL.of (s10 _ _ et9), fun p2 hp2 => ?_⟩⟩))))
 have ec2 : cutV (tt.map V.str) (some (1 : Int)) none = (tt.drop 1).map V.str := j9t tt 1
 rw [ec2]
 have s11 := j0e hp2 (.lst ((tt.drop 1).map V.str))
 refine j0g ⟨(by show 5 ≤ sizeLine; decide), fun S hS0 => ?_⟩
 have s12 := j0e hS0 (.lst [.ref p0, .ref t, .ref D, .ref p1, .ref p2])
 have g0 : Good n (upd H8 p0 (.lst [])) p0 := ⟨[], j0b, List.Pairwise.nil, fun z hz => by cases hz⟩
 have g1 := (show Good n _ p1 from ⟨tt.take 1, j0b, j6w so5 (List.take_sublist _ _), fun z hz => (mt5 z).mp (List.mem_of_mem_take hz)⟩ : Good n (upd (upd H8 p0 (.lst [])) p1 (.lst ((tt.take 1).map V.str))) p1)
 have g2 := (show Good n _ p2 from ⟨tt.drop 1, j0b, j6w so5 (List.drop_sublist _ _), fun z hz => (mt5 z).mp (List.mem_of_mem_drop hz)⟩ : Good n (upd (upd (upd H8 p0 (.lst [])) p1 (.lst ((tt.take 1).map V.str))) p2 (.lst ((tt.drop 1).map V.str))) p2)
 have s9c := s9.trans (s10.trans (s11.trans s12))
 have gg : ∀ x ∈ [p0, t, D, p1, p2], Good n (upd (upd (upd (upd H8 p0 (.lst [])) p1 (.lst ((tt.take 1).map V.str))) p2 (.lst ((tt.drop 1).map V.str))) S (.lst [.ref p0, .ref t, .ref D, .ref p1, .ref p2])) x := by
  intro x hx
  simp only [List.mem_cons, List.not_mem_nil, or_false] at hx
  rcases hx with rfl | rfl | rfl | rfl | rfl
  ·exact g0.same (s10.trans (s11.trans s12))
  ·exact gT.same s9c
  ·exact gO.same s9c
  ·exact g1.same (s11.trans s12)
  ·exact g2.same s12
 have eS : (upd (upd (upd (upd H8 p0 (.lst [])) p1 (.lst ((tt.take 1).map V.str))) p2 (.lst ((tt.drop 1).map V.str))) S (.lst [.ref p0, .ref t, .ref D, .ref p1, .ref p2])) S = some (.lst (([p0, t, D, p1, p2] : List Addr).map V.ref)) := j0b
 have hS8 : H8 S = none := s9.free (s10.free (s11.free hS0))
 generalize upd (upd (upd (upd H8 p0 (.lst [])) p1 (.lst ((tt.take 1).map V.str))) p2 (.lst ((tt.drop 1).map V.str))) S (.lst [.ref p0, .ref t, .ref D, .ref p1, .ref p2]) = H9 at s9c gg eS
 refine j0i 9 nd (j1p (j0g ⟨(by show 0 ≤ sizeLine; decide), fun p3 hp3 => ?_⟩))
 have s13 := j0e hp3 (.lst [])
 have s8a := s9c.trans s13
 have gt3 : Good n (upd H9 p3 (.lst [])) p3 := ⟨[], j0b, List.Pairwise.nil, fun z hz => by cases hz⟩
 have eSa := s13 _ _ eS
 have gga : ∀ x ∈ [p0, t, D, p1, p2], Good n (upd H9 p3 (.lst [])) x := fun x hx => (gg x hx).same s13
 show Run _ _ _ [some (.ref a), some (.int b), some (.ref R), some (.ref M), some (.ref ds), some (.ref t), some (.int bi), some (.ref D), some (.ref S), some (.ref p3), none, none, none, none, none, none, none] (upd H9 p3 (.lst []))
 generalize upd H9 p3 (.lst []) = HA at s8a gt3 eSa gga
 have s5A := s58.trans s8a
 have hSn : ∀ {b : Addr} {o : HO}, H8 b = some o → b ≠ S := fun h => j0d h hS8
 have wl := j84 n (ends n) []
 have allW := k2j hT (ends n) [] fun e he => he
 refine j3u (k7s rfl T.enum j28) (j0a (j0t GW hr (j0a (ev_v 3 (j0g ⟨M, bs, n, rfl, hM5.same s5A, hN, hT, by omega, by omega, fun L ls HB sB nB hL fL => j0g ⟨L, rfl, ⟨_, SqL.of hL.lst⟩, ?_⟩⟩)))))
 have lL := hL.len
 generalize hws : wks n (ends n) [] = ws at hL wl lL allW
 have hgl : ∀ {H' : Hp} {x : Addr}, Good n H' x → ∀ {ss : List Str}, H' x = some (Ls ss) → Srt ss ∧ (∀ z ∈ ss, z ∈ ties n) ∧ ss.length ≤ 16 := fun {H' x} g {ss} h => by
  obtain ⟨s2, h2, so2, m2⟩ := g
  rw [h2] at h
  have e2 : s2 = ss := by
   have := HO.lst.inj (Option.some.inj h)
   exact (List.map_inj_right (fun x y h => V.str.inj h)).mp this
  subst e2
  have := j9z hT (j19 so2) m2
  exact ⟨so2, m2, by omega⟩
 have hSB : HB S = some (.lst (([p0, t, D, p1, p2] : List Addr).map V.ref)) := sB _ _ eSa
 have hSL : ∀ {x : Addr}, HA x = none → x ≠ S := fun {x} h k => by rw [k, eSa] at h; cases h
 generalize hHZ : (fun b => if b = S then none else HB b : Hp) = HZ
 have hz1 : ∀ b, b ≠ S → HZ b = HB b := fun b hb => by rw [← hHZ]; exact if_neg hb
 have s8Z : Same H8 HZ := fun b o h => by rw [hz1 b (hSn h)]; exact sB _ _ (s8a _ _ h)
 have hR0 : RowsAt HZ R as n := (hR5.same s58).same s8Z
 have hM0 : RowsAt HZ M bs n := (hM5.same s58).same s8Z
 have hF0 : SeatsF HZ ds ob n ks := (hSF.same s58).same s8Z
 have gT0 : Good n HZ t := gT.same s8Z
 have et0 : HZ t = some (Ls tt) := s8Z _ _ et8
 have eo0 : HZ D = some (Ls so) := s8Z _ _ eo
 have gO0 : Good n HZ D := gO.same s8Z
 have hL0 : WAt n HZ L ls ws := hL.keep (hz1 L (hSL nB)) (fun l hl o h => by rw [hz1 l (hSL (fL l hl))]; exact h) fun t p j h => by rw [hz1 t (j1j h hSB fun z => nomatch z)]; exact h
 have noS : ∀ {x : Addr} {o : HO}, HZ x = some o → x ≠ S := fun h k => by rw [k, ← hHZ] at h; simp at h
 have elsl : (ls.map V.ref).length = ls.length := List.length_map ..
 refine k2m (xs := ls.map V.ref) (fun i σ H' => ∃ (xs : List Addr) (tot : Addr) (u10 u11 u12 : Option V), Same HZ H' ∧ H' S = some (.lst (xs.map V.ref)) ∧ xs.length ≤ 5 + 2 * i ∧ (∀ x ∈ xs, Good n H' x ∧ x ≠ S) ∧ Good n H' tot ∧ tot ≠ S ∧
   σ = [some (.ref a), some (.int b), some (.ref R), some (.ref M), some (.ref ds), some (.ref t), some (.int bi), some (.ref D), some (.ref S), some (.ref tot), u10, u11, u12, none, none, none, none])
  ⟨[p0, t, D, p1, p2], p3, _, _, _, fun b o h => by rw [← hz1 b (noS h)]; exact h, hSB, by simp, fun x hx => ⟨(gga x hx).same sB, ?_⟩, gt3.same sB, ?_, rfl⟩ ?_ ?_ ?_
 ·intro k
  obtain ⟨ss, h, _⟩ := gga x hx
  rw [k, eSa] at h
  cases ss with
  | nil => cases h
  | cons z r => have := HO.lst.inj (Option.some.inj h); cases this
 ·intro k
  rw [k] at hp3
  rw [eS] at hp3
  cases hp3
 ·rintro i σ H' _ ⟨xs, tot, u10, u11, u12, sm, _⟩
  exact SqL.of (sm _ _ hL0.lst)
 ·rintro i x Tt σ H' hx ⟨xs, tot, u10, u11, u12, sm, eS1, hxl, hgx, hgt, nts, rfl⟩ hTt
  rw [List.getElem?_map, Option.map_eq_some_iff] at hx
  obtain ⟨l, hl, rfl⟩ := hx
  have hil : i < ls.length := (List.getElem?_eq_some_iff.mp hl).1
  have hiw : i < ws.length := by omega
  have hw : ws[i]? = some ws[i] := List.getElem?_eq_getElem hiw
  obtain ⟨ts, el, hE⟩ := hL0.at' i l _ hl hw
  have wk := allW _ (List.mem_of_getElem? hw)
  generalize ws[i] = es at hw hE wk
  have sT := j0e hTt (.tup [.int (i : Int), .ref l])
  refine j2a rfl (SqT.of j0b) (j0j 10 nd (j0j 11 nd ?_))
  have eS1 := sT _ _ eS1
  have hgx : ∀ x ∈ xs, Good n _ x ∧ x ≠ S := fun x hx => ⟨(hgx x hx).1.same sT, (hgx x hx).2⟩
  have hgt := hgt.same sT
  have sm := sm.trans sT
  show Run _ _ _ [some (.ref a), some (.int b), some (.ref R), some (.ref M), some (.ref ds), some (.ref t), some (.int bi), some (.ref D), some (.ref S), some (.ref tot), some (.int (i : Int)), some (.ref l), u12, none, none, none, none] (upd H' Tt (.tup [.int (i : Int), .ref l]))
  generalize upd H' Tt (.tup [.int (i : Int), .ref l]) = HC at eS1 hgx hgt sm
  have few := wk.few
  have inT : ∀ z ∈ es.map (tnm n), z ∈ ties n := fun z hz => by
   obtain ⟨e, he, rfl⟩ := List.mem_map.mp hz
   obtain ⟨y, hy⟩ := mem_ends.mp (wk.ends e he)
   rw [j76 hy]
   exact j2s hy
  refine j0i 12 nd (j0t GO hr (j0a (ev_v 2 (j0a (ev_v 11 (j0g ⟨R, l, as, n, ts, es, rfl, hR0.same sm, hN, by omega, sm _ _ el, hE.same sm, wk.ends, by omega, fun l hn hm => ?_, fun c cs HD sD nD eD soD mD => ?_⟩))))))
  ·have := nodup_le hn fun z hz => inT z (hm z hz)
   omega
  have cin : ∀ z ∈ cs, z ∈ ties n := fun z hz => inT z (List.count_pos_iff.mp (by rw [(mD z).mp hz]; decide))
  have gc : Good n HD c := ⟨cs, eD, soD, cin⟩
  have ncS : c ≠ S := fun k => by rw [k, eS1] at nD; cases nD
  have eS2 := sD _ _ eS1
  have smD := sm.trans sD
  have lc := (hgl gc eD).2.2
  have lo := (hgl (gO0.same smD) (smD _ _ eo0)).2.2
  show Run _ _ _ [some (.ref a), some (.int b), some (.ref R), some (.ref M), some (.ref ds), some (.ref t), some (.int bi), some (.ref D), some (.ref S), some (.ref tot), some (.int (i : Int)), some (.ref l), some (.ref c), none, none, none, none] HD
  have exl : (xs.map V.ref).length = xs.length := List.length_map ..
  refine j1m (j1o (ev_v 8 ⟨S, rfl, ⟨_, eS2⟩, ev_v 12 ⟨_, eS2, j0u (by omega), ?_⟩⟩))
  have eS3 : (upd HD S (.lst (xs.map V.ref ++ [.ref c]))) S = some (.lst ((xs ++ [c]).map V.ref)) := by rw [j0b, List.map_append]; rfl
  have smE : Same HZ (upd HD S (.lst (xs.map V.ref ++ [.ref c]))) := fun b o h => by rw [j0c (noS h)]; exact smD _ _ h
  have hgx3 : ∀ x ∈ xs ++ [c], Good n (upd HD S (.lst (xs.map V.ref ++ [.ref c]))) x ∧ x ≠ S := fun x hx => by
   rcases List.mem_append.mp hx with h | h
   ·exact ⟨((hgx x h).1.same sD).upd (hgx x h).2, (hgx x h).2⟩
   ·rw [List.mem_singleton.mp h]
    exact ⟨gc.upd ncS, ncS⟩
  have hgt3 := (hgt.same sD).upd (o := .lst (xs.map V.ref ++ [.ref c])) nts
  have eD3 : (upd HD S (.lst (xs.map V.ref ++ [.ref c]))) c = some (Ls cs) := by rw [j0c ncS]; exact eD
  generalize upd HD S (.lst (xs.map V.ref ++ [.ref c])) = HE at eS3 smE hgx3 hgt3 eD3
  refine j1m (j1o (ev_v 8 ⟨S, rfl, ⟨_, eS3⟩, j0t GM hr (j0a (ev_v 7 (j0a (ev_v 12 (j0g ⟨D, c, so, cs, rfl, smE _ _ eo0, eD3, by omega, j19 (hgl (gO0.same smE) (smE _ _ eo0)).1, j19 soD, fun m ms HF sF nF eF soF mF => ⟨_, sF _ _ eS3, ?_, ?_⟩⟩)))))⟩))
  ·rw [List.length_map, List.length_append]
   show xs.length + 1 < sizeLine
   exact j0u (by omega)
  have gm : Good n HF m := ⟨ms, eF, soF, fun z hz => by
   have := (mF z).mp hz
   by_cases k : z ∈ so
   ·exact (hgl (gO0.same smE) (smE _ _ eo0)).2.1 z k
   ·rw [if_neg k] at this
    exact cin z this⟩
  have nmS : m ≠ S := fun k => by rw [k, eS3] at nF; cases nF
  have eS4 : (upd HF S (.lst ((xs ++ [c]).map V.ref ++ [.ref m]))) S = some (.lst (((xs ++ [c]) ++ [m]).map V.ref)) := by rw [j0b, List.map_append (l₁ := xs ++ [c])]; rfl
  have smF : Same HZ (upd HF S (.lst ((xs ++ [c]).map V.ref ++ [.ref m]))) := fun b o h => by rw [j0c (noS h)]; exact sF _ _ (smE _ _ h)
  have hgx4 : ∀ x ∈ (xs ++ [c]) ++ [m], Good n (upd HF S (.lst ((xs ++ [c]).map V.ref ++ [.ref m]))) x ∧ x ≠ S := fun x hx => by
   rcases List.mem_append.mp hx with h | h
   ·exact ⟨((hgx3 x h).1.same sF).upd (hgx3 x h).2, (hgx3 x h).2⟩
   ·rw [List.mem_singleton.mp h]
    exact ⟨gm.upd nmS, nmS⟩
  have hgt4 := (hgt3.same sF).upd (o := .lst ((xs ++ [c]).map V.ref ++ [.ref m])) nts
  have eD4 : (upd HF S (.lst ((xs ++ [c]).map V.ref ++ [.ref m]))) c = some (Ls cs) := by rw [j0c ncS]; exact sF _ _ eD3
  have hlen4 : ((xs ++ [c]) ++ [m]).length ≤ 5 + 2 * (i + 1) := by rw [List.length_append, List.length_append]; show xs.length + 1 + 1 ≤ _; omega
  generalize upd HF S (.lst ((xs ++ [c]).map V.ref ++ [.ref m])) = HG at eS4 smF hgx4 hgt4 eD4
  refine j5u True True (fun R' qq => ?_) (fun _ => ?_) (fun _ => j0l (j0l ⟨_, tot, _, _, _, smF, eS4, hlen4, hgx4, hgt4, nts, rfl⟩))
  ·refine j1e j4i (j0o k6s (j0o k58 (ev_v 6 (j0o j11 (j0f (ev_v 10 ⟨_, _, rfl, rfl, bi, 40 + (i : Int), rfl, rfl, ?_, j0f ⟨_, _, rfl, rfl, j0f ⟨rfl, _, rfl, qq _ (fun _ => trivial) fun _ => trivial⟩⟩⟩))))))
   omega
  obtain ⟨tts, ett, _⟩ := id hgt4
  obtain ⟨t1, t2, t3⟩ := hgl hgt4 ett
  refine j0i 9 nd (j0t GM hr (j0a (ev_v 9 (j0a (ev_v 12 (j0g ⟨tot, c, tts, cs, rfl, ett, eD4, by omega, j19 t1, j19 soD, fun u us HI sI nI eI soI mI => ?_⟩))))))
  have gu : Good n HI u := ⟨us, eI, soI, fun z hz => by
   have := (mI z).mp hz
   by_cases k : z ∈ tts
   ·exact t2 z k
   ·rw [if_neg k] at this
    exact cin z this⟩
  have nuS : u ≠ S := fun k => by rw [k, eS4] at nI; cases nI
  exact j0l (j0l ⟨_, u, _, _, _, smF.trans sI, sI _ _ eS4, hlen4, fun x hx => ⟨(hgx4 x hx).1.same sI, (hgx4 x hx).2⟩, gu, nuS, rfl⟩)
 rintro σ HC ⟨xs, tot, u10, u11, u12, sm, eS1, hxl, hgx, hgt, nts, rfl⟩
 obtain ⟨tts, ett, _⟩ := id hgt
 obtain ⟨t1, t2, t3⟩ := hgl hgt ett
 have etC := sm _ _ et0
 refine j2e (j0o k3b (ev_v 8 (j1p (j0a (ev_v 9 (j0a (j0t GM hr (j0a (ev_v 9 (j0a (j35 j5b (ev_v 5 (j46 (j5h (j0f ⟨1, rfl, t, _, rfl, SqL.of etC, fun p5 hp5 => ?_⟩)))))))))))))))
 rw [ec1]
 have s5 := j0e hp5 (.lst ((tt.take 1).map V.str))
 have l5 : (tt.take 1).length ≤ 1 := by rw [List.length_take]; omega
 refine j0g ⟨tot, p5, tts, tt.take 1, rfl, s5 _ _ ett, j0b, by omega, j19 t1, j19 (j6w so5 (List.take_sublist _ _)), fun u us HD sD nD eD soD mDq => j0g ⟨(by show 2 ≤ sizeLine; decide), fun V2 hV2 => ?_⟩⟩
 have gu : Good n HD u := ⟨us, eD, soD, fun z hz => by
  have := (mDq z).mp hz
  by_cases k : z ∈ tts
  ·exact t2 z k
  ·rw [if_neg k] at this
   exact (mt5 z).mp (List.mem_of_mem_take this)⟩
 have sE := j0e hV2 (.lst [.ref tot, .ref u])
 have sCD := s5.trans sD
 have sCE := sCD.trans sE
 have hal2 : ∀ x ∈ xs ++ [tot, u], Good n (upd HD V2 (.lst [.ref tot, .ref u])) x := fun x hx => by
  rcases List.mem_append.mp hx with h | h
  ·exact (hgx x h).1.same sCE
  ·simp only [List.mem_cons, List.not_mem_nil, or_false] at h
   rcases h with rfl | rfl
   ·exact hgt.same sCE
   ·exact gu.same sE
 have wll : ls.length ≤ 32 := by omega
 refine ⟨S, V2, _, _, rfl, rfl, sCE _ _ eS1, j0b, ?_, fun Z hZ => ⟨Z, rfl, ⟨_, SqL.of j0b⟩, ?_⟩⟩
 ·rw [List.length_map]
  exact small (by show xs.length + 2 ≤ _; omega)
 have eZ : (upd (upd HD V2 (.lst [.ref tot, .ref u])) Z (.lst (xs.map V.ref ++ [.ref tot, .ref u]))) Z = some (.lst ((xs ++ [tot, u]).map V.ref)) := by rw [j0b, List.map_append]; rfl
 have sZ := j0e hZ (.lst (xs.map V.ref ++ [.ref tot, .ref u]))
 have smZ := (sm.trans sCE).trans sZ
 have hal3 : ∀ x ∈ xs ++ [tot, u], Good n (upd (upd HD V2 (.lst [.ref tot, .ref u])) Z (.lst (xs.map V.ref ++ [.ref tot, .ref u]))) x := fun x hx => (hal2 x hx).same sZ
 generalize upd (upd HD V2 (.lst [.ref tot, .ref u])) Z (.lst (xs.map V.ref ++ [.ref tot, .ref u])) = HE at eZ smZ hal3
 generalize xs ++ [tot, u] = ys at eZ hal3
 refine j1x (xs := ys.map V.ref) (fun i σ H' => ∃ (u13 u14 u15 u16 : Option V), Same HE H' ∧ σ = [some (.ref a), some (.int b), some (.ref R), some (.ref M), some (.ref ds), some (.ref t), some (.int bi), some (.ref D), some (.ref S), some (.ref tot), u10, u11, u12, u13, u14, u15, u16]) ⟨_, _, _, _, Same.refl _, rfl⟩ ?_ ?_ ?_
 ·rintro i σ H' _ ⟨_, _, _, _, sm1, _⟩
  exact SqL.of (sm1 _ _ eZ)
 ·rintro i x σ H' hx ⟨u13, u14, u15, u16, sm1, rfl⟩
  rw [List.getElem?_map, Option.map_eq_some_iff] at hx
  obtain ⟨y, hy, rfl⟩ := hx
  obtain ⟨ss, ey, soy, my⟩ := (hal3 y (List.mem_of_getElem? hy)).same sm1
  have hyl := (hgl ⟨ss, ey, soy, my⟩ ey).2.2
  refine j0j 13 nd ?_
  refine j0i 14 nd (j5c j4s T.tlist PyProof.Rows.boot_list (j0a (ev_v 13 (j0g ⟨y, _, rfl, .inl (SqL.of ey), fun g hg => ?_⟩))))
  have s1 := j0e hg (Ls ss)
  have eg1 : (upd H' g (Ls ss)) g = some (Ls ss) := j0b
  have smG := (smZ.trans sm1).trans s1
  have sm1 := sm1.trans s1
  have ey1 := s1 _ _ ey
  show Run _ _ _ [some (.ref a), some (.int b), some (.ref R), some (.ref M), some (.ref ds), some (.ref t), some (.int bi), some (.ref D), some (.ref S), some (.ref tot), u10, u11, u12, some (.ref y), some (.ref g), u15, u16] (upd H' g (Ls ss))
  generalize upd H' g (Ls ss) = HF at eg1 smG sm1 ey1
  refine j0i 15 nd (j0t GD hr (j0a (ev_v 3 (j0a (ev_v 14 (j0g ⟨M, g, bs, n, ss, rfl, hM0.same smG, hT, hHg, h0n, by omega, by omega, eg1, soy, fun HG sG => ?_⟩))))))
  refine j0i 16 nd (Ev.mono (Q := fun v H2 => v = .bl (decide (Dbl n ss)) ∧ Same HG H2) ?_ ?_)
  ·refine k6h (j0t GE hr (j0a (ev_v 2 (j0a (ev_v 13 (j0g ⟨R, y, as, n, ss, rfl, (hR0.same smG).same sG, by omega, by omega, sG _ _ ey1, fun HI sI => ⟨_, rfl, ?_⟩⟩))))))
   cases hev : j2l n ss with
   | false =>
    rw [if_neg (by decide)]
    exact ⟨congrArg V.bl (decide_eq_false fun k => by rw [k.1] at hev; cases hev).symm, sI⟩
   | true =>
    rw [if_pos rfl]
    refine k1r (j21 k3x (j0t GI hr (j0a (ev_v 2 (j0a (ev_v 4 (j0a (ev_v 13 (j0g ⟨R, ds, y, as, n, ss, ks, ob, rfl, ((hR0.same smG).same sG).same sI, ((hF0.same smG).same sG).same sI, hT, hHg, hN, h0n, by omega, sI _ _ (sG _ _ ey1), my, fun Lq HJ sJ hex => j54 ⟨rfl, ?_, sI.trans sJ⟩, fun HJ sJ hno => j54 ⟨rfl, ?_, sI.trans sJ⟩⟩)))))))))
    ·exact congrArg V.bl (decide_eq_true (show Dbl n ss from ⟨hev, hex⟩)).symm
    ·exact congrArg V.bl (decide_eq_false (show ¬ Dbl n ss from fun k => let ⟨sd, hsd⟩ := k.2; hno sd hsd)).symm
  rintro v HI ⟨rfl, sI⟩
  have smI := (sm1.trans sG).trans sI
  refine j4b (j47 (k9v (k9r (k2g (j06 k5d T.isi PyProof.Rows.boot_isinstance (j0a (ev_v 15 (j0a (k8f (.ty "bool") T.tbool PyProof.Rows.boot_bool rfl (j0g ⟨_, _, _, true, rfl, .bl _, k_bb K, true, rfl, iteF ?_⟩))))))))))
  refine k9v (j1e k1u (ev_v 15 (ev_v 16 ⟨rfl, _, rfl, ?_⟩)))
  rw [decide_eq_true rfl]
  refine iteF (q1a (j1e (j7o un) (ev_v 14 (ev_v 13 ⟨1, true, by decide, k5y (sI _ _ (sG _ _ eg1)) (sI _ _ (sG _ _ ey1)), _, rfl, iteF ?_⟩))))
  exact j0l (j0l ⟨_, _, _, _, smI, rfl⟩)
 ·rintro σ H' ⟨u13, u14, u15, u16, sm1, rfl⟩
  have smF := smZ.trans sm1
  exact j0p (j21 (k2y un) (ev_v 3 (ev_v 2 ⟨3, true, by decide, k5p (hM0.same smF) (hR0.same smF), q _⟩)))
end
end D4
namespace D4
open PySem L2
theorem all_mk {l : PySem.W.OpenLaw} {w : World} {K : PySem.W.Frag} {h : Heap} {mg : Str → Option Value} {fa : Addr} (X : K.In h) (G : h.Ns mainGlobals mg) (hfa : mg "law" = some (.ref fa))
  (h1 : Df K "ends_round" k5e) (h2 : Df K "ends_in_order" j9h) (h3 : Df K "turned_left" k89) (h4 : Df K "turned_right" j8t) (h5 : Df K "other_ends" j88) (h6 : Df K "ties_by_end" j9x) (h7 : Df K "left_steps" sLS) (h8 : Df K "right_steps" sRS) (h9 : Df K "links_of" k26) (h10 : Df K "spread" j8s) (h11 : Df K "odd_points" sOdd) (h12 : Df K "is_round" sRnd) (h13 : Df K "cut_of" j9u) (h14 : Df K "side_of" j5f) (h15 : Df K "walkers_of" sWks) (h16 : Df K "walker_from" sWkF) (h17 : Df K "is_double" j3y) (h18 : Df K "_law_cell_at" k77) (h19 : Df K "_law_big" sBig) (h20 : Df K "_law_names" k3t) (h21 : Df K "_law_seats" k3r) (h22 : Df K "_law_other" k23) (h23 : Df K "_law_step" k61) (h24 : Df K "_law_face" k6x) (h25 : Df K "_law_put" sPut) (h26 : Df K "_law_net_by" sNet) (h27 : Df K "_law_copy" k5i) (h28 : Df K "_law_side" j4y) (h29 : Df K "_law_even" j4u) (h30 : Df K "_law_sum" j5s) (h31 : Df K "_law_core" j2r) (hl : Df K "law" sLaw)
  (z : ∀ x ∈ (["isinstance", "tuple", "str", "int", "bool", "list", "dict", "set", "enumerate", "zip", "len", "range", "sorted", "max", "all"] : List Str), PySem.W.nsIn K mainGlobals x = some none) :
  ∃ fd : FuncData, (∀ (s : Shared) (v : Value), BindsTo s fd ⟨[v], []⟩ [("_law_script", v)]) ∧ ∀ base : Heap, K.In base → base.Ns mainGlobals mg → FnOk l.prog w K mg base CX0 6 fa fd ["_law_script"] (k4e K) := by
 have T : Txt mg := ⟨PySem.W.mg_none_of X G (z _ (by simp)), PySem.W.mg_none_of X G (z _ (by simp)), PySem.W.mg_none_of X G (z _ (by simp)), PySem.W.mg_none_of X G (z _ (by simp)), PySem.W.mg_none_of X G (z _ (by simp)), PySem.W.mg_none_of X G (z _ (by simp)), PySem.W.mg_none_of X G (z _ (by simp)), PySem.W.mg_none_of X G (z _ (by simp)), PySem.W.mg_none_of X G (z _ (by simp)), PySem.W.mg_none_of X G (z _ (by simp)), PySem.W.mg_none_of X G (z _ (by simp)), PySem.W.mg_none_of X G (z _ (by simp)), PySem.W.mg_none_of X G (z _ (by simp)), PySem.W.mg_none_of X G (z _ (by simp)), PySem.W.mg_none_of X G (z _ (by simp))⟩
 refine hl.law X G hfa (fun _ _ _ _ _ _ s v => .of_eq rfl) fun base f fd F => ?_
 have G1 : Has l.prog w K mg base 1 "ends_round" ["row"] j78 := h1.has X G (fun _ _ _ _ _ _ => bd1 fun _ => rfl) fun F => k8d F T
 have G2 : Has l.prog w K mg base 2 "ends_in_order" ["rows"] k7m := h2.has X G (fun _ _ _ _ _ _ => bd1 fun _ => rfl) fun F => k43 F T (G1.mono (by decide))
 have G3 : Has l.prog w K mg base 1 "turned_left" ["end", "many"] (spTL fun j => j + 1) := h3.has X G (fun _ _ _ _ _ _ => bd2 fun _ _ => rfl) fun F => k7w F T
 have G4 : Has l.prog w K mg base 1 "turned_right" ["end", "many"] (spTL fun j => j - 1) := h4.has X G (fun _ _ _ _ _ _ => bd2 fun _ _ => rfl) fun F => k27 F T
 have G5 : Has l.prog w K mg base 2 "other_ends" ["rows"] spOE := h5.has X G (fun _ _ _ _ _ _ => bd1 fun _ => rfl) fun F => q14 F T (G1.mono (by decide))
 have G6 : Has l.prog w K mg base 2 "ties_by_end" ["rows"] spBE := h6.has X G (fun _ _ _ _ _ _ => bd1 fun _ => rfl) fun F => q1x F T (G1.mono (by decide))
 have G7 : Has l.prog w K mg base 3 "left_steps" ["rows"] (spLS 1) := h7.has X G (fun _ _ _ _ _ _ => bd1 fun _ => rfl) fun F => q2i F T (G5.mono (by decide)) (G3.mono (by decide))
 have G8 : Has l.prog w K mg base 3 "right_steps" ["rows"] (spLS (-1)) := h8.has X G (fun _ _ _ _ _ _ => bd1 fun _ => rfl) fun F => q2k F T (G5.mono (by decide)) (G4.mono (by decide))
 have G16 : Has l.prog w K mg base 1 "walker_from" ["lefts", "rights", "first"] spWF := h16.has X G (fun _ _ _ _ _ _ => bd3 fun _ _ _ => rfl) fun F => q2a F T
 have G15 : Has l.prog w K mg base 4 "walkers_of" ["rows"] k8m := h15.has X G (fun _ _ _ _ _ _ => bd1 fun _ => rfl) fun F => k9d F T (G7.mono (by decide)) (G8.mono (by decide)) (G6.mono (by decide)) (G2.mono (by decide)) (G16.mono (by decide))
 have G9 : Has l.prog w K mg base 1 "links_of" ["rows"] j6e := h9.has X G (fun _ _ _ _ _ _ => bd1 fun _ => rfl) fun F => k38 F T
 have G10 : Has l.prog w K mg base 1 "spread" ["first", "links"] j6g := h10.has X G (fun _ _ _ _ _ _ => bd2 fun _ _ => rfl) fun F => k21 F T
 have G13 : Has l.prog w K mg base 2 "cut_of" ["rows", "points"] j82 := h13.has X G (fun _ _ _ _ _ _ => bd2 fun _ _ => rfl) fun F => k9n F T (G9.mono (by decide))
 have G14 : Has l.prog w K mg base 3 "side_of" ["rows", "some"] j6d := h14.has X G (fun _ _ _ _ _ _ => bd2 fun _ _ => rfl) fun F => k78 F T (G9.mono (by decide)) (G10.mono (by decide)) (G13.mono (by decide))
 have G11 : Has l.prog w K mg base 1 "odd_points" ["rows", "some"] k7e := h11.has X G (fun _ _ _ _ _ _ => bd2 fun _ _ => rfl) fun F => q0m F T
 have G12 : Has l.prog w K mg base 2 "is_round" ["rows", "some"] k00 := h12.has X G (fun _ _ _ _ _ _ => bd2 fun _ _ => rfl) fun F => k96 F T (G11.mono (by decide))
 have G17 : Has l.prog w K mg base 4 "is_double" ["rows", "some"] k7i := h17.has X G (fun _ _ _ _ _ _ => bd2 fun _ _ => rfl) fun F => k9j F T (G12.mono (by decide)) (G14.mono (by decide))
 have G18 : Has l.prog w K mg base 1 "_law_cell_at" ["_law_script", "_law_k"] (j9g K) := h18.has X G (fun _ _ _ _ _ _ => bd2 fun _ _ => rfl) fun F => k79 F T
 have G19 : Has l.prog w K mg base 2 "_law_big" ["_law_script", "_law_at"] (k7h K) := h19.has X G (fun _ _ _ _ _ _ => bd2 fun _ _ => rfl) fun F => k9c F T (G18.mono (by decide))
 have G20 : Has l.prog w K mg base 1 "_law_names" ["_law_stem", "_law_many"] j8q := h20.has X G (fun _ _ _ _ _ _ => bd2 fun _ _ => rfl) fun F => k4o F T
 have G21 : Has l.prog w K mg base 1 "_law_seats" ["_law_rows"] j6z := h21.has X G (fun _ _ _ _ _ _ => bd1 fun _ => rfl) fun F => k5x F T
 have G22 : Has l.prog w K mg base 1 "_law_other" ["_law_rows", "_law_seats_here", "_law_end"] j8u := h22.has X G (fun _ _ _ _ _ _ => bd3 fun _ _ _ => rfl) fun F => k5l F T
 have G23 : Has l.prog w K mg base 2 "_law_step" ["_law_rows", "_law_seats_here", "_law_end", "_law_turn"] k1x := h23.has X G (fun _ _ _ _ _ _ => bd4 fun _ _ _ _ => rfl) fun F => k76 F T (G22.mono (by decide))
 have G24 : Has l.prog w K mg base 3 "_law_face" ["_law_rows", "_law_seats_here", "_law_end"] k3e := h24.has X G (fun _ _ _ _ _ _ => bd3 fun _ _ _ => rfl) fun F => k8t F T (G23.mono (by decide))
 have G25 : Has l.prog w K mg base 4 "_law_put" ["_law_rows", "_law_big_here", "_law_tie", "_law_point"] k7a := h25.has X G (fun _ _ _ _ _ _ => bd4 fun _ _ _ _ => rfl) fun F => k9h F T (G21.mono (by decide)) (G24.mono (by decide))
 have G26 : Has l.prog w K mg base 5 "_law_net_by" ["_law_big_here", "_law_most", "_law_stem"] k87 := h26.has X G (fun _ _ _ _ _ _ => bd3 fun _ _ _ => rfl) fun F => q1g F T (G20.mono (by decide)) (G25.mono (by decide))
 have G27 : Has l.prog w K mg base 1 "_law_copy" ["_law_rows"] k1w := h27.has X G (fun _ _ _ _ _ _ => bd1 fun _ => rfl) fun F => k8v F T
 have G28 : Has l.prog w K mg base 1 "_law_side" ["_law_rows", "_law_seats_here", "_law_some"] j8j := h28.has X G (fun _ _ _ _ _ _ => bd3 fun _ _ _ => rfl) fun F => k4x F T
 have G29 : Has l.prog w K mg base 1 "_law_even" ["_law_rows", "_law_some"] k00 := h29.has X G (fun _ _ _ _ _ _ => bd2 fun _ _ => rfl) fun F => k8w F T
 have G30 : Has l.prog w K mg base 1 "_law_sum" ["_law_one", "_law_other_here"] k3g := h30.has X G (fun _ _ _ _ _ _ => bd2 fun _ _ => rfl) fun F => k8l F T
 have G31 : Has l.prog w K mg base 1 "_law_core" ["_law_rows", "_law_walker"] j8l := h31.has X G (fun _ _ _ _ _ _ => bd2 fun _ _ => rfl) fun F => k40 F T
 exact q1c F T (G18.mono (by decide)) (G19.mono (by decide)) (G26.mono (by decide)) (G27.mono (by decide)) (G21.mono (by decide)) (G28.mono (by decide)) (G29.mono (by decide)) (G30.mono (by decide)) (G31.mono (by decide)) (G15.mono (by decide)) (G17.mono (by decide))
theorem walk {l : PySem.W.OpenLaw} {q : Program} {loose : List Str} {XP : (Str → Option Value) → Heap → Prop} {YP : World → Heap → Prop} {d : DefRec} {K : Params → PySem.W.Frag} (hn : l.most = some 63) (hdf : d.params.defaults = [])
  (hY : ∀ (w : World) (h : Heap), YP w h → (K w.params).In h)
  (F : ∀ (w : World) (mg : Str → Option Value) (fa : Addr) (h : Heap), (K w.params).In h → h.Ns mainGlobals mg → mg d.name = some (.ref fa) →
   ∃ fd : FuncData, (∀ (s : Shared) (u : Value), BindsTo s fd ⟨[u], []⟩ [("_law_script", u)]) ∧ ∀ base : Heap, (K w.params).In base → base.Ns mainGlobals mg → FnOk l.prog w (K w.params) mg base CX0 6 fa fd ["_law_script"] (k4e (K w.params))) :
  PySem.W.WalkO q loose XP YP l.row.toRowW d [] (fun f vs => PySem.call f vs) :=
 L2.walk_of (n := 63) (k := 6) (x := "_law_script") (CX := fun _ => CX0) (sp := fun w => k4e (K w.params)) hn (by decide) hdf ⟨rfl, by decide, by decide⟩ hY F (fun _ _ a ns hl _ hS => ⟨a, ns, rfl, hS, hl, fun _ => rfl⟩) fun _ _ _ _ _ z => z
end D4
-- taken names: the head leaves its twins of these out, so that the compiled file stays small (NOTE.md)
namespace PySem.W.Fast
def tw15608899383417618774 : Unit := ()
def tw12718955226732561702 : Unit := ()
def tw4389336786009916429 : Unit := ()
def tw13925238225827209008 : Unit := ()
def tw9131976129342319560 : Unit := ()
def tw14049019808489812949 : Unit := ()
def tw1738862875257477773 : Unit := ()
def tw14799234048748173178 : Unit := ()
def tw13484123844204031145 : Unit := ()
def tw10477401597098099423 : Unit := ()
def tw6393846960642988088 : Unit := ()
def tw5062784245714425748 : Unit := ()
end PySem.W.Fast
open PySem PySem.W PyProof.Rows
set_option maxRecDepth 100000 in
set_option maxHeartbeats 0 in
theorem PySem.Challenge.cw_threewebs_k40_is_double_holds : PySem.Challenge.rw_threewebs_k40_is_double.Holds := by
 w_on; o_law; k_head; (case hw => w_witness2)
 k_fill
 refine D4.walk (l := PySem.Challenge.rw_threewebs_k40_is_double) rfl rfl (fun w h Y => PySem.W.kIn_of Y) ?F
 case F =>
  intro w mg fa h KX G hmg
  refine' D4.all_mk KX G hmg ?h1 ?h2 ?h3 ?h4 ?h5 ?h6 ?h7 ?h8 ?h9 ?h10 ?h11 ?h12 ?h13 ?h14 ?h15 ?h16 ?h17 ?h18 ?h19 ?h20 ?h21 ?h22 ?h23 ?h24 ?h25 ?h26 ?h27 ?h28 ?h29 ?h30 ?h31 ?h0  ?zz
  case h1 => refine' L2.df_mk ?a ?l ?c ?k; (case a => k_is); (case l => k_is); (case c => k_is); (case k => k_is)
  case h2 => refine' L2.df_mk ?a ?l ?c ?k; (case a => k_is); (case l => k_is); (case c => k_is); (case k => k_is)
  case h3 => refine' L2.df_mk ?a ?l ?c ?k; (case a => k_is); (case l => k_is); (case c => k_is); (case k => k_is)
  case h4 => refine' L2.df_mk ?a ?l ?c ?k; (case a => k_is); (case l => k_is); (case c => k_is); (case k => k_is)
  case h5 => refine' L2.df_mk ?a ?l ?c ?k; (case a => k_is); (case l => k_is); (case c => k_is); (case k => k_is)
  case h6 => refine' L2.df_mk ?a ?l ?c ?k; (case a => k_is); (case l => k_is); (case c => k_is); (case k => k_is)
  case h7 => refine' L2.df_mk ?a ?l ?c ?k; (case a => k_is); (case l => k_is); (case c => k_is); (case k => k_is)
  case h8 => refine' L2.df_mk ?a ?l ?c ?k; (case a => k_is); (case l => k_is); (case c => k_is); (case k => k_is)
  case h9 => refine' L2.df_mk ?a ?l ?c ?k; (case a => k_is); (case l => k_is); (case c => k_is); (case k => k_is)
  case h10 => refine' L2.df_mk ?a ?l ?c ?k; (case a => k_is); (case l => k_is); (case c => k_is); (case k => k_is)
  case h11 => refine' L2.df_mk ?a ?l ?c ?k; (case a => k_is); (case l => k_is); (case c => k_is); (case k => k_is)
  case h12 => refine' L2.df_mk ?a ?l ?c ?k; (case a => k_is); (case l => k_is); (case c => k_is); (case k => k_is)
  case h13 => refine' L2.df_mk ?a ?l ?c ?k; (case a => k_is); (case l => k_is); (case c => k_is); (case k => k_is)
  case h14 => refine' L2.df_mk ?a ?l ?c ?k; (case a => k_is); (case l => k_is); (case c => k_is); (case k => k_is)
  case h15 => refine' L2.df_mk ?a ?l ?c ?k; (case a => k_is); (case l => k_is); (case c => k_is); (case k => k_is)
  case h16 => refine' L2.df_mk ?a ?l ?c ?k; (case a => k_is); (case l => k_is); (case c => k_is); (case k => k_is)
  case h17 => refine' L2.df_mk ?a ?l ?c ?k; (case a => k_is); (case l => k_is); (case c => k_is); (case k => k_is)
  case h18 => refine' L2.df_mk ?a ?l ?c ?k; (case a => k_is); (case l => k_is); (case c => k_is); (case k => k_is)
  case h19 => refine' L2.df_mk ?a ?l ?c ?k; (case a => k_is); (case l => k_is); (case c => k_is); (case k => k_is)
  case h20 => refine' L2.df_mk ?a ?l ?c ?k; (case a => k_is); (case l => k_is); (case c => k_is); (case k => k_is)
  case h21 => refine' L2.df_mk ?a ?l ?c ?k; (case a => k_is); (case l => k_is); (case c => k_is); (case k => k_is)
  case h22 => refine' L2.df_mk ?a ?l ?c ?k; (case a => k_is); (case l => k_is); (case c => k_is); (case k => k_is)
  case h23 => refine' L2.df_mk ?a ?l ?c ?k; (case a => k_is); (case l => k_is); (case c => k_is); (case k => k_is)
  case h24 => refine' L2.df_mk ?a ?l ?c ?k; (case a => k_is); (case l => k_is); (case c => k_is); (case k => k_is)
  case h25 => refine' L2.df_mk ?a ?l ?c ?k; (case a => k_is); (case l => k_is); (case c => k_is); (case k => k_is)
  case h26 => refine' L2.df_mk ?a ?l ?c ?k; (case a => k_is); (case l => k_is); (case c => k_is); (case k => k_is)
  case h27 => refine' L2.df_mk ?a ?l ?c ?k; (case a => k_is); (case l => k_is); (case c => k_is); (case k => k_is)
  case h28 => refine' L2.df_mk ?a ?l ?c ?k; (case a => k_is); (case l => k_is); (case c => k_is); (case k => k_is)
  case h29 => refine' L2.df_mk ?a ?l ?c ?k; (case a => k_is); (case l => k_is); (case c => k_is); (case k => k_is)
  case h30 => refine' L2.df_mk ?a ?l ?c ?k; (case a => k_is); (case l => k_is); (case c => k_is); (case k => k_is)
  case h31 => refine' L2.df_mk ?a ?l ?c ?k; (case a => k_is); (case l => k_is); (case c => k_is); (case k => k_is)
  case h0 => refine' L2.df_mk ?a ?l ?c ?k; (case a => k_is); (case l => k_is); (case c => k_is); (case k => k_is)
  case zz =>
   refine' List.forall_mem_cons.mpr ⟨?_, ?_⟩; k_is
   refine' List.forall_mem_cons.mpr ⟨?_, ?_⟩; k_is
   refine' List.forall_mem_cons.mpr ⟨?_, ?_⟩; k_is
   refine' List.forall_mem_cons.mpr ⟨?_, ?_⟩; k_is
   refine' List.forall_mem_cons.mpr ⟨?_, ?_⟩; k_is
   refine' List.forall_mem_cons.mpr ⟨?_, ?_⟩; k_is
   refine' List.forall_mem_cons.mpr ⟨?_, ?_⟩; k_is
   refine' List.forall_mem_cons.mpr ⟨?_, ?_⟩; k_is
   refine' List.forall_mem_cons.mpr ⟨?_, ?_⟩; k_is
   refine' List.forall_mem_cons.mpr ⟨?_, ?_⟩; k_is
   refine' List.forall_mem_cons.mpr ⟨?_, ?_⟩; k_is
   refine' List.forall_mem_cons.mpr ⟨?_, ?_⟩; k_is
   refine' List.forall_mem_cons.mpr ⟨?_, ?_⟩; k_is
   refine' List.forall_mem_cons.mpr ⟨?_, ?_⟩; k_is
   refine' List.forall_mem_cons.mpr ⟨?_, ?_⟩; k_is
   exact fun x hx => nomatch hx

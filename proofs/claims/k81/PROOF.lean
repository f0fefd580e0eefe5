import PyProof.Rows.All
import Wide.All
import OpenK.AllK
import Wide.FinOn
import Lean
import PyProof.EqAt
import PyProof.EqKinds
import PyProof.TupleCall
import KE.KDictLaws
import KE.KDictList
import KE.KDictSum
import KE.KIsAll
import KE.KSortTup
import KE.KUnpack
import KE.KUnpackStar
import PyProof.AttrMissSeq
import PyProof.CallStr
import PyProof.Conv_int_bool
import PyProof.DictItems
import PyProof.DictIter
import PyProof.DictList
import PyProof.EnumFor
import PyProof.EnumMake
import PyProof.EnumStmt
import PyProof.ExcArgsOwn
import PyProof.ExcAttrAll.ValueError
import PyProof.ExcBaseAll.ValueError
import PyProof.NeKinds
import PyProof.NsDelKeeps
import PyProof.Rows.CatchOwn
import PyProof.Rows.CountFlat
import PyProof.Rows.EnumRows
import PyProof.Rows.FStr
import PyProof.Rows.SortRev
import PyProof.Rows.StrNews2
import PyProof.Rows.StrSplitJoin
import PyProof.Rows.StrWeight2
import PyProof.Rows.TupDisplay
import PyProof.RulesTry
import PyProof.SetNew
import PyProof.SetRoads
import PyProof.StationsW
import PyProof.StrBlockI
import PyProof.TupleKey
import PyProof.WalkInts
import PyProof.ZipIter
import PySem.Challenge.RW_threewebs_k81_texts_judged
set_option Elab.async false
set_option linter.all false
set_option maxRecDepth 100000
namespace L2
open PySem PySem.Spec PyProof.Rows
noncomputable abbrev Key := Sum Int Str
noncomputable def keyIs : Key → Value → Bool
  | .inl k, v => Value.isInt k v
  | .inr x, v => Value.isStrOf x v
noncomputable def keyH (w : World) : Key → Int
  | .inl k => hashInt k
  | .inr x => hashStr w x
theorem keyIs_shape : ∀ {k : Key} {v : Value}, keyIs k v = true → (∃ i t, k = Sum.inl i ∧ v = Value.int i t) ∨ (∃ x t, k = Sum.inr x ∧ v = Value.str x t)
  | .inl i, v, h => by
    obtain ⟨t, e⟩ := Value.isInt_shape (k := i) (v := v) h
    exact .inl ⟨i, t, rfl, e⟩
  | .inr x, v, h => by
    obtain ⟨t, e⟩ := Value.isStrOf_shape (x := x) (v := v) h
    exact .inr ⟨x, t, rfl, e⟩
theorem key_ll (a b : Int) : decide ((Sum.inl a : Key) = Sum.inl b) = (a == b) := by
  by_cases e : a = b
  · subst e; simp
  · have h : ¬ (Sum.inl a : Key) = Sum.inl b := fun q => e (Sum.inl.inj q)
    rw [decide_eq_false h]
    exact (beq_eq_false_iff_ne.mpr e).symm
theorem key_rr (a b : Str) : decide ((Sum.inr a : Key) = Sum.inr b) = decide (a = b) := by
  by_cases e : a = b
  · subst e; simp
  · have h : ¬ (Sum.inr a : Key) = Sum.inr b := fun q => e (Sum.inr.inj q)
    rw [decide_eq_false h, decide_eq_false e]
theorem key_lr (a : Int) (b : Str) : decide ((Sum.inl a : Key) = Sum.inr b) = false := decide_eq_false (fun q => nomatch q)
theorem key_rl (a : Str) (b : Int) : decide ((Sum.inr a : Key) = Sum.inl b) = false := decide_eq_false (fun q => nomatch q)
noncomputable def mixKind (prog : Program) (w : World) : PySem.KeyKind prog w Key where
  is := keyIs
  hash := keyH w
  inj := fun v a b ha hb => by
    rcases keyIs_shape ha with ⟨i, t, rfl, rfl⟩ | ⟨x, t, rfl, rfl⟩
    · rcases keyIs_shape hb with ⟨j, u, rfl, e⟩ | ⟨y, u, rfl, e⟩
      · injection e with e1 _; rw [e1]
      · exact nomatch e
    · rcases keyIs_shape hb with ⟨j, u, rfl, e⟩ | ⟨y, u, rfl, e⟩
      · exact nomatch e
      · injection e with e1 _; rw [e1]
  byValue := fun k v h => by
    rcases keyIs_shape h with ⟨i, t, rfl, rfl⟩ | ⟨x, t, rfl, rfl⟩ <;> rfl
  pyHash := fun hv h => by
    rcases keyIs_shape hv with ⟨i, t, rfl, rfl⟩ | ⟨x, t, rfl, rfl⟩
    · exact wpAny_pyHash_int h
    · exact wpAny_pyHash_str h
  eqBool := fun hu hv h => by
    rcases keyIs_shape hu with ⟨i, t, rfl, rfl⟩ | ⟨x, t, rfl, rfl⟩
    · rcases keyIs_shape hv with ⟨j, u, rfl, rfl⟩ | ⟨y, u, rfl, rfl⟩
      · rw [key_ll] at h; exact wpAny_eqBool_int h
      · rw [key_lr] at h; exact SeqAt.EqAt.int_str i t y u _ _ _ _ h
    · rcases keyIs_shape hv with ⟨j, u, rfl, rfl⟩ | ⟨y, u, rfl, rfl⟩
      · rw [key_rl] at h; exact SeqAt.EqAt.str_int x t j u _ _ _ _ h
      · rw [key_rr] at h; exact wpAny_eqBool_str h
  «strs» := fun k x t v h => by
    rcases keyIs_shape h with ⟨i, u, rfl, e⟩ | ⟨y, u, rfl, e⟩
    · exact nomatch e
    · injection e with e1 _
      subst e1
      cases v <;> rfl
end L2
namespace L2
open PySem PySem.Spec PyProof.Rows
inductive V where
  | non | bl (b : Bool) | int (i : Int) | str (x : Str) | byt (b : Array UInt8) | flt (b : UInt64) | ref (a : Addr) | ty (n : String)
  deriving DecidableEq
noncomputable def RelV : V → Value → Prop
  | .non, u => u = Value.none
  | .bl b, u => u = Value.bool b
  | .int i, u => ∃ t, u = Value.int i t
  | .str x, u => ∃ t, u = Value.str x t
  | .byt b, u => ∃ t, u = Value.bytes b t
  | .flt b, u => ∃ t, u = Value.float b t
  | .ref a, u => u = Value.ref a
  | .ty n, u => u = Value.type n
noncomputable abbrev Vals : List V → List Value → Prop := Paired RelV
theorem Vals.length {xs : List V} {us : List Value} (r : Vals xs us) : xs.length = us.length := Paired.length r
theorem Vals.get : ∀ {xs : List V} {us : List Value} {i : Nat} {x : V}, Vals xs us → xs[i]? = some x → ∃ u, us[i]? = some u ∧ RelV x u
  | _, _, _, _, .nil, e => by simp at e
  | _, _, 0, _, .cons r _, e => by simp at e; subst e; exact ⟨_, rfl, r⟩
  | _, _, i + 1, x, .cons _ t, e => by
    obtain ⟨u, h1, h2⟩ := Vals.get (i := i) (x := x) t (by simpa using e)
    exact ⟨u, by simpa using h1, h2⟩
theorem Vals.set {x : V} {u : Value} (r : RelV x u) : ∀ {xs : List V} {us : List Value} (i : Nat), Vals xs us → Vals (xs.set i x) (us.set i u)
  | _, _, _, .nil => .nil
  | _, _, 0, .cons _ t => .cons r t
  | _, _, i + 1, .cons q t => .cons q (Vals.set r i t)
theorem Vals.append : ∀ {xs ys : List V} {us ws : List Value}, Vals xs us → Vals ys ws → Vals (xs ++ ys) (us ++ ws)
  | _, _, _, _, .nil, s => s
  | _, _, _, _, .cons r t, s => .cons r (Vals.append t s)
theorem Vals.take : ∀ {xs : List V} {us : List Value} (n : Nat), Vals xs us → Vals (xs.take n) (us.take n)
  | _, _, 0, _ => .nil
  | _, _, _ + 1, .nil => .nil
  | _, _, n + 1, .cons r t => .cons r (Vals.take n t)
theorem Vals.drop : ∀ {xs : List V} {us : List Value} (n : Nat), Vals xs us → Vals (xs.drop n) (us.drop n)
  | _, _, 0, r => r
  | _, _, _ + 1, .nil => .nil
  | _, _, n + 1, .cons _ t => Vals.drop n t
noncomputable def RelO : Option V → Option Value → Prop
  | some v, some u => RelV v u
  | none, none => True
  | _, _ => False
noncomputable def KV {κ : Type} : List (κ × V) → List (κ × Value) → Prop := Paired fun (p : κ × V) (q : κ × Value) => p.1 = q.1 ∧ RelV p.2 q.2
noncomputable def kV : Key → V
  | .inl i => .int i
  | .inr x => .str x
inductive HO where
  | lst (xs : List V)
  | tup (xs : List V)
  | dK (kvs : List (Key × V)) | dT (kvs : List (List Key × V))
  | set (S : Int → Bool) (n : Nat)
  | ins (C dx : Addr) (fs : List (Str × V))
  | own (x : Addr)
  | xd (fs : List (Str × V))
  | met (f x : Addr)
  | rng (lo hi : Int)
  | frz (o : Obj) (u : HO)
  | tbl (ps : Array Value)
  | ext (φ : Heap → Prop)
noncomputable abbrev Hp := Addr → Option HO
noncomputable def upd (H : Hp) (a : Addr) (o : HO) : Hp := fun b => if b = a then some o else H b
theorem upd_same {H : Hp} {a : Addr} {o : HO} : upd H a o a = some o := by unfold upd; rw [if_pos rfl]
theorem upd_ne {H : Hp} {a b : Addr} {o : HO} (h : b ≠ a) : upd H a o b = H b := by unfold upd; rw [if_neg h]
theorem upd_upd {H : Hp} {a : Addr} {o u : HO} : upd (upd H a o) a u = upd H a u := by
  funext b; unfold upd; split <;> rfl
theorem ne_of {H : Hp} {a b : Addr} {o u : HO} (h : H a = some o) (h' : H b = some u) (d : o ≠ u) : a ≠ b := by
  intro e; subst e; rw [h] at h'; exact d (Option.some.inj h')
theorem ne_of_none {H : Hp} {a b : Addr} {o : HO} (h : H a = some o) (h' : H b = none) : a ≠ b := by
  intro e; subst e; rw [h] at h'; cases h'
section
variable (P : Program) (w : World)
noncomputable def ObjOk (H : Hp) (h : Heap) (a : Addr) : HO → Prop
  | .lst xs => xs.length ≤ sizeLine ∧ ∃ (its : List Value) (n : Nat), Vals xs its ∧ h.get? a = some { cls := .type "list", data := .seq its.toArray n }
  | .tup xs => xs.length ≤ sizeLine ∧ ∃ its : List Value, Vals xs its ∧ IsTup h a its.toArray
  | .dK kvs => kvs.length ≤ sizeLine ∧ (a == sysModules) = false ∧ ∃ vs, KV kvs vs ∧ h.DictOf (mixKind P w) a vs
  | .dT kvs => kvs.length ≤ sizeLine ∧ (a == sysModules) = false ∧ ∃ xs : List (List Key × Addr × Value),
      Paired (fun (p : List Key × V) (q : List Key × Addr × Value) => p.1 = q.1 ∧ H q.2.1 = some (.tup (p.1.map kV)) ∧ RelV p.2 q.2.2) kvs xs ∧
      ∃ o es ep, h.get? a = some o ∧ o.ExactDict ∧ o.data = .dict es ep ∧ es.toList = xs.map (entryOfKey (tupleKind (mixKind P w))) ∧ (xs.map (·.1)).Nodup
  | .set S n => h.SetOf (intKind P w) a S n
  | .ins C dx fs => H dx = some (.own a) ∧ fs.length ≤ 1000 ∧ dx ≠ a ∧ h.get? a = some (PySem.W.instObj C dx) ∧
      ∃ mA, h.Ns1 dx mA ∧ (∀ f, RelO (fs.lookup f) (mA f)) ∧ PySem.Within mA (fs.map (·.1))
  | .own _ => ∃ o, h.get? a = some o
  | .xd fs => ∃ mA, h.Ns1 a mA ∧ ∀ f, RelO (fs.lookup f) (mA f)
  | .rng lo hi => ∃ t u v, h.get? a = some { cls := .type "range", data := .fields #[.int lo t, .int hi u, .int 1 v] }
  | .frz o u => h.get? a = some o ∧ ObjOk H h a u
  | .tbl ps => h.get? a = some { cls := .none, data := .fields ps }
  | .met f x => h.get? a = some (PySem.W.methodObj (.ref f) (.ref x))
  | .ext φ => φ h ∧ (∃ o, h.get? a = some o) ∧ ∀ h1 h2 : Heap, φ h1 → (∀ o, h1.get? a = some o → h2.get? a = some o) → φ h2
noncomputable def HOk (H : Hp) (h : Heap) : Prop := ∀ a o, H a = some o → ObjOk P w H h a o
end
section
variable {P : Program} {w : World} {H H' : Hp} {h h' : Heap} {a : Addr} {o : HO}
theorem ObjOk.lt (x : ObjOk P w H h a o) : a < h.objs.size := by
  cases o with
  | lst xs => obtain ⟨_, _, _, _, e⟩ := x; exact Heap.lt_size e
  | tup xs => obtain ⟨_, _, _, p⟩ := x; exact p.lt
  | dK kvs => obtain ⟨_, _, _, _, o, _, _, e, _⟩ := x; exact Heap.lt_size e
  | dT kvs => obtain ⟨_, _, _, _, o, _, _, e, _⟩ := x; exact Heap.lt_size e
  | set S n => obtain ⟨o, _, _, _, e, _⟩ := x; exact Heap.lt_size e
  | ins C dx fs => obtain ⟨_, _, _, e, _⟩ := x; exact Heap.lt_size e
  | own y => obtain ⟨_, e⟩ := x; exact Heap.lt_size e
  | xd fs => obtain ⟨_, ⟨_, _, _, e, _⟩, _⟩ := x; exact Heap.lt_size e
  | rng lo hi => obtain ⟨_, _, _, e⟩ := x; exact Heap.lt_size e
  | frz ob u => obtain ⟨e, _⟩ := x; exact Heap.lt_size e
  | tbl ps => exact Heap.lt_size (show h.get? a = some _ from x)
  | met f y => exact Heap.lt_size (show h.get? a = some _ from x)
  | ext φ => obtain ⟨_, ⟨_, e⟩, _⟩ := x; exact Heap.lt_size e
theorem Paired.mapP {α β : Type} {F G : α → β → Prop} : ∀ {l₁ : List α} {l₂ : List β}, Paired F l₁ l₂ → (∀ a b, F a b → G a b) → Paired G l₁ l₂
  | _, _, .nil, _ => .nil
  | _, _, .cons r t, f => .cons (f _ _ r) (Paired.mapP t f)
theorem ObjOk.stay (x : ObjOk P w H h a o) (k : ∀ b u, (b = a ∨ H b = some (.own a)) → h.get? b = some u → h'.get? b = some u)
    (ho : ∀ b, H b = some (.own a) → H' b = some (.own a)) (ht : ∀ b xs, H b = some (.tup xs) → H' b = some (.tup xs)) : ObjOk P w H' h' a o := by
  induction o with
  | lst xs => obtain ⟨z, its, n, r, e⟩ := x; exact ⟨z, its, n, r, k _ _ (.inl rfl) e⟩
  | tup xs => obtain ⟨z, its, r, ob, e, c⟩ := x; exact ⟨z, its, r, ob, k _ _ (.inl rfl) e, c⟩
  | dK kvs => obtain ⟨z, y, vs, r, ob, es, ep, e, c⟩ := x; exact ⟨z, y, vs, r, ob, es, ep, k _ _ (.inl rfl) e, c⟩
  | dT kvs =>
    obtain ⟨z, y, xs, r, ob, es, ep, e, c⟩ := x
    exact ⟨z, y, xs, Paired.mapP r fun p q z => ⟨z.1, ht _ _ z.2.1, z.2.2⟩, ob, es, ep, k _ _ (.inl rfl) e, c⟩
  | set S n => obtain ⟨ob, es, ep, t, e, c⟩ := x; exact ⟨ob, es, ep, t, k _ _ (.inl rfl) e, c⟩
  | ins C dx fs =>
    obtain ⟨d, z, ne, e, mA, ⟨od, es, ep, e2, c⟩, r⟩ := x
    exact ⟨ho _ d, z, ne, k _ _ (.inl rfl) e, mA, ⟨od, es, ep, k _ _ (.inr d) e2, c⟩, r⟩
  | own y => obtain ⟨ob, e⟩ := x; exact ⟨ob, k _ _ (.inl rfl) e⟩
  | xd fs => obtain ⟨mA, ⟨od, es, ep, e, c⟩, r⟩ := x; exact ⟨mA, ⟨od, es, ep, k _ _ (.inl rfl) e, c⟩, r⟩
  | rng lo hi => obtain ⟨t, u, v, e⟩ := x; exact ⟨t, u, v, k _ _ (.inl rfl) e⟩
  | frz ob u ih => obtain ⟨e, q⟩ := x; exact ⟨k _ _ (.inl rfl) e, ih q⟩
  | tbl ps =>
    have e : h.get? a = some { cls := .none, data := .fields ps } := x
    show h'.get? a = some { cls := .none, data := .fields ps }
    exact k a _ (.inl rfl) e
  | met f y =>
    have e : h.get? a = some (PySem.W.methodObj (.ref f) (.ref y)) := x
    show h'.get? a = some (PySem.W.methodObj (.ref f) (.ref y))
    exact k a _ (.inl rfl) e
  | ext φ => obtain ⟨p, ⟨o, e⟩, st⟩ := x; exact ⟨st _ _ p fun o q => k _ _ (.inl rfl) q, ⟨o, k _ _ (.inl rfl) e⟩, st⟩
theorem HOk.lt (x : HOk P w H h) (e : H a = some o) : a < h.objs.size := (x a o e).lt
theorem HOk.fresh (x : HOk P w H h) (e : h.objs.size ≤ a) : H a = none := by
  cases q : H a with
  | none => rfl
  | some u => exact absurd (Nat.lt_of_lt_of_le (x.lt q) e) (Nat.lt_irrefl _)
theorem HOk.kept (x : HOk P w H h) (k : ∀ b u, h.get? b = some u → h'.get? b = some u) : HOk P w H h' := fun a o e =>
  (x a o e).stay (fun b u _ q => k b u q) (fun _ q => q) fun _ _ q => q
theorem HOk.laid (x : HOk P w H h) (k : ∀ b u, h.get? b = some u → h'.get? b = some u) (hp : h.objs.size ≤ a) (new : ObjOk P w (upd H a o) h' a o) : HOk P w (upd H a o) h' := fun b u e => by
  have hn := x.fresh hp
  by_cases hb : b = a
  · subst hb; rw [upd_same] at e; cases e; exact new
  · rw [upd_ne hb] at e
    exact (x b u e).stay (fun c v _ q => k c v q) (fun c q => by rw [upd_ne (ne_of_none q hn)]; exact q) fun c xs q => by rw [upd_ne (ne_of_none q hn)]; exact q
end
noncomputable def Rd (H : Hp) (a : Addr) (u : HO) : Prop := H a = some u ∨ ∃ o, H a = some (.frz o u)
theorem Rd.ok {P : Program} {w : World} {H : Hp} {h : Heap} {a : Addr} {u : HO} (r : Rd H a u) (x : HOk P w H h) : ObjOk P w H h a u := by
  rcases r with r | ⟨o, r⟩
  · exact x a u r
  · obtain ⟨_, q⟩ := x a _ r
    exact q
noncomputable def Mut : Option HO → Prop
  | some (.lst _) => True
  | some (.dK _) => True
  | some (.dT _) => True
  | some (.set _ _) => True
  | some (.ins _ _ _) => True
  | some (.ext _) => True
  | _ => False
section
variable {P : Program} {w : World} {H : Hp} {h h' : Heap} {x e : Addr} {o' : HO}
theorem HOk.write (ok : HOk P w H h) (mu : Mut (H x)) (he : e = x ∨ H e = some (.own x)) (k : ∀ b u, b ≠ e → h.get? b = some u → h'.get? b = some u) (heo : ∃ u, h'.get? e = some u)
    (new : ObjOk P w (upd H x o') h' x o') : HOk P w (upd H x o') h' := fun b u q => by
  have nown : ∀ c y, H c = some (.own y) → c ≠ x := fun c y r z => by subst z; rw [r] at mu; exact mu
  have ntup : ∀ c xs, H c = some (.tup xs) → c ≠ x := fun c xs r z => by subst z; rw [r] at mu; exact mu
  by_cases hb : b = x
  · subst hb; rw [upd_same] at q; cases q; exact new
  · rw [upd_ne hb] at q
    by_cases hbe : b = e
    · have q' : H b = some (.own x) := by
        rcases he with z | z
        · exact absurd (hbe.trans z) hb
        · rw [hbe]; exact z
      rw [q] at q'; cases q'
      obtain ⟨v, hv⟩ := heo
      exact ⟨v, by rw [hbe]; exact hv⟩
    · refine (ok b u q).stay (fun c v hc r => k c v ?_ r) (fun c r => by rw [upd_ne (nown c b r)]; exact r) fun c xs r => by rw [upd_ne (ntup c xs r)]; exact r
      rcases hc with rfl | hc
      · exact hbe
      · rintro rfl
        rcases he with z | z
        · exact nown c b hc z
        · rw [hc] at z; cases z; exact hb rfl
end
structure Un (fs ex : List Addr) (H H' : Hp) (h h' : Heap) : Prop where
  keep : ∀ b o, h.get? b = some o → H b = none → b ∉ fs → b ∉ ex → h'.get? b = some o
  slot : ∀ b o, h.get? b = some o → H b = none → b ∈ fs → b ∉ ex → ∃ sl, h'.get? b = some { o with slots := sl }
  free : ∀ b o, h.get? b = some o → H b = none → b ∉ ex → H' b = none
  there : ∀ b o, h.get? b = some o → b ∉ ex → ∃ o', h'.get? b = some o'
  tups : ∀ b xs, H b = some (.tup xs) → H' b = some (.tup xs)
  frzs : ∀ b o u, H b = some (.frz o u) → H' b = some (.frz o u)
  tbls : ∀ b ps, H b = some (.tbl ps) → ∃ more, H' b = some (.tbl (ps ++ more))
section
variable {fs fs' ex ex' : List Addr} {H H1 H2 : Hp} {h h1 h2 h' : Heap} {a x e : Addr} {o : HO}
theorem Un.any (u : Un fs ex H H1 h h1) {b : Addr} {ob : Obj} (q : h.get? b = some ob) (n : H b = none) (hx : b ∉ ex) : ∃ sl, h1.get? b = some { ob with slots := sl } := by
  by_cases hb : b ∈ fs
  · exact u.slot b ob q n hb hx
  · exact ⟨ob.slots, u.keep b ob q n hb hx⟩
theorem Un.kept (k : ∀ b u, h.get? b = some u → h'.get? b = some u) : Un fs ex H H h h' :=
  ⟨fun b ob q _ _ _ => k b ob q, fun b ob q _ _ _ => ⟨ob.slots, k b ob q⟩, fun _ _ _ n _ => n, fun b ob q _ => ⟨ob, k b ob q⟩, fun _ _ q => q, fun _ _ _ q => q, fun _ ps q => ⟨#[], by rw [q]; simp⟩⟩
theorem Un.refl : Un fs ex H H h h := Un.kept fun _ _ q => q
theorem Un.laid (k : ∀ b u, h.get? b = some u → h'.get? b = some u) (hp : h.objs.size ≤ a) (hn : H a = none) : Un fs ex H (upd H a o) h h' where
  keep := fun b u q _ _ _ => k b u q
  slot := fun b u q _ _ _ => ⟨u.slots, k b u q⟩
  free := fun b u q n _ => by rw [upd_ne (Nat.ne_of_lt (Nat.lt_of_lt_of_le (Heap.lt_size q) hp))]; exact n
  there := fun b u q _ => ⟨u, k b u q⟩
  tups := fun b xs q => by rw [upd_ne (ne_of_none q hn)]; exact q
  frzs := fun b u xs q => by rw [upd_ne (ne_of_none q hn)]; exact q
  tbls := fun b ps q => ⟨#[], by rw [upd_ne (ne_of_none q hn), q]; simp⟩
theorem Un.write (mu : Mut (H x)) (he : e = x ∨ H e = some (.own x)) (k : ∀ b u, b ≠ e → h.get? b = some u → h'.get? b = some u) (heo : ∃ u, h'.get? e = some u) : Un fs ex H (upd H x o) h h' := by
  have hx : ∀ b, H b = none → b ≠ x := fun b n z => by subst z; rw [n] at mu; exact mu
  have hb : ∀ b, H b = none → b ≠ e := fun b n z => by
    subst z
    rcases he with r | r
    · exact hx b n r
    · rw [n] at r; cases r
  have hm : ∀ b u, H b = some u → ¬ Mut (some u) → b ≠ x := fun b u q nm z => by subst z; rw [q] at mu; exact nm mu
  refine ⟨fun b u q n _ _ => k b u (hb b n) q, fun b u q n _ _ => ⟨u.slots, k b u (hb b n) q⟩, fun b u q n _ => by rw [upd_ne (hx b n)]; exact n, fun b u q _ => ?_,
    fun b xs q => by rw [upd_ne (hm b _ q fun z => z)]; exact q, fun b u xs q => by rw [upd_ne (hm b _ q fun z => z)]; exact q, fun b ps q => ⟨#[], by rw [upd_ne (hm b _ q fun z => z), q]; simp⟩⟩
  by_cases hbe : b = e
  · subst hbe; exact heo
  · exact ⟨u, k b u hbe q⟩
end
noncomputable def trk (h : Heap) (H : Hp) : List Addr := (List.range h.objs.size).filter fun a => (H a).isSome
noncomputable def hidT (h : Heap) (H : Hp) : Heap := PySem.W.hideAll h (trk h H)
theorem hidT_size (h : Heap) (H : Hp) : (hidT h H).objs.size = h.objs.size := PySem.W.hideAll_size _ _
theorem hidT_get {h : Heap} {H : Hp} {b : Addr} {o : Obj} (e : h.get? b = some o) (n : H b = none) : (hidT h H).get? b = some o :=
  PySem.W.hideAll_get _ e fun hm => by
    have q : (H b).isSome = true := (List.mem_filter.mp hm).2
    rw [n] at q; simp at q
theorem of_hidT {h : Heap} {H : Hp} {b : Addr} {o : Obj} (e : (hidT h H).get? b = some o) : h.get? b = some o ∧ H b = none := by
  have e' : h.get? b = some o := PySem.W.of_hideAll (trk h H) e
  refine ⟨e', ?_⟩
  cases q : H b with
  | none => rfl
  | some x =>
    have hm : b ∈ trk h H := List.mem_filter.mpr ⟨List.mem_range.mpr (Heap.lt_size e'), by simp [q]⟩
    have z : (hidT h H).get? b = none := PySem.W.hideAll_none (trk h H) hm
    rw [z] at e; cases e
end L2
namespace L2
open PySem PySem.Spec PyProof.Rows
structure Mod (K : PySem.W.Frag) (mg : Str → Option Value) (base : Heap) : Prop where
  kin : K.In base
  glob : base.Ns mainGlobals mg
  blt : ∃ mb, base.Ns builtinsNs mb ∧ ∀ x : Str, x ≠ "__name__" → mb x = bootBuiltins x
  nolimit : base.NoLimit
structure Cx where
  prog : Program
  w : World
  K : PySem.W.Frag
  mg : Str → Option Value
  base : Heap
  A : Around
  N : List Str
  s₀ : Shared
  H₀ : Hp
  env : Env
  outer : List Env
  stack : List Env
  ex : List Addr
  fn : Str → Bool
  calm : Bool
  pn : List (Addr × Obj)
  xe : Value → Shared → Prop
noncomputable def frs (l : List Env) : List Addr := l.filterMap (·.frame)
noncomputable abbrev Cx.fs (X : Cx) : List Addr := frs X.outer
noncomputable def Vis (sc : Scope) (x : Str) : Prop := sc.names.lookup x = some .local ∨ sc.names.lookup x = some .cell ∨ sc.names.lookup x = some .free
noncomputable def Loc (sc : Scope) (x : Str) : Prop := sc.names.lookup x = some .local ∨ sc.names.lookup x = some .cell
noncomputable def Look (env : Env) (h : Heap) (m : Str → Option Value) (x : Str) (u : Value) : Prop :=
  (env.kindOf x = some .local ∧ m x = some u) ∨ ((env.kindOf x = some .cell ∨ env.kindOf x = some .free) ∧ ∃ c, env.cells.lookup x = some c ∧ h.IsCell c (some u))
structure Cx.Ok (X : Cx) : Prop where
  mod : Mod X.K X.mg X.base
  kind : X.env.scope.kind = .function
  glob : X.env.globals = mainGlobals
  blt : X.env.builtins = builtinsNs
  above : X.s₀.heap.objs.size ≤ X.env.locals
  inj : ∀ x y c, X.env.cells.lookup x = some c → X.env.cells.lookup y = some c → x = y
  has : ∀ x, (X.env.kindOf x = some .cell ∨ X.env.kindOf x = some .free) → ∃ c, X.env.cells.lookup x = some c
  cab : ∀ x c, X.fn x = true → X.env.cells.lookup x = some c → X.s₀.heap.objs.size ≤ c
  hd : X.calm = true → X.A.handled = none
  frames : X.A.frames = some X.stack
  stk : X.stack = X.outer ∨ (X.stack = X.env :: X.outer ∧ X.env.frame = some X.env.locals)
  exf : ∀ b ∈ X.ex, b ≠ X.env.locals ∧ ∀ x c, X.env.cells.lookup x = some c → c ≠ b
  bs : ∀ b o, X.base.get? b = some o → X.s₀.heap.get? b = some o ∧ X.H₀ b = none
  bsz : X.base.objs.size ≤ X.s₀.heap.objs.size
  noex : ∀ b o, X.base.get? b = some o → b ∉ X.ex
  exfs : ∀ b ∈ X.ex, b ∉ X.fs
  funs : X.s₀.heap.FunFrames X.base X.outer
  frf : ∀ b ∈ X.fs, X.H₀ b = none
structure Inv (X : Cx) (pins : List (Addr × Obj)) (σ : List (Option V)) (H : Hp) (s : Shared) : Prop where
  ok : X.Ok
  os : s.os = X.s₀.os
  bare : AllBare s.gens
  base : Un X.fs X.ex X.H₀ H X.s₀.heap s.heap
  loc : ∃ m, s.heap.Ns X.env.locals m ∧ ∀ (i : Nat) (x : Str) (v : V), X.N[i]? = some x → σ[i]? = some (some v) → Vis X.env.scope x → ∃ u, RelV v u ∧ Look X.env s.heap m x u
  cell : ∀ x c, X.env.cells.lookup x = some c → ∃ v, s.heap.IsCell c v
  free : H X.env.locals = none
  freeC : ∀ x c, X.env.cells.lookup x = some c → H c = none
  pin : ∀ p ∈ X.pn ++ pins, s.heap.get? p.1 = some p.2 ∧ H p.1 = none ∧ p.1 ≠ X.env.locals ∧ p.1 ∉ X.fs ∧ ∀ v, p.2.data ≠ .cell v
  hok : HOk X.prog X.w H s.heap
  len : σ.length = X.N.length
section
variable {X : Cx} {pins : List (Addr × Obj)} {σ : List (Option V)} {H H' : Hp} {s : Shared} {h' : Heap}
theorem Cx.Ok.nofr (ok : X.Ok) {b : Addr} {o : Obj} (e : X.base.get? b = some o) : b ∉ X.fs := fun hb => by
  have := (ok.funs.mem hb).1
  rw [e] at this; cases this
theorem Inv.bs (I : Inv X pins σ H s) : ∀ b o, X.base.get? b = some o → s.heap.get? b = some o ∧ H b = none := fun b o e =>
  ⟨I.base.keep b o (I.ok.bs b o e).1 (I.ok.bs b o e).2 (I.ok.nofr e) (I.ok.noex b o e), I.base.free b o (I.ok.bs b o e).1 (I.ok.bs b o e).2 (I.ok.noex b o e)⟩
theorem Inv.bk (I : Inv X pins σ H s) : ∀ b o, X.base.get? b = some o → s.heap.get? b = some o := fun b o e => (I.bs b o e).1
theorem Inv.mod (I : Inv X pins σ H s) : Mod X.K X.mg X.base := I.ok.mod
theorem Inv.kIn (I : Inv X pins σ H s) : X.K.In s.heap := I.ok.mod.kin.keeps I.bk
theorem Inv.lt (I : Inv X pins σ H s) : X.env.locals < s.heap.objs.size := let ⟨_, hn, _⟩ := I.loc; hn.lt
theorem Inv.sz (I : Inv X pins σ H s) : X.s₀.heap.objs.size ≤ s.heap.objs.size := Nat.le_trans I.ok.above (Nat.le_of_lt I.lt)
theorem Inv.nofs (I : Inv X pins σ H s) {a : Addr} (h : s.heap.objs.size ≤ a) : a ∉ X.fs := fun hb => by
  obtain ⟨_, o, ho, _⟩ := I.ok.funs.mem hb
  exact absurd (Nat.lt_of_lt_of_le (Heap.lt_size ho) (Nat.le_trans I.sz h)) (Nat.lt_irrefl _)
theorem Inv.cne (I : Inv X pins σ H s) : ∀ x c, X.env.cells.lookup x = some c → c ≠ X.env.locals := fun x c e z => by
  obtain ⟨v, o, ho, hd⟩ := I.cell x c e
  obtain ⟨m, ⟨o', es, ep, ho', hd', _⟩, _⟩ := I.loc
  rw [z, ho'] at ho; cases ho; rw [hd'] at hd; cases hd
theorem Inv.funs (I : Inv X pins σ H s) : s.heap.FunFrames X.base X.outer := by
  have all : ∀ (l : List Env), (∀ b ∈ frs l, b ∈ X.fs) → X.s₀.heap.FunFrames X.base l → s.heap.FunFrames X.base l := by
    intro l
    induction l with
    | nil => intro _ _; trivial
    | cons env r ih =>
      intro hs hl
      obtain ⟨hk, ⟨L, o, hf, hn, ho, hd⟩, hr⟩ := hl
      have hL : L ∈ X.fs := hs L (by unfold frs; rw [List.filterMap_cons, hf]; exact List.mem_cons_self)
      obtain ⟨sl, e⟩ := I.base.slot L o ho (I.ok.frf L hL) hL fun z => I.ok.exfs L z hL
      exact ⟨hk, ⟨L, _, hf, hn, e, hd⟩, ih (fun b hb => hs b (by unfold frs; rw [List.filterMap_cons, hf]; exact List.mem_cons_of_mem _ hb)) hr⟩
  exact all X.outer (fun _ hb => hb) I.ok.funs
theorem Inv.stack (I : Inv X pins σ H s) : s.heap.FunFrames X.base X.stack := by
  rcases I.ok.stk with e | ⟨e, hf⟩
  · rw [e]; exact I.funs
  · rw [e]
    obtain ⟨m, hn, _⟩ := I.loc
    refine .cons (by rw [I.ok.kind]; decide) hf hn ?_ I.funs
    exact Heap.get?_none_of_le (Nat.le_trans I.ok.bsz I.ok.above)
theorem Inv.stkSub (I : Inv X pins σ H s) : ∀ b ∈ frs X.stack, b ∈ X.env.locals :: X.fs := fun b hb => by
  rcases I.ok.stk with e | ⟨e, hf⟩
  · rw [e] at hb; exact List.mem_cons_of_mem _ hb
  · rw [e] at hb
    unfold frs at hb
    rw [List.filterMap_cons, hf] at hb
    exact hb
theorem Inv.stkFree (I : Inv X pins σ H s) : ∀ b ∈ frs X.stack, H b = none := fun b hb => by
  rcases List.mem_cons.mp (I.stkSub b hb) with e | hb
  · rw [e]; exact I.free
  · obtain ⟨_, o, ho, _⟩ := I.ok.funs.mem hb
    exact I.base.free b o ho (I.ok.frf b hb) fun z => I.ok.exfs b z hb
theorem Inv.step {g' : Array GenState} {t' : Nat} {d' : Drawn} {ch : List Addr} (I : Inv X pins σ H s)
    (hch : ∀ b ∈ ch, (b ∈ X.ex ∨ X.s₀.heap.objs.size ≤ b) ∧ b ≠ X.env.locals ∧ (∀ x c, X.env.cells.lookup x = some c → c ≠ b) ∧ ∀ p ∈ X.pn ++ pins, p.1 ≠ b)
    (keep : ∀ b o, b ≠ X.env.locals → b ∉ X.fs → b ∉ ch → s.heap.get? b = some o → H b = none → h'.get? b = some o)
    (slot : ∀ b o, b ≠ X.env.locals → b ∈ X.fs → b ∉ ch → s.heap.get? b = some o → H b = none → ∃ sl, h'.get? b = some { o with slots := sl }) (free : ∀ b o, b ∉ ch → s.heap.get? b = some o → H b = none → H' b = none)
    (there : ∀ b o, b ∉ ch → s.heap.get? b = some o → ∃ o', h'.get? b = some o')
    (tups : ∀ b xs, H b = some (.tup xs) → H' b = some (.tup xs)) (frzs : ∀ b o u, H b = some (.frz o u) → H' b = some (.frz o u)) (tbls : ∀ b ps, H b = some (.tbl ps) → ∃ more, H' b = some (.tbl (ps ++ more)))
    (ns : ∀ m, s.heap.Ns X.env.locals m → h'.Ns X.env.locals m) (hok : HOk X.prog X.w H' h') (hg : AllBare g') :
    Inv X pins σ H' { s with heap := h', gens := g', drawn := d', toks := t' } := by
  have neL : ∀ b o, X.s₀.heap.get? b = some o → b ≠ X.env.locals := fun b o e => Nat.ne_of_lt (Nat.lt_of_lt_of_le (Heap.lt_size e) I.ok.above)
  have neC : ∀ b o, X.s₀.heap.get? b = some o → b ∉ X.ex → b ∉ ch := fun b o e hx hb => by
    rcases (hch b hb).1 with z | z
    · exact hx z
    · exact absurd (Nat.lt_of_lt_of_le (Heap.lt_size e) z) (Nat.lt_irrefl _)
  have cellK : ∀ x c, X.env.cells.lookup x = some c → ∀ v, s.heap.IsCell c v → h'.IsCell c v := fun x c e v ⟨o, ho, hd⟩ => by
    have nch : c ∉ ch := fun z => (hch c z).2.2.1 x c e rfl
    by_cases hc : c ∈ X.fs
    · obtain ⟨sl, q⟩ := slot c o (I.cne x c e) hc nch ho (I.freeC x c e)
      exact ⟨_, q, hd⟩
    · exact ⟨o, keep c o (I.cne x c e) hc nch ho (I.freeC x c e), hd⟩
  refine ⟨I.ok, I.os, hg, ⟨fun b o e n hb hx => ?_, fun b o e n hb hx => ?_, fun b o e n hx => ?_, fun b o e hx => ?_, fun b xs e => tups b xs (I.base.tups b xs e), fun b o xs e => frzs b o xs (I.base.frzs b o xs e), fun b ps e => ?_⟩, ?_, fun x c e => ?_, ?_, fun x c e => ?_, fun p hp => ?_, hok, I.len⟩
  · exact keep b o (neL b o e) hb (neC b o e hx) (I.base.keep b o e n hb hx) (I.base.free b o e n hx)
  · obtain ⟨sl, e1⟩ := I.base.slot b o e n hb hx
    obtain ⟨sl', e2⟩ := slot b _ (neL b o e) hb (neC b o e hx) e1 (I.base.free b o e n hx)
    exact ⟨sl', e2⟩
  · obtain ⟨o', e1⟩ := I.base.there b o e hx
    exact free b o' (neC b o e hx) e1 (I.base.free b o e n hx)
  · obtain ⟨o', e1⟩ := I.base.there b o e hx
    exact there b o' (neC b o e hx) e1
  · obtain ⟨m1, e1⟩ := I.base.tbls b ps e
    obtain ⟨m2, e2⟩ := tbls b _ e1
    exact ⟨m1 ++ m2, by rw [e2, Array.append_assoc]⟩
  · obtain ⟨m, hn, hl⟩ := I.loc
    refine ⟨m, ns m hn, fun i x v e1 e2 e3 => ?_⟩
    obtain ⟨u, r, l⟩ := hl i x v e1 e2 e3
    refine ⟨u, r, ?_⟩
    rcases l with l | ⟨k, c, e, z⟩
    · exact .inl l
    · exact .inr ⟨k, c, e, cellK x c e _ z⟩
  · obtain ⟨v, z⟩ := I.cell x c e
    exact ⟨v, cellK x c e v z⟩
  · obtain ⟨m, ⟨o, _, _, ho, _⟩, _⟩ := I.loc
    exact free _ o (fun z => (hch _ z).2.1 rfl) ho I.free
  · obtain ⟨v, o, ho, hd⟩ := I.cell x c e
    exact free c o (fun z => (hch c z).2.2.1 x c e rfl) ho (I.freeC x c e)
  · obtain ⟨e, n, ne, nf, d⟩ := I.pin p hp
    have nch : p.1 ∉ ch := fun z => (hch p.1 z).2.2.2 p hp rfl
    exact ⟨keep p.1 p.2 ne nf nch e n, free p.1 p.2 nch e n, ne, nf, d⟩
theorem Inv.un {t' : Nat} (I : Inv X pins σ H s) (u : Un X.fs [] H H' s.heap h') (hok : HOk X.prog X.w H' h') : Inv X pins σ H' { s with heap := h', toks := t' } := by
  obtain ⟨m, ⟨o, es, ep, ho, r⟩, _⟩ := id I.loc
  obtain ⟨sl, hL⟩ := u.any ho I.free (by simp)
  exact I.step (g' := s.gens) (d' := s.drawn) (ch := []) (fun _ z => nomatch z) (fun b o _ hb _ e n => u.keep b o e n hb (by simp)) (fun b o _ hb _ e n => u.slot b o e n hb (by simp)) (fun b o _ e n => u.free b o e n (by simp)) (fun b o _ e => u.there b o e (by simp)) u.tups u.frzs u.tbls (fun m' hm => by
    obtain ⟨o', es', ep', ho', r'⟩ := hm
    rw [ho] at ho'; cases ho'
    exact ⟨_, es', ep', hL, r'⟩) hok I.bare
theorem Inv.call {g' : Array GenState} {t' : Nat} {d' : Drawn} {ch : List Addr} (I : Inv X pins σ H s) (u : Un (frs X.stack) ch H H' s.heap h') (hok : HOk X.prog X.w H' h') (hg : AllBare g')
    (hch : ∀ b ∈ ch, (b ∈ X.ex ∨ X.s₀.heap.objs.size ≤ b) ∧ b ≠ X.env.locals ∧ (∀ x c, X.env.cells.lookup x = some c → c ≠ b) ∧ ∀ p ∈ X.pn ++ pins, p.1 ≠ b) :
    Inv X pins σ H' { s with heap := h', gens := g', drawn := d', toks := t' } := by
  obtain ⟨m, ⟨o, es, ep, ho, r⟩, _⟩ := id I.loc
  obtain ⟨sl, hL⟩ := u.any ho I.free fun z => (hch _ z).2.1 rfl
  exact I.step (ch := ch) hch (fun b o hL hb hc e n => u.keep b o e n (fun z => (List.mem_cons.mp (I.stkSub b z)).elim hL hb) hc) (fun b o _ _ hc e n => u.any e n hc) (fun b o hc e n => u.free b o e n hc) (fun b o hc e => u.there b o e hc) u.tups u.frzs u.tbls (fun m' hm => by
    obtain ⟨o', es', ep', ho', r'⟩ := hm
    rw [ho] at ho'; cases ho'
    exact ⟨_, es', ep', hL, r'⟩) hok hg
theorem Inv.turned {t' : Nat} {it : Addr} (I : Inv X pins σ H s) (k : ∀ b o, b ≠ it → s.heap.get? b = some o → h'.get? b = some o) (hn : H it = none) (hL : it ≠ X.env.locals)
    (h1 : it ∈ X.ex ∨ X.s₀.heap.objs.size ≤ it) (h2 : ∀ x c, X.env.cells.lookup x = some c → c ≠ it) (h3 : ∀ p ∈ X.pn ++ pins, p.1 ≠ it) : Inv X pins σ H { s with heap := h', toks := t' } := by
  have nit : ∀ b u, H b = some u → b ≠ it := fun b u e z => by rw [z, hn] at e; cases e
  refine I.step (g' := s.gens) (d' := s.drawn) (ch := [it]) (fun b hb => ?_) (fun b o _ _ hc e _ => k b o (fun z => hc (by simp [z])) e) (fun b o _ _ hc e _ => ⟨o.slots, k b o (fun z => hc (by simp [z])) e⟩) (fun _ _ _ _ n => n)
    (fun b o hc e => ⟨o, k b o (fun z => hc (by simp [z])) e⟩) (fun _ _ e => e) (fun _ _ _ e => e) (fun b ps e => ⟨#[], by rw [e]; simp⟩) (fun m hm => ?_) (fun b u e => ?_) I.bare
  · have e : b = it := by simpa using hb
    subst e
    exact ⟨h1, hL, h2, h3⟩
  · obtain ⟨o, es, ep, ho, r⟩ := hm
    exact ⟨o, es, ep, k _ o (Ne.symm hL) ho, r⟩
  · refine (I.hok b u e).stay (fun c v hc q => k c v ?_ q) (fun _ q => q) fun _ _ q => q
    rcases hc with z | z
    · rw [z]; exact nit b u e
    · exact nit c _ z
theorem Inv.tok (I : Inv X pins σ H s) (t : Nat) : Inv X pins σ H { s with toks := t } := I.un (h' := s.heap) (t' := t) Un.refl I.hok
theorem Inv.kept {t' : Nat} (I : Inv X pins σ H s) (k : ∀ b u, s.heap.get? b = some u → h'.get? b = some u) : Inv X pins σ H { s with heap := h', toks := t' } := I.un (Un.kept k) (I.hok.kept k)
theorem Inv.laid {a : Addr} {o : HO} {t' : Nat} (I : Inv X pins σ H s) (k : ∀ b u, s.heap.get? b = some u → h'.get? b = some u) (hp : s.heap.objs.size ≤ a) (new : ObjOk X.prog X.w (upd H a o) h' a o) :
    Inv X pins σ (upd H a o) { s with heap := h', toks := t' } := I.un (Un.laid k hp (I.hok.fresh hp)) (I.hok.laid k hp new)
theorem Inv.write {x e : Addr} {o : HO} {t' : Nat} (I : Inv X pins σ H s) (mu : Mut (H x)) (he : e = x ∨ H e = some (.own x)) (k : ∀ b u, b ≠ e → s.heap.get? b = some u → h'.get? b = some u) (heo : ∃ u, h'.get? e = some u)
    (new : ObjOk X.prog X.w (upd H x o) h' x o) : Inv X pins σ (upd H x o) { s with heap := h', toks := t' } := I.un (Un.write mu he k heo) (I.hok.write mu he k heo new)
theorem Inv.pins_of {pins' : List (Addr × Obj)} (I : Inv X pins σ H s) (h : ∀ p ∈ pins', s.heap.get? p.1 = some p.2 ∧ H p.1 = none ∧ p.1 ≠ X.env.locals ∧ p.1 ∉ X.fs ∧ ∀ v, p.2.data ≠ .cell v) : Inv X pins' σ H s :=
  ⟨I.ok, I.os, I.bare, I.base, I.loc, I.cell, I.free, I.freeC, fun p hp => (List.mem_append.mp hp).elim (fun z => I.pin p (List.mem_append_left _ z)) (h p), I.hok, I.len⟩
theorem nodup_ix {N : List Str} (hN : N.Nodup) {i j : Nat} {x : Str} (a : N[i]? = some x) (b : N[j]? = some x) : i = j := by
  obtain ⟨h1, e1⟩ := List.getElem?_eq_some_iff.mp a
  obtain ⟨h2, e2⟩ := List.getElem?_eq_some_iff.mp b
  exact (List.getElem_inj hN).mp (e1.trans e2.symm)
theorem store_ok2 {M : Model} {A : Around} {E : Value → Shared → Prop} {i : Nat} {x : Str} {v : V} {u : Value} {Q : Unit → Shared → Prop} (I : Inv X pins σ H s) (hN : X.N.Nodup) (hi : X.N[i]? = some x) (hx : Loc X.env.scope x) (r : RelV v u)
    (h : ∀ s', Inv X pins (σ.set i (some v)) H s' → (∃ a, Heap.SameBut a s.heap s'.heap ∧ (a = X.env.locals ∨ X.env.cells.lookup x = some a)) → Q () s') (hf : X.fn x = true ∨ X.env.scope.names.lookup x = some .local := by first | exact .inl rfl | exact .inr rfl | assumption) : wpAny M A (storeName X.env x u) Q E s := by
  obtain ⟨m, hn, hl⟩ := id I.loc
  have hcls : (X.env.scope.kind == .class || (X.env.scope.kind == .module && X.env.locals != X.env.globals)) = false := by rw [I.ok.kind]; rfl
  have hiσ : i < σ.length := by rw [I.len]; exact (List.getElem?_eq_some_iff.mp hi).1
  have cne := I.cne
  have tracked : ∀ {a : Addr} {h' : Heap}, (∃ o, s.heap.get? a = some o ∧ H a = none) → Heap.SameBut a s.heap h' → HOk X.prog X.w H h' := fun {a h'} ha hs b ob e => by
    obtain ⟨_, _, hfree⟩ := ha
    refine (I.hok b ob e).stay (fun c w' hc q => (hs.2 c ?_).trans q) (fun _ q => q) fun _ _ q => q
    rintro rfl
    rcases hc with rfl | hc
    · rw [hfree] at e; cases e
    · rw [hfree] at hc; cases hc
  rcases hx with hk | hk
  · refine wpAny_storeName_local hk hn (fun h' hn' hs => ?_) hcls
    obtain ⟨oL, _, _, hoL, _⟩ := id hn
    refine h _ ⟨I.ok, I.os, I.bare, ⟨fun b o e n hb hx => ?_, fun b o e n hb hx => ?_, I.base.free, fun b o e hx => ?_, I.base.tups, I.base.frzs, I.base.tbls⟩, ⟨_, hn', fun j y v' e1 e2 e3 => ?_⟩, fun y c e => ?_, I.free, I.freeC, fun p hp => ?_, tracked ⟨oL, hoL, I.free⟩ hs, by simpa using I.len⟩ ⟨_, hs, .inl rfl⟩
    · exact (hs.2 b (Nat.ne_of_lt (Nat.lt_of_lt_of_le (Heap.lt_size e) I.ok.above))).trans (I.base.keep b o e n hb hx)
    · obtain ⟨sl, e1⟩ := I.base.slot b o e n hb hx
      exact ⟨sl, (hs.2 b (Nat.ne_of_lt (Nat.lt_of_lt_of_le (Heap.lt_size e) I.ok.above))).trans e1⟩
    · obtain ⟨o', e1⟩ := I.base.there b o e hx
      exact ⟨o', (hs.2 b (Nat.ne_of_lt (Nat.lt_of_lt_of_le (Heap.lt_size e) I.ok.above))).trans e1⟩
    · by_cases hj : j = i
      · subst hj
        rw [hi] at e1; cases e1
        rw [List.getElem?_set_self hiσ] at e2
        cases e2
        exact ⟨u, r, .inl ⟨hk, by simp⟩⟩
      · rw [List.getElem?_set_ne (Ne.symm hj)] at e2
        obtain ⟨u', r', q⟩ := hl j y v' e1 e2 e3
        refine ⟨u', r', ?_⟩
        rcases q with ⟨k, e⟩ | ⟨k, c, e, z⟩
        · refine .inl ⟨k, ?_⟩
          have : y ≠ x := fun e => hj (nodup_ix hN e1 (e ▸ hi))
          simp [this, e]
        · exact .inr ⟨k, c, e, z.sameBut hs (cne y c e)⟩
    · obtain ⟨w', z⟩ := I.cell y c e
      exact ⟨w', z.sameBut hs (cne y c e)⟩
    · obtain ⟨e, n, ne, nf, d⟩ := I.pin p hp
      exact ⟨(hs.2 p.1 ne).trans e, n, ne, nf, d⟩
  · have hfn : X.fn x = true := by
      rcases hf with z | z
      · exact z
      · rw [z] at hk; cases hk
    obtain ⟨c, hc⟩ := I.ok.has x (.inl hk)
    obtain ⟨w', z⟩ := I.cell x c hc
    refine wpAny_storeName_cell I.ok.kind hk hc z (fun h' hc' hs => ?_)
    obtain ⟨oc, hoc, hocd⟩ := id z
    refine h { s with heap := h' } ⟨I.ok, I.os, I.bare, ⟨fun b o e n hb hx => ?_, fun b o e n hb hx => ?_, I.base.free, fun b o e hx => ?_, I.base.tups, I.base.frzs, I.base.tbls⟩, ⟨m, hn.sameBut hs (Ne.symm (cne x c hc)), fun j y v' e1 e2 e3 => ?_⟩, fun y c' e => ?_, I.free, I.freeC, fun p hp => ?_, tracked ⟨oc, hoc, I.freeC x c hc⟩ hs, by simpa using I.len⟩ ⟨c, hs, .inr hc⟩
    · exact (hs.2 b (Nat.ne_of_lt (Nat.lt_of_lt_of_le (Heap.lt_size e) (I.ok.cab x c hfn hc)))).trans (I.base.keep b o e n hb hx)
    · obtain ⟨sl, e1⟩ := I.base.slot b o e n hb hx
      exact ⟨sl, (hs.2 b (Nat.ne_of_lt (Nat.lt_of_lt_of_le (Heap.lt_size e) (I.ok.cab x c hfn hc)))).trans e1⟩
    · obtain ⟨o', e1⟩ := I.base.there b o e hx
      exact ⟨o', (hs.2 b (Nat.ne_of_lt (Nat.lt_of_lt_of_le (Heap.lt_size e) (I.ok.cab x c hfn hc)))).trans e1⟩
    · by_cases hj : j = i
      · subst hj
        rw [hi] at e1; cases e1
        rw [List.getElem?_set_self hiσ] at e2
        cases e2
        exact ⟨u, r, .inr ⟨.inl hk, c, hc, hc'⟩⟩
      · rw [List.getElem?_set_ne (Ne.symm hj)] at e2
        obtain ⟨u', r', q⟩ := hl j y v' e1 e2 e3
        refine ⟨u', r', ?_⟩
        rcases q with q | ⟨k, c', e, z'⟩
        · exact .inl q
        · refine .inr ⟨k, c', e, z'.sameBut hs ?_⟩
          rintro rfl
          exact hj (nodup_ix hN e1 (I.ok.inj _ _ _ e hc ▸ hi))
    · by_cases hcc : c' = c
      · subst hcc; exact ⟨_, hc'⟩
      · obtain ⟨w2, z2⟩ := I.cell y c' e
        exact ⟨w2, z2.sameBut hs hcc⟩
    · obtain ⟨e, n, ne, nf, d⟩ := I.pin p hp
      refine ⟨(hs.2 p.1 ?_).trans e, n, ne, nf, d⟩
      intro q
      rw [q, hoc] at e
      have q' : oc = p.2 := Option.some.inj e
      exact d w' (by rw [← q']; exact hocd)
theorem store_ok {M : Model} {A : Around} {E : Value → Shared → Prop} {i : Nat} {x : Str} {v : V} {u : Value} {Q : Unit → Shared → Prop} (I : Inv X pins σ H s) (hN : X.N.Nodup) (hi : X.N[i]? = some x) (hx : Loc X.env.scope x) (r : RelV v u)
    (h : ∀ s', Inv X pins (σ.set i (some v)) H s' → Q () s') (hf : X.fn x = true ∨ X.env.scope.names.lookup x = some .local := by first | exact .inl rfl | exact .inr rfl | assumption) : wpAny M A (storeName X.env x u) Q E s :=
  store_ok2 I hN hi hx r (fun s' I' _ => h s' I') hf
theorem Inv.call' {s' : Shared} {ch : List Addr} (I : Inv X pins σ H s) (ho : s'.os = s.os) (u : Un (frs X.stack) ch H H' s.heap s'.heap) (hok : HOk X.prog X.w H' s'.heap) (hg : AllBare s'.gens)
    (hch : ∀ b ∈ ch, (b ∈ X.ex ∨ X.s₀.heap.objs.size ≤ b) ∧ b ≠ X.env.locals ∧ (∀ x c, X.env.cells.lookup x = some c → c ≠ b) ∧ ∀ p ∈ X.pn ++ pins, p.1 ≠ b) : Inv X pins σ H' s' := by
  obtain ⟨h', g', d', t', o'⟩ := s'
  have e : o' = s.os := ho
  subst e
  exact I.call (g' := g') (t' := t') (d' := d') u hok hg hch
end
noncomputable abbrev XK := Value → Option Addr → Hp → Prop
noncomputable abbrev St := List (Option V)
noncomputable abbrev VK := V → Hp → Prop
noncomputable abbrev TE := St → Hp → VK → Prop
noncomputable abbrev TT := St → Hp → (Bool → Hp → Prop) → Prop
noncomputable abbrev TA := St → Hp → (List V → Hp → Prop) → Prop
structure Ends where
  nx : St → Hp → Prop
  rt : VK
  bk : St → Hp → Prop := fun _ _ => False
  ct : St → Hp → Prop := fun _ _ => False
noncomputable abbrev TS := Ends → St → Hp → Prop
noncomputable def EP (X : Cx) (pins : List (Addr × Obj)) (σ : St) (Q : VK) (u : Value) (s' : Shared) : Prop := ∃ v H', Inv X pins σ H' s' ∧ RelV v u ∧ Q v H'
noncomputable def TP (X : Cx) (pins : List (Addr × Obj)) (σ : St) (Q : Bool → Hp → Prop) (b : Bool) (s' : Shared) : Prop := ∃ H', Inv X pins σ H' s' ∧ Q b H'
noncomputable def AP (X : Cx) (pins : List (Addr × Obj)) (σ : St) (Q : List V → Hp → Prop) (us : List Value) (s' : Shared) : Prop := ∃ vs H', Inv X pins σ H' s' ∧ Vals vs us ∧ Q vs H'
noncomputable def SP (X : Cx) (pins : List (Addr × Obj)) (D : Ends) (f : Flow) (s' : Shared) : Prop :=
  match f with
  | .next => ∃ σ' H', Inv X pins σ' H' s' ∧ D.nx σ' H'
  | .brk => ∃ σ' H', Inv X pins σ' H' s' ∧ D.bk σ' H'
  | .cont => ∃ σ' H', Inv X pins σ' H' s' ∧ D.ct σ' H'
  | .ret u => ∃ v σ' H', Inv X pins σ' H' s' ∧ RelV v u ∧ D.rt v H'
noncomputable def PE (X : Cx) (e : Expr) (t : TE) : Prop :=
  ∀ (pins : List (Addr × Obj)) (s : Shared) (σ : St) (H : Hp) (Q : VK), Inv X pins σ H s → t σ H Q → wpAny (model X.prog X.w) X.A (eval e X.env) (EP X pins σ Q) X.xe s
noncomputable def PT (X : Cx) (e : Expr) (t : TT) : Prop :=
  ∀ (pins : List (Addr × Obj)) (s : Shared) (σ : St) (H : Hp) (Q : Bool → Hp → Prop), Inv X pins σ H s → t σ H Q → wpAny (model X.prog X.w) X.A (isTrue e X.env (eval e X.env)) (TP X pins σ Q) X.xe s
noncomputable def PW (X : Cx) (e : Expr) (t : TT) : Prop :=
  ∀ (whole : Sem Value) (pins : List (Addr × Obj)) (s : Shared) (σ : St) (H : Hp) (Q : Bool → Hp → Prop), Inv X pins σ H s → t σ H Q → wpAny (model X.prog X.w) X.A (isTrue e X.env whole) (TP X pins σ Q) X.xe s
noncomputable def PA (X : Cx) (es : List Expr) (t : TA) : Prop :=
  ∀ (pos : Pos) (pins : List (Addr × Obj)) (s : Shared) (σ : St) (H : Hp) (Q : List V → Hp → Prop), Inv X pins σ H s → t σ H Q → wpAny (model X.prog X.w) X.A (spliced (backTo pos (starEach es X.env))) (AP X pins σ Q) X.xe s
noncomputable def PS (X : Cx) (st : Stmt) (t : TS) : Prop :=
  ∀ (pins : List (Addr × Obj)) (s : Shared) (σ : St) (H : Hp) (D : Ends), Inv X pins σ H s → t D σ H → wpAny (model X.prog X.w) X.A (exec st X.env) (SP X pins D) X.xe s
noncomputable def PSs (X : Cx) (st : List Stmt) (t : TS) : Prop :=
  ∀ (pins : List (Addr × Obj)) (s : Shared) (σ : St) (H : Hp) (D : Ends), Inv X pins σ H s → t D σ H → wpAny (model X.prog X.w) X.A (execs st X.env) (SP X pins D) X.xe s
theorem thn {α : Type} {t : Sem α} {Q Q' : α → Shared → Prop} {M : Model} {A : Around} {E : Value → Shared → Prop} {s : Shared} (h : wpAny M A t Q E s) (hQ : ∀ a s, Q a s → Q' a s) : wpAny M A t Q' E s := wpAny_mono h hQ fun _ _ x => x
end L2
namespace L2
open PySem PySem.Spec PyProof.Rows
section
variable {X : Cx}
theorem bin {a b : Expr} {ta tb : TE} (ha : PE X a ta) (hb : PE X b tb) {pins : List (Addr × Obj)} {s : Shared} {σ : St} {H : Hp} {R : V → V → Hp → Prop} (I : Inv X pins σ H s) (h : ta σ H fun x H1 => tb σ H1 fun y H2 => R x y H2)
    {α : Type} {Q : α → Shared → Prop} {f : Value → Value → Sem α}
    (hf : ∀ v u s2 x y H2, Inv X pins σ H2 s2 → RelV x v → RelV y u → R x y H2 → wpAny (model X.prog X.w) X.A (f v u) Q X.xe s2) :
    wpAny (model X.prog X.w) X.A (eval a X.env) (fun v s₁ => wpAny (model X.prog X.w) X.A (eval b X.env) (fun u s₂ => wpAny (model X.prog X.w) X.A (f v u) Q X.xe s₂) X.xe s₁) X.xe s := by
  refine thn (ha pins s σ H _ I h) fun v s1 ⟨x, H1, I1, r1, q1⟩ => ?_
  refine thn (hb pins s1 σ H1 _ I1 q1) fun u s2 ⟨y, H2, I2, r2, q2⟩ => ?_
  exact hf v u s2 x y H2 I2 r1 r2 q2
noncomputable def tVar (i : Nat) : TE := fun σ H Q => ∃ v, σ[i]? = some (some v) ∧ Q v H
noncomputable def tC (v : V) : TE := fun _ H Q => Q v H
theorem pe_var {i : Nat} {x : Str} {pos : Pos} (hN : X.N[i]? = some x) (hv : Vis X.env.scope x) (hd : (x == ("__debug__" : Str)) = false := by decide) (hcd : (x == ("__classdict__" : Str)) = false := by decide) : PE X (.Name x pos) (tVar i) := by
  intro pins s σ H Q I h
  obtain ⟨v, e, h⟩ := h
  obtain ⟨m, hn, hl⟩ := I.loc
  obtain ⟨u, r, l⟩ := hl i x v hN e hv
  have fin : EP X pins σ Q u s := ⟨v, H, I, r, h⟩
  rcases l with ⟨hk, hm⟩ | ⟨hk, c, hc, hcell⟩
  · exact wpAny_Name (wpAny_loadName_local I.ok.kind hk hn hm fin) hd
  · rcases hk with hk | hk
    · exact wpAny_Name (wpAny_loadName_cell I.ok.kind hk hc hcell fin) hd
    · exact wpAny_Name (wpAny_loadName_free I.ok.kind hk hc hcell fin hcd) hd
theorem pe_int {i j pos} : PE X (.Constant (.int i) j pos) (tC (.int i)) := fun _ _ _ H _ I h => wpAny_Constant_int ⟨.int i, H, I.tok _, ⟨_, rfl⟩, h⟩
theorem pe_bl {b j pos} : PE X (.Constant (.bool b) j pos) (tC (.bl b)) := fun _ _ _ H _ I h => Constant_bool ⟨.bl b, H, I, rfl, h⟩
theorem pe_non {j pos} : PE X (.Constant .none j pos) (tC .non) := fun _ _ _ H _ I h => Constant_none ⟨.non, H, I, rfl, h⟩
theorem pe_str {x j pos} : PE X (.Constant (.str x) j pos) (tC (.str x)) := fun _ _ _ H _ I h => Calls.Constant_str ⟨.str x, H, I.tok _, ⟨_, rfl⟩, h⟩
noncomputable def Gl (X : Cx) (x : Str) : Prop := X.env.kindOf x = some .globalImplicit
theorem ld_glob {E : Value → Shared → Prop} {pins : List (Addr × Obj)} {s : Shared} {σ : St} {H : Hp} {x : Str} {u : Value} {pos : Pos} {Q : Value → Shared → Prop} (I : Inv X pins σ H s) (hg : Gl X x) (hm : X.mg x = some u) (h : Q u s)
    (hd : (x == ("__debug__" : Str)) = false := by decide) : wpAny (model X.prog X.w) X.A (eval (.Name x pos) X.env) Q E s :=
  Calls.Name_function_global I.ok.kind hg (Calls.loadGlobal_global (by rw [I.ok.glob]; exact I.mod.glob.keeps I.bk) hm h) hd
theorem ld_blt {E : Value → Shared → Prop} {pins : List (Addr × Obj)} {s : Shared} {σ : St} {H : Hp} {x : Str} {u : Value} {pos : Pos} {Q : Value → Shared → Prop} (I : Inv X pins σ H s) (hg : Gl X x) (hm : X.mg x = none) (hv : bootBuiltins x = some u) (h : Q u s)
    (hn : x ≠ "__name__" := by decide) (hd : (x == ("__debug__" : Str)) = false := by decide) : wpAny (model X.prog X.w) X.A (eval (.Name x pos) X.env) Q E s := by
  obtain ⟨mb, h1, h2⟩ := I.mod.blt
  exact Calls.Name_function_global I.ok.kind hg (Calls.loadGlobal_builtin (by rw [I.ok.glob]; exact I.mod.glob.keeps I.bk) hm (by rw [I.ok.blt]; exact h1.keeps I.bk) ((h2 x hn).trans hv) h) hd
theorem pe_glob {x : Str} {v : V} {u : Value} {pos : Pos} (hg : Gl X x) (hm : X.mg x = some u) (r : RelV v u) (hd : (x == ("__debug__" : Str)) = false := by decide) : PE X (.Name x pos) (tC v) :=
  fun _ _ _ H _ I h => ld_glob I hg hm ⟨v, H, I, r, h⟩ hd
theorem pe_bltn {x : Str} {v : V} {u : Value} {pos : Pos} (hg : Gl X x) (hm : X.mg x = none) (hv : bootBuiltins x = some u) (r : RelV v u) (hn : x ≠ "__name__" := by decide) (hd : (x == ("__debug__" : Str)) = false := by decide) : PE X (.Name x pos) (tC v) :=
  fun _ _ _ H _ I h => ld_blt I hg hm hv ⟨v, H, I, r, h⟩ hn hd
variable {a b : Expr} {ta tb : TE} {pos : Pos}
noncomputable def PC (X : Cx) (op : CmpOp) (a b : Expr) (t : TE) : Prop :=
  ∀ (pins : List (Addr × Obj)) (s : Shared) (σ : St) (H : Hp) (Q : VK), Inv X pins σ H s → t σ H Q →
    wpAny (model X.prog X.w) X.A (eval a X.env) (fun v s₁ => wpAny (model X.prog X.w) X.A (eval b X.env) (fun u s₂ => wpAny (model X.prog X.w) X.A (compareOp op v u) (EP X pins σ Q) X.xe s₂) X.xe s₁) X.xe s
noncomputable def tB (t : TE) : TT := fun σ H Q => t σ H fun x H1 => ∃ c, x = .bl c ∧ Q c H1
theorem pt_cmp {op : CmpOp} {t : TE} (h : PC X op a b t) (h1 : behindInMarks op b = false := by first | exact nobehind _ (by decide) (by decide) | rfl) : PT X (.Compare a [op] [b] pos) (tB t) := by
  intro pins s σ H Q I hw
  refine wpAny_isTrue_Compare1 (thn (h pins s σ H _ I hw) fun v s1 h1 => thn h1 fun u s2 h2 => thn h2 fun c s3 ⟨x, H1, I1, r1, q1⟩ => ?_) h1
  obtain ⟨d, rfl, q⟩ := q1
  cases r1
  exact wpAny_truthy_bool ⟨H1, I1, q⟩
theorem pt_val {e : Expr} {t : TE} (h : PE X e t) (he : ∀ whole, isTrue e X.env whole = (do let v ← whole; standAt e.pos; holding [v] (truthy v)) := by intro _; rfl) : PT X e (tB t) := by
  intro pins s σ H Q I hw
  refine isTrue_plain (thn (h pins s σ H _ I hw) fun v s1 ⟨x, H1, I1, r1, q1⟩ => ?_) (he _)
  obtain ⟨d, rfl, q⟩ := q1
  cases r1
  exact wpAny_truthy_bool ⟨H1, I1, q⟩
variable {tA tB' : TT} {rest : List Expr}
noncomputable def tAnd (t u : TT) : TT := fun σ H Q => t σ H fun c H1 => if c = true then u σ H1 Q else Q false H1
noncomputable def tOr (t u : TT) : TT := fun σ H Q => t σ H fun c H1 => if c = true then Q true H1 else u σ H1 Q
noncomputable def tNot (t : TT) : TT := fun σ H Q => t σ H fun c H1 => Q (!c) H1
theorem pw_and1 (ha : PT X a tA) : PW X (.BoolOp .And [a] pos) tA := by
  intro wh pins s σ H Q I h
  refine isTrue_and (thn (ha pins s σ H Q I h) fun c s1 e => ?_)
  cases c with
  | true => exact isTrue_and_nil e
  | false => exact e
theorem pw_or1 (ha : PT X a tA) : PW X (.BoolOp .Or [a] pos) tA := by
  intro wh pins s σ H Q I h
  refine isTrue_or (thn (ha pins s σ H Q I h) fun c s1 e => ?_)
  cases c with
  | false => exact isTrue_or_nil e
  | true => exact e
theorem pw_and (ha : PT X a tA) (hb : PW X (.BoolOp .And (b :: rest) pos) tB') : PW X (.BoolOp .And (a :: b :: rest) pos) (tAnd tA tB') := by
  intro wh pins s σ H Q I h
  refine isTrue_and (thn (ha pins s σ H _ I h) fun c s1 ⟨H1, I1, q1⟩ => ?_)
  cases c with
  | true => exact hb wh pins s1 σ H1 Q I1 q1
  | false => exact ⟨H1, I1, q1⟩
theorem pw_or (ha : PT X a tA) (hb : PW X (.BoolOp .Or (b :: rest) pos) tB') : PW X (.BoolOp .Or (a :: b :: rest) pos) (tOr tA tB') := by
  intro wh pins s σ H Q I h
  refine isTrue_or (thn (ha pins s σ H _ I h) fun c s1 ⟨H1, I1, q1⟩ => ?_)
  cases c with
  | true => exact ⟨H1, I1, q1⟩
  | false => exact hb wh pins s1 σ H1 Q I1 q1
theorem pt_not (ha : PT X a tA) : PT X (.UnaryOp .Not a pos) (tNot tA) := by
  intro pins s σ H Q I h
  exact isTrue_not (ha pins s σ H (fun c H1 => Q (!c) H1) I h)
noncomputable def tAndV (ta tb : TE) : TE := fun σ H Q => ta σ H fun x H1 => ∃ c, x = .bl c ∧ if c = true then tb σ H1 Q else Q (.bl false) H1
theorem pe_one {op} {t : TE} (h : PE X a t) : PE X (.BoolOp op [a] pos) t := fun pins s σ H Q I hw => BoolOp_one (h pins s σ H Q I hw)
theorem pe_and (ha : PE X a ta) (hb : PE X (.BoolOp .And (b :: rest) pos) tb) : PE X (.BoolOp .And (a :: b :: rest) pos) (tAndV ta tb) := by
  intro pins s σ H Q I h
  refine BoolOp_and (thn (ha pins s σ H _ I h) fun v s1 ⟨x, H1, I1, r1, q1⟩ => ?_)
  obtain ⟨c, rfl, q1⟩ := q1
  cases r1
  refine wpAny_truthy_bool ?_
  cases c with
  | true => exact hb pins s1 σ H1 Q I1 q1
  | false => exact ⟨.bl false, H1, I1, rfl, q1⟩
end
end L2
namespace L2
open PySem PySem.Spec PyProof.Rows
noncomputable def SqL (K : PySem.W.Frag) (H : Hp) (a : Addr) (xs : List V) : Prop :=
  Rd H a (.lst xs) ∨
    ∃ (o : Obj) (its : Array Value) (n : Nat), K.lookup a = some o ∧ o.cls = .type "list" ∧ o.dict = none ∧ o.data = .seq its n ∧ its.size ≤ sizeLine ∧ Vals xs its.toList
noncomputable def SqT (K : PySem.W.Frag) (H : Hp) (a : Addr) (xs : List V) : Prop :=
  Rd H a (.tup xs) ∨
    ∃ (o : Obj) (its : Array Value) (n : Nat), K.lookup a = some o ∧ o.cls = .type "tuple" ∧ o.data = .seq its n ∧ its.size ≤ sizeLine ∧ Vals xs its.toList
noncomputable def absV : Value → Option V
  | .none => some .non
  | .bool b => some (.bl b)
  | .int i _ => some (.int i)
  | .str x _ => some (.str x)
  | .bytes b _ => some (.byt b)
  | .float b _ => some (.flt b)
  | .ref a => some (.ref a)
  | .type n => some (.ty n)
  | _ => none
theorem RelV.abs {x : V} {u : Value} (r : RelV x u) : absV u = some x := by
  cases x with
  | non => cases r; rfl
  | bl _ => cases r; rfl
  | int _ => obtain ⟨t, rfl⟩ := r; rfl
  | str _ => obtain ⟨t, rfl⟩ := r; rfl
  | byt _ => obtain ⟨t, rfl⟩ := r; rfl
  | flt _ => obtain ⟨t, rfl⟩ := r; rfl
  | ref _ => cases r; rfl
  | ty _ => cases r; rfl
theorem RelV.inj {x y : V} {u : Value} (r : RelV x u) (q : RelV y u) : x = y := Option.some.inj (r.abs.symm.trans q.abs)
theorem Vals.inj : ∀ {xs ys : List V} {us : List Value}, Vals xs us → Vals ys us → xs = ys
  | _, _, _, .nil, .nil => rfl
  | _, _, _, .cons r t, .cons r' t' => by rw [r.inj r', Vals.inj t t']
section
variable {X : Cx} {pins : List (Addr × Obj)} {σ : St} {H : Hp} {s : Shared} {a : Addr} {xs ys : List V}
theorem SqL.of {K : PySem.W.Frag} (h : H a = some (.lst xs)) : SqL K H a xs := .inl (.inl h)
theorem SqT.of {K : PySem.W.Frag} (h : H a = some (.tup xs)) : SqT K H a xs := .inl (.inl h)
theorem Inv.list (I : Inv X pins σ H s) (h : SqL X.K H a xs) : ∃ its : List Value, Vals xs its ∧ PlainL s.heap a its.toArray ∧ xs.length ≤ sizeLine := by
  rcases h with h | ⟨o, its, n, hk, hc, hd, hs, hz, r⟩
  · obtain ⟨z, its, n, r, e⟩ := h.ok I.hok
    exact ⟨its, r, ⟨_, n, e, rfl, rfl, rfl⟩, z⟩
  · refine ⟨its.toList, r, ⟨o, n, I.kIn a o hk, hc, hd, by simpa using hs⟩, ?_⟩
    have e := r.length
    simp only [Array.length_toList] at e
    omega
theorem Inv.tuple (I : Inv X pins σ H s) (h : SqT X.K H a xs) : ∃ its : List Value, Vals xs its ∧ IsTup s.heap a its.toArray ∧ xs.length ≤ sizeLine := by
  rcases h with h | ⟨o, its, n, hk, hc, hs, hz, r⟩
  · obtain ⟨z, its, r, p⟩ := h.ok I.hok
    exact ⟨its, r, p, z⟩
  · refine ⟨its.toList, r, ⟨o, I.kIn a o hk, hc, n, by simpa using hs⟩, ?_⟩
    have e := r.length
    simp only [Array.length_toList] at e
    omega
theorem Inv.list_inj (I : Inv X pins σ H s) (h : SqL X.K H a xs) (h' : SqL X.K H a ys) : xs = ys := by
  obtain ⟨its, r, ⟨o, n, e, _, _, d⟩, _⟩ := I.list h
  obtain ⟨its', r', ⟨o', n', e', _, _, d'⟩, _⟩ := I.list h'
  rw [e] at e'; cases e'
  rw [d] at d'
  injection d' with d1 _
  have : its = its' := by simpa using congrArg Array.toList d1
  subst this
  exact r.inj r'
end
noncomputable abbrev Cx.wish (X : Cx) (E : Value → Shared → Prop) : Cx := { X with xe := E }
noncomputable abbrev Cx.nox (X : Cx) : Cx := X.wish fun _ _ => False
theorem Cx.Ok.wish {X : Cx} (ok : X.Ok) (E : Value → Shared → Prop) : (X.wish E).Ok :=
  ⟨ok.mod, ok.kind, ok.glob, ok.blt, ok.above, ok.inj, ok.has, ok.cab, ok.hd, ok.frames, ok.stk, ok.exf, ok.bs, ok.bsz, ok.noex, ok.exfs, ok.funs, ok.frf⟩
theorem Cx.Ok.unwish {X : Cx} {E : Value → Shared → Prop} (ok : (X.wish E).Ok) : X.Ok :=
  ⟨ok.mod, ok.kind, ok.glob, ok.blt, ok.above, ok.inj, ok.has, ok.cab, ok.hd, ok.frames, ok.stk, ok.exf, ok.bs, ok.bsz, ok.noex, ok.exfs, ok.funs, ok.frf⟩
section
variable {X : Cx} {pins : List (Addr × Obj)} {σ : St} {H : Hp} {s : Shared} {E : Value → Shared → Prop}
theorem Inv.wish (I : Inv X pins σ H s) (E : Value → Shared → Prop) : Inv (X.wish E) pins σ H s := ⟨I.ok.wish E, I.os, I.bare, I.base, I.loc, I.cell, I.free, I.freeC, I.pin, I.hok, I.len⟩
theorem Inv.unwish (I : Inv (X.wish E) pins σ H s) : Inv X pins σ H s := ⟨I.ok.unwish, I.os, I.bare, I.base, I.loc, I.cell, I.free, I.freeC, I.pin, I.hok, I.len⟩
theorem SP.unwish {D : Ends} {f : Flow} {s' : Shared} (h : SP (X.wish E) pins D f s') : SP X pins D f s' := by
  cases f with
  | next => obtain ⟨σ', H', I, q⟩ := h; exact ⟨σ', H', I.unwish, q⟩
  | brk => obtain ⟨σ', H', I, q⟩ := h; exact ⟨σ', H', I.unwish, q⟩
  | cont => obtain ⟨σ', H', I, q⟩ := h; exact ⟨σ', H', I.unwish, q⟩
  | ret u => obtain ⟨v, σ', H', I, r, q⟩ := h; exact ⟨v, σ', H', I.unwish, r, q⟩
theorem PSs.nox {st : List Stmt} {t : TS} (h : PSs X.nox st t) : PSs X st t := fun pins s σ H D I hw =>
  wpAny_mono (h pins s σ H D (I.wish _) hw) (fun _ _ q => q.unwish) fun _ _ z => False.elim z
end
section
variable {X : Cx} {st : Stmt} {rest : List Stmt} {t u : TS} {e : Expr} {te : TE} {pos : Pos}
noncomputable def tNext : TS := fun D σ H => D.nx σ H
noncomputable def tSeq (t u : TS) : TS := fun D σ H => t { D with nx := u D } σ H
theorem pss_nil : PSs X [] tNext := fun _ _ σ H _ I h => wpAny_execs_nil ⟨σ, H, I, h⟩
theorem pss_cons (h1 : PS X st t) (h2 : PSs X rest u) : PSs X (st :: rest) (tSeq t u) := by
  intro pins s σ H D I h
  refine wpAny_execs_cons (thn (h1 pins s σ H { D with nx := u D } I h) fun f s1 q => ?_)
  cases f with
  | next =>
    obtain ⟨σ', H', I', q⟩ := q
    exact h2 pins s1 σ' H' D I' q
  | ret v => exact q
  | brk => exact q
  | cont => exact q
theorem Inv.quiet {pins : List (Addr × Obj)} {σ : St} {H : Hp} {s : Shared} (I : Inv X pins σ H s) : interactive X.env = false := by simp [interactive, I.ok.kind]
noncomputable def tDrop (te : TE) : TS := fun D σ H => te σ H fun _ H1 => D.nx σ H1
theorem ps_expr (he : PE X e te) (hs : swapsWith e none pos.line X.env = pure false := by rfl) : PS X (.Expr e pos) (tDrop te) := by
  intro pins s σ H D I h
  exact wpAny_Expr_any (thn (he pins s σ H _ I h) fun v s1 ⟨x, H1, I1, r1, q1⟩ => ⟨σ, H1, I1, q1⟩) I.quiet hs
noncomputable def tRet (te : TE) : TS := fun D σ H => te σ H D.rt
theorem ps_ret (he : PE X e te) : PS X (.Return (some e) pos) (tRet te) := by
  intro pins s σ H D I h
  exact wpAny_Return_some (thn (he pins s σ H _ I h) fun v s1 ⟨x, H1, I1, r1, q1⟩ => ⟨x, σ, H1, I1, r1, q1⟩)
noncomputable def tIfS (c : TT) (t u : TS) : TS := fun D σ H => c σ H fun b H1 => if b = true then t D σ H1 else u D σ H1
theorem ps_if {c : Expr} {a b : List Stmt} {tc : TT} (hc : PT X c tc) (ha : PSs X a t) (hb : PSs X b u) : PS X (.If c a b pos) (tIfS tc t u) := by
  intro pins s σ H D I h
  refine wpAny_If (thn (hc pins s σ H _ I h) fun d s1 ⟨H1, I1, q1⟩ => ?_)
  cases d with
  | true => exact ha pins s1 σ H1 D I1 q1
  | false => exact hb pins s1 σ H1 D I1 q1
end
noncomputable abbrev TG := V → St → Hp → (St → Hp → Prop) → Prop
noncomputable abbrev TGs := List V → St → Hp → (St → Hp → Prop) → Prop
noncomputable def PG (X : Cx) (target : Expr) (t : TG) : Prop :=
  ∀ (pins : List (Addr × Obj)) (s : Shared) (σ : St) (H : Hp) (v : V) (u : Value) (Q : St → Hp → Prop), Inv X pins σ H s → RelV v u → t v σ H Q →
    wpAny (model X.prog X.w) X.A (assign target X.env u) (fun _ s' => ∃ σ' H', Inv X pins σ' H' s' ∧ Q σ' H') X.xe s
noncomputable def PGs (X : Cx) (ts : List Expr) (t : TGs) : Prop :=
  ∀ (pins : List (Addr × Obj)) (s : Shared) (σ : St) (H : Hp) (vs : List V) (us : List Value) (Q : St → Hp → Prop), Inv X pins σ H s → Vals vs us → t vs σ H Q →
    wpAny (model X.prog X.w) X.A (assignInOrder ((assignEach ts X.env).map (·.2)) us) (fun _ s' => ∃ σ' H', Inv X pins σ' H' s' ∧ Q σ' H') X.xe s
noncomputable abbrev TSet := V → V → V → Hp → (Hp → Prop) → Prop
noncomputable def PSet (X : Cx) (t : TSet) : Prop :=
  ∀ (pins : List (Addr × Obj)) (s : Shared) (σ : St) (H : Hp) (o i v : V) (ov iv u : Value) (Q : Hp → Prop), Inv X pins σ H s → RelV o ov → RelV i iv → RelV v u → t o i v H Q →
    wpAny (model X.prog X.w) X.A (setItem ov iv u) (fun _ s' => ∃ H', Inv X pins σ H' s' ∧ Q H') X.xe s
section
variable {X : Cx} {pos : Pos}
noncomputable def gName (i : Nat) : TG := fun v σ H Q => Q (σ.set i (some v)) H
theorem pg_name {i : Nat} {x : Str} (hN : X.N.Nodup) (hi : X.N[i]? = some x) (hx : Loc X.env.scope x) (hf : X.fn x = true ∨ X.env.scope.names.lookup x = some .local := by first | exact .inl rfl | exact .inr rfl | assumption) : PG X (.Name x pos) (gName i) := by
  intro pins s σ H v u Q I r h
  exact wpAny_assign_Name (store_ok I hN hi hx r (fun s' I' => ⟨_, H, I', h⟩) hf)
noncomputable def gNil : TGs := fun vs σ H Q => vs = [] ∧ Q σ H
noncomputable def gCons (t : TG) (u : TGs) : TGs := fun vs σ H Q => ∃ v r, vs = v :: r ∧ t v σ H fun σ' H' => u r σ' H' Q
theorem pgs_nil : PGs X [] gNil := by
  intro pins s σ H vs us Q I r h
  obtain ⟨e, h⟩ := h
  subst e
  cases r
  exact assignInOrder_nil ⟨σ, H, I, h⟩
theorem pgs_cons {e : Expr} {es : List Expr} {t : TG} {u : TGs} (h1 : PG X e t) (h2 : PGs X es u)
    (hs : (assignEach (e :: es) X.env).map (·.2) = assign e X.env :: (assignEach es X.env).map (·.2) := by rfl) : PGs X (e :: es) (gCons t u) := by
  intro pins s σ H vs us Q I r h
  obtain ⟨v, vr, e1, h⟩ := h
  subst e1
  cases r with
  | cons r rr =>
    rw [hs]
    refine assignInOrder_cons (thn (h1 pins s σ H _ _ _ I r h) fun _ s1 ⟨σ1, H1, I1, q1⟩ => ?_)
    exact h2 pins s1 σ1 H1 _ _ Q I1 rr q1
noncomputable def gTup (K : PySem.W.Frag) (n : Nat) (t : TGs) : TG := fun v σ H Q => ∃ a xs, v = .ref a ∧ SqT K H a xs ∧ xs.length = n ∧ t xs σ H Q
theorem pg_tup {es : List Expr} {k : Nat} {t : TGs} {n : Nat} (hc : X.calm = true) (h : PGs X es t)
    (hn : (assignEach es X.env).length = n := by rfl) (hst : (assignEach es X.env).findIdx? (·.1) = none := by rfl) : PG X (.Tuple es k pos) (gTup X.K n t) := by
  intro pins s σ H v u Q I r hw
  obtain ⟨a, xs, e1, hq, hl, hw⟩ := hw
  subst e1
  cases r
  obtain ⟨its, rv, ht, hz⟩ := I.tuple hq
  refine assign_Tuple_tuple (I.ok.hd hc) ht (by simp [hn, ← hl, rv.length]) hst fun h' hx => ?_
  have I1 : Inv X pins σ H { s with heap := h' } := I.kept (t' := s.toks) fun b o e => hx b o (Nat.ne_of_lt (Heap.lt_size e)) e
  exact h pins _ σ H xs _ Q I1 (by simpa using rv) hw
noncomputable def gSub (to ti : TE) (t : TSet) : TG := fun v σ H Q => to σ H fun o H1 => ti σ H1 fun i H2 => t o i v H2 fun H3 => Q σ H3
theorem pg_sub {o i : Expr} {to ti : TE} {t : TSet} (ho : PE X o to) (hi : PE X i ti) (hs : PSet X t)
    (ha : ∀ v, assign (.Subscript o i pos) X.env v = (do
      let ov ← holding [v] (eval o X.env)
      let iv ← holding [v, ov] (eval i X.env)
      standAt pos
      holding [v, ov, iv] (setItem ov iv v)
      release [v, ov, iv] []) := by intro _; rfl) : PG X (.Subscript o i pos) (gSub to ti t) := by
  intro pins s σ H v u Q I r h
  rw [ha]
  refine wpAny_bind (wpAny_holding (thn (ho pins s σ H _ I h) fun ov s1 ⟨x, H1, I1, r1, q1⟩ => ?_))
  refine wpAny_bind (wpAny_holding (thn (hi pins s1 σ H1 _ I1 q1) fun iv s2 ⟨y, H2, I2, r2, q2⟩ => ?_))
  refine wpAny_bind (wpAny_standAt (wpAny_bind (wpAny_holding (thn (hs pins s2 σ H2 x y v ov iv u _ I2 r1 r2 r q2) fun _ s3 ⟨H3, I3, q3⟩ => ?_))))
  exact wpAny_release ⟨σ, H3, I3, q3⟩
noncomputable def tAsg (te : TE) (g : TG) : TS := fun D σ H => te σ H fun x H1 => g x σ H1 D.nx
theorem ps_asg {tg e : Expr} {te : TE} {g : TG} (he : PE X e te) (hg : PG X tg g) (hs : swapsWithSole [tg] e pos.line X.env = pure false := by rfl) (hw : swappedStores [tg] e X.env = pure none := by rfl)
    (h1 : (assignEach [tg] X.env).map (·.2) = [assign tg X.env] := by rfl) : PS X (.Assign [tg] e pos) (tAsg te g) := by
  intro pins s σ H D I h
  refine wpAny_Assign_stores (thn (he pins s σ H _ I h) fun v s1 ⟨x, H1, I1, r1, q1⟩ => ?_) hs hw
  rw [h1]
  exact thn (hg pins s1 σ H1 x v _ I1 r1 q1) fun _ s2 q => q
theorem ps_set {i : Nat} {x : Str} {e : Expr} {te : TE} {pos' : Pos} (hN : X.N.Nodup) (hi : X.N[i]? = some x) (hx : Loc X.env.scope x) (he : PE X e te) (hs : swapsWith e (some (.Name x pos')) pos.line X.env = pure false := by rfl) (hf : X.fn x = true ∨ X.env.scope.names.lookup x = some .local := by first | exact .inl rfl | exact .inr rfl | assumption) :
    PS X (.Assign [.Name x pos'] e pos) (tAsg te (gName i)) := by
  intro pins s σ H D I h
  refine wpAny_Assign_Name (thn (he pins s σ H _ I h) fun v s1 ⟨y, H1, I1, r1, q1⟩ => ?_) hs
  exact store_ok I1 hN hi hx r1 (fun s2 I2 => ⟨_, H1, I2, q1⟩) hf
end
section
variable {X : Cx} {pos : Pos}
end
structure It where
  go : Nat → Hp → Prop
  yld : Nat → Hp → V → Hp → Prop
  stop : Nat → Hp → Prop
noncomputable def FpOk (X : Cx) (pins : List (Addr × Obj)) (H : Hp) (b : Addr) : Prop :=
  H b = none ∧ b ≠ X.env.locals ∧ b ∉ X.fs ∧ (b ∈ X.ex ∨ X.s₀.heap.objs.size ≤ b) ∧ (∀ x c, X.env.cells.lookup x = some c → c ≠ b) ∧ ∀ p ∈ X.pn ++ pins, p.1 ≠ b
theorem Inv.fpOk {X : Cx} {pins : List (Addr × Obj)} {σ : St} {H H' : Hp} {s : Shared} {b : Addr} (I : Inv X pins σ H s) (hb : s.heap.objs.size ≤ b) (hn : H' b = none) : FpOk X pins H' b := by
  refine ⟨hn, Nat.ne_of_gt (Nat.lt_of_lt_of_le I.lt hb), I.nofs hb, .inr (Nat.le_trans I.sz hb), fun x c e z => ?_, fun p hp z => ?_⟩
  · obtain ⟨v, q⟩ := I.cell x c e
    exact absurd (Nat.lt_of_lt_of_le q.lt (by rw [z]; exact hb)) (Nat.lt_irrefl _)
  · exact absurd (Nat.lt_of_lt_of_le (Heap.lt_size (I.pin p hp).1) (by rw [z]; exact hb)) (Nat.lt_irrefl _)
structure Turn (P : Program) (w : World) (K : PySem.W.Frag) (tg : Expr) (J : It) (fp : List Addr) (it : Addr) (tn : Nat → Heap → Prop) : Prop where
  mem : it ∈ fp
  obj : ∀ i h, tn i h → ∀ b ∈ fp, ∃ o, h.get? b = some o ∧ ∀ v, o.data ≠ .cell v
  keep : ∀ i h h', tn i h → (∀ b ∈ fp, ∀ o, h.get? b = some o → h'.get? b = some o) → tn i h'
  item : ∀ (X : Cx), X.prog = P → X.w = w → X.K = K → X.calm = true → ∀ (i : Nat) (pins : List (Addr × Obj)) (s : Shared) (σ : St) (H : Hp) (E : Value → Shared → Prop), Inv X pins σ H s → (∀ b ∈ fp, FpOk X pins H b) → tn i s.heap → J.go i H →
    wpAny (model P w) X.A (pyNext (.ref it)) (fun r s1 => ∃ u, r = some u ∧
      wpAny (model P w) X.A (letOwnedTupleGo tg (.ref it) u) (fun _ s2 => ∃ x H', Inv X pins σ H' s2 ∧ RelV x u ∧ J.yld i H x H' ∧ tn (i + 1) s2.heap ∧ ∀ b ∈ fp, H' b = none) E s1) E s
  done : ∀ (X : Cx), X.prog = P → X.w = w → X.K = K → X.calm = true → ∀ (i : Nat) (pins : List (Addr × Obj)) (s : Shared) (σ : St) (H : Hp) (E : Value → Shared → Prop), Inv X pins σ H s → (∀ b ∈ fp, FpOk X pins H b) → tn i s.heap → J.stop i H →
    wpAny (model P w) X.A (pyNext (.ref it)) (fun r s1 => r = none ∧ Inv X pins σ H s1) E s
  self : ∀ (A : Around) (i : Nat) (s : Shared) (Q : Value → Shared → Prop) (E : Value → Shared → Prop), tn i s.heap → Q (.ref it) s → wpAny (model P w) A (pyIter (.ref it)) Q E s
noncomputable abbrev TI := St → Hp → (It → Hp → Prop) → Prop
noncomputable def PIE (X : Cx) (pins : List (Addr × Obj)) (σ : St) (tg : Expr) (R : It → Hp → Prop) (itv : Value) (s2 : Shared) : Prop :=
  ∃ (it : Addr) (fp : List Addr) (tn : Nat → Heap → Prop) (J : It) (H' : Hp), itv = .ref it ∧ Inv X pins σ H' s2 ∧ Turn X.prog X.w X.K tg J fp it tn ∧ tn 0 s2.heap ∧ (∀ b ∈ fp, FpOk X pins H' b) ∧ R J H'
noncomputable def PI (X : Cx) (tg iter : Expr) (wi : TI) : Prop :=
  ∀ (pins : List (Addr × Obj)) (s : Shared) (σ : St) (H : Hp) (R : It → Hp → Prop), Inv X pins σ H s → wi σ H R →
    wpAny (model X.prog X.w) X.A (eval iter X.env) (fun v s1 => wpAny (model X.prog X.w) X.A (pyIter v) (PIE X pins σ tg R) X.xe s1) X.xe s
theorem go_of {M : Model} {A : Around} {E : Value → Shared → Prop} {s : Shared} {tg : Expr} {it : Addr} {u : Value} {o : Obj} {n : String} {vs : Array Value} {Q : Unit → Shared → Prop} (ho : s.heap.get? it = some o) (hc : o.cls = .type n) (hd : o.data = .fields vs)
    (hn : ["enumerate", "zip", "dict_itemiterator", "dict_reverseitemiterator", "odict_iterator", "itertools.zip_longest", "itertools.pairwise"].contains n = false) (hQ : Q () s) : wpAny M A (letOwnedTupleGo tg (.ref it) u) Q E s := by
  unfold letOwnedTupleGo
  cases tg <;> first
    | exact wpAny_pure hQ
    | (cases u <;> first
        | exact wpAny_pure hQ
        | (refine wpAny_bind (wpAny_load ho ?_)
           rw [hc, hd]
           show wpAny M A (if (["enumerate", "zip", "dict_itemiterator", "dict_reverseitemiterator", "odict_iterator", "itertools.zip_longest", "itertools.pairwise"].contains n && vs[0]? == some (rawInt _)) = true then _ else _) Q E s
           rw [if_neg (by intro h; rw [hn, Bool.false_and] at h; cases h)]
           exact wpAny_pure hQ))
noncomputable def Itl (K : PySem.W.Frag) (a : Addr) : It :=
  ⟨fun i H => ∃ xs x, SqL K H a xs ∧ xs[i]? = some x, fun i H x H' => H' = H ∧ ∀ xs, SqL K H a xs → xs[i]? = some x, fun i H => ∃ xs, SqL K H a xs ∧ xs.length ≤ i⟩
noncomputable def Itt (K : PySem.W.Frag) (a : Addr) : It :=
  ⟨fun i H => ∃ xs x, SqT K H a xs ∧ xs[i]? = some x, fun i H x H' => H' = H ∧ ∀ xs, SqT K H a xs → xs[i]? = some x, fun i H => ∃ xs, SqT K H a xs ∧ xs.length ≤ i⟩
noncomputable def Itr (lo : Int) (n : Nat) : It := ⟨fun i _ => i < n, fun i H x H' => H' = H ∧ x = .int (lo + i), fun i _ => n ≤ i⟩
theorem turn_list {P : Program} {w : World} {K : PySem.W.Frag} {tg : Expr} (a it : Addr) : Turn P w K tg (Itl K a) [it] it (fun i h => h.IsListIter it a i) where
  mem := by simp
  obj := fun i h st b hb => by
    have e : b = it := by simpa using hb
    subst e
    obtain ⟨o, e, c, d⟩ := st
    exact ⟨o, e, fun v z => by rw [d] at z; cases z⟩
  keep := fun i h h' st k => st.at fun o e => k it (by simp) o e
  item := by
    intro X hP hw hK hc i pins s σ H E I hf st hg
    subst hP hw hK
    obtain ⟨xs, x, hq, hx⟩ := hg
    obtain ⟨its, rv, p, hz⟩ := I.list hq
    obtain ⟨u, hu, ru⟩ := rv.get hx
    obtain ⟨f0, f1, f2, f3, f4, f5⟩ := hf it (by simp)
    refine wpAny_pyNext_list_item st p.isList (x := u) (by simpa using hu) fun h' st' sb => ?_
    have I1 : Inv X pins σ H { s with heap := h' } := I.turned (t' := s.toks) (fun b o hb e => (sb.2 b hb).trans e) f0 f1 f3 f4 f5
    obtain ⟨o, e, c, d⟩ := id st'
    exact ⟨u, rfl, go_of (s := { s with heap := h' }) e c d (by decide) ⟨x, H, I1, ru, ⟨rfl, fun ys hy => by rw [I.list_inj hy hq]; exact hx⟩, st', fun b hb => (hf b hb).1⟩⟩
  done := by
    intro X hP hw hK hc i pins s σ H E I hf st hg
    subst hP hw hK
    obtain ⟨xs, hq, hx⟩ := hg
    obtain ⟨its, rv, p, hz⟩ := I.list hq
    obtain ⟨f0, f1, f2, f3, f4, f5⟩ := hf it (by simp)
    have hl := rv.length
    exact wpAny_pyNext_list_end (I.ok.hd hc) st p.isList (by simp; omega) fun h' eb => ⟨rfl, I.turned (t' := s.toks) (fun b o hb e => eb b o hb e) f0 f1 f3 f4 f5⟩
  self := fun _ _ _ _ _ st h => wpAny_pyIter_listiter st h
theorem turn_range {P : Program} {w : World} {K : PySem.W.Frag} {tg : Expr} (it : Addr) (lo : Int) (n : Nat) : Turn P w K tg (Itr lo n) [it] it (fun i h => IsRangeIter h it (lo + (i : Nat) * 1) ((n : Int) - (i : Nat)) 1) where
  mem := by simp
  obj := fun i h st b hb => by
    have e : b = it := by simpa using hb
    subst e
    exact ⟨_, st, fun v z => by
      have z' : Data.fields _ = Data.cell v := z
      cases z'⟩
  keep := fun i h h' st k => k it (by simp) _ st
  item := by
    intro X hP hw hK hc i pins s σ H E I hf st hg
    subst hP hw hK
    obtain ⟨f0, f1, f2, f3, f4, f5⟩ := hf it (by simp)
    have W := Walks.range (prog := X.prog) (w := X.w) (I.ok.hd hc) it lo 1 n
    refine W.item i s _ _ hg st fun v h' tk hv st' kk => ?_
    obtain ⟨t, rfl⟩ := hv
    have I1 : Inv X pins σ H { s with heap := h', toks := tk } := I.turned (fun b o hb e => kk b o (by simpa using hb) e) f0 f1 f3 f4 f5
    refine ⟨_, rfl, go_of (s := { s with heap := h', toks := tk }) (n := "range_iterator") st' rfl rfl (by decide) ⟨.int (lo + i), H, I1, ⟨t, ?_⟩, ⟨rfl, rfl⟩, st', fun b hb => (hf b hb).1⟩⟩
    rw [Int.mul_one]
  done := by
    intro X hP hw hK hc i pins s σ H E I hf st hg
    subst hP hw hK
    obtain ⟨f0, f1, f2, f3, f4, f5⟩ := hf it (by simp)
    exact wpAny_pyNext_range_end (I.ok.hd hc) st (by have : n ≤ i := hg; omega) fun h' eb => ⟨rfl, I.turned (t' := s.toks) (fun b o hb e => eb b o hb e) f0 f1 f3 f4 f5⟩
  self := fun _ _ _ _ _ st h => wpAny_pyIter_rangeiter st h
end L2
namespace L2
open PySem PySem.Spec PyProof.Rows
section
variable {X : Cx} {tg : Expr}
noncomputable def iList (K : PySem.W.Frag) (tl : TE) : TI := fun σ H R => tl σ H fun x H1 => ∃ a, x = .ref a ∧ (∃ xs, SqL K H1 a xs) ∧ R (Itl K a) H1
theorem pi_list {l : Expr} {tl : TE} (hl : PE X l tl) : PI X tg l (iList X.K tl) := by
  intro pins s σ H R I h
  refine thn (hl pins s σ H _ I h) fun v s1 ⟨x, H1, I1, r1, q1⟩ => ?_
  obtain ⟨a, e, ⟨xs, hq⟩, q⟩ := q1
  subst e
  cases r1
  obtain ⟨its, rv, p, hz⟩ := I1.list hq
  refine wpAny_pyIter_list p.isList ?_
  refine ⟨s1.heap.objs.size, [s1.heap.objs.size], _, _, H1, rfl, I1.kept (t' := s1.toks) fun b o e => Heap.get?_push_of_some _ e, turn_list a _, ⟨_, Heap.get?_push_size _ rfl, rfl, rfl⟩, fun b hb => ?_, q⟩
  have e : b = s1.heap.objs.size := by simpa using hb
  subst e
  exact I1.fpOk (Nat.le_refl _) (I1.hok.fresh (Nat.le_refl _))
theorem range_it {pins : List (Addr × Obj)} {σ : St} {H : Hp} {s : Shared} {R : It → Hp → Prop} {E : Value → Shared → Prop} {lo hi : Int} {t u v : Tok} {tk : Nat} (I : Inv X pins σ H s) (h1 : -(2 ^ 62) ≤ lo) (h2 : lo < 2 ^ 62) (h3 : -(2 ^ 62) ≤ hi) (h4 : hi < 2 ^ 62)
    (q : R (Itr lo (hi - lo).toNat) H) : wpAny (model X.prog X.w) X.A (pyIter (.ref s.heap.objs.size)) (PIE X pins σ tg R) E { s with heap := s.heap.push { cls := .type "range", data := .fields #[.int lo t, .int hi u, .int 1 v] }, toks := tk } := by
  refine wpAny_pyIter_range (IsRange.new ..) (small_one h1 h2 h3 h4) ?_
  have I1 : Inv X pins σ H { s with heap := s.heap.push { cls := .type "range", data := .fields #[.int lo t, .int hi u, .int 1 v] }, toks := tk } := I.kept fun b o e => Heap.get?_push_of_some _ e
  refine ⟨(s.heap.push { cls := .type "range", data := .fields #[.int lo t, .int hi u, .int 1 v] }).objs.size, [(s.heap.push { cls := .type "range", data := .fields #[.int lo t, .int hi u, .int 1 v] }).objs.size], _, _, H, rfl,
    I1.kept (t' := tk) fun b o e => Heap.get?_push_of_some _ e, turn_range _ lo (hi - lo).toNat, ?_, fun b hb => ?_, q⟩
  · have e1 : lo + ((0 : Nat) : Int) * 1 = lo := by simp
    have e2 : (((hi - lo).toNat : Nat) : Int) - ((0 : Nat) : Int) = Builtin.Range.rangeSize lo hi 1 := by rw [rangeSize_one]; split <;> omega
    show IsRangeIter _ _ (lo + ((0 : Nat) : Int) * 1) ((((hi - lo).toNat : Nat) : Int) - ((0 : Nat) : Int)) 1
    rw [e1, e2]
    exact Heap.get?_push_size _ rfl
  · have e : b = (s.heap.push { cls := .type "range", data := .fields #[.int lo t, .int hi u, .int 1 v] }).objs.size := by simpa using hb
    subst e
    exact I1.fpOk (Nat.le_refl _) (I1.hok.fresh (Nat.le_refl _))
noncomputable def iRng1 (ta : TA) : TI := fun σ H R => ta σ H fun vs H1 => ∃ j : Int, vs = [.int j] ∧ -(2 ^ 62) ≤ j ∧ j < 2 ^ 62 ∧ R (Itr 0 j.toNat) H1
theorem pi_range1 {a : Expr} {ta : TA} {p pos : Pos} (hg : Gl X "range") (hm : X.mg "range" = none) (ha : PA X [a] ta) (hs : starEach [a] X.env = [(false, eval a X.env)] := by rfl) : PI X tg (.Call (.Name "range" p) [a] [] pos) (iRng1 ta) := by
  intro pins s σ H R I h
  refine Call_ (ld_blt I hg hm boot_range (PyProof.Rows.callWith_type1 (thn (ha pos pins s σ H _ I h) fun us s1 ⟨vs, H1, I1, r1, q1⟩ => ?_) hs rfl))
  obtain ⟨j, e, q1, q2, q⟩ := q1
  subst e
  cases r1 with
  | cons r rr =>
    cases rr
    obtain ⟨t, rfl⟩ := r
    exact call_range_1 (range_it I1 (by omega) (by omega) q1 q2 (by simpa using q))
noncomputable def tFor (wi : TI) (g : TG) (tb : TS) : TS := fun D σ H => wi σ H fun J H1 => ∃ W : Nat → Nat → St → Hp → Prop, (∃ m, W 0 m σ H1) ∧ ∀ i m σ H, W i m σ H →
  (J.stop i H ∧ D.nx σ H) ∨ (J.go i H ∧ ∃ N : St → Hp → Prop, (∀ σ' H', N σ' H' → ∃ m', m' < m ∧ W (i + 1) m' σ' H') ∧ ∀ x H', J.yld i H x H' → g x σ H' fun σ2 H2 => tb { D with nx := N, ct := N, bk := D.nx } σ2 H2)
noncomputable def pinsAt (fp : List Addr) (h : Heap) : List (Addr × Obj) := fp.filterMap fun b => (h.get? b).map fun o => (b, o)
theorem mem_pinsAt {fp : List Addr} {h : Heap} {b : Addr} {o : Obj} (hb : b ∈ fp) (e : h.get? b = some o) : (b, o) ∈ pinsAt fp h := List.mem_filterMap.mpr ⟨b, hb, by rw [e]; rfl⟩
theorem of_pinsAt {fp : List Addr} {h : Heap} {p : Addr × Obj} (hp : p ∈ pinsAt fp h) : p.1 ∈ fp ∧ h.get? p.1 = some p.2 := by
  obtain ⟨b, hb, e⟩ := List.mem_filterMap.mp hp
  cases q : h.get? b with
  | none => rw [q] at e; cases e
  | some o =>
    rw [q] at e
    have e' : (b, o) = p := Option.some.inj e
    subst e'
    exact ⟨hb, q⟩
theorem Inv.pinned {pins : List (Addr × Obj)} {σ : St} {H : Hp} {s : Shared} {fp : List Addr} (I : Inv X pins σ H s) (hf : ∀ b ∈ fp, FpOk X pins H b) (ho : ∀ b ∈ fp, ∃ o, s.heap.get? b = some o ∧ ∀ v, o.data ≠ .cell v) : Inv X (pins ++ pinsAt fp s.heap) σ H s :=
  I.pins_of fun p hp => (List.mem_append.mp hp).elim (fun z => I.pin p (List.mem_append_right _ z)) fun z => by
    obtain ⟨hb, e⟩ := of_pinsAt z
    obtain ⟨f0, f1, f2, _⟩ := hf p.1 hb
    obtain ⟨o, e', d⟩ := ho p.1 hb
    rw [e] at e'; cases e'
    exact ⟨e, f0, f1, f2, d⟩
theorem Inv.unpinned {pins pl : List (Addr × Obj)} {σ : St} {H : Hp} {s : Shared} (I : Inv X (pins ++ pl) σ H s) : Inv X pins σ H s := I.pins_of fun p hp => I.pin p (List.mem_append_right _ (List.mem_append_left _ hp))
theorem ps_for {iter : Expr} {body : List Stmt} {wi : TI} {g : TG} {tb : TS} {pos : Pos} (hp : PassesOwn (model X.prog X.w) X.A X.env X.xe) (hc : X.calm = true) (hi : PI X tg iter wi) (hg : PG X tg g) (hb : PSs X body tb)
    (hs : ∀ x, foldedSetIterable iter X.env x = pure x := by intro _; rfl) : PS X (.For tg iter body [] pos) (tFor wi g tb) := by
  intro pins s σ H D I h
  refine wpAny_For (thn (hi pins s σ H _ I h) fun v s1 h1 => thn h1 fun itv s2 h2 => ?_) hs
  obtain ⟨it, fp, tn, J, H2, e, I2, T, st2, f2, W, ⟨m0, w0⟩, turn⟩ := h2
  subst e
  have stat : ∀ {H' : Hp}, (∀ b ∈ fp, H' b = none) → ∀ b ∈ fp, FpOk X pins H' b := fun hn b hb => ⟨hn b hb, (f2 b hb).2⟩
  refine codeAny_forLoop_any (fun n s' => ∃ i σ' H', Inv X pins σ' H' s' ∧ tn i s'.heap ∧ (∀ b ∈ fp, H' b = none) ∧ W i n σ' H') ?_ m0 ⟨0, σ, H2, I2, st2, fun b hb => (f2 b hb).1, w0⟩
  rintro n s3 ⟨i, σ3, H3, I3, st3, fr3, w3⟩
  rcases turn i n σ3 H3 w3 with ⟨stop, qn⟩ | ⟨go, N, hN, step⟩
  · refine wpAny_passesOwn hp (thn (T.done X rfl rfl rfl hc i pins s3 σ3 H3 X.xe I3 (stat fr3) st3 stop) fun r s4 ⟨hr, I4⟩ => ?_)
    subst hr
    exact wpAny_execs_nil ⟨σ3, H3, I4, qn⟩
  · refine wpAny_passesOwn hp (thn (T.item X rfl rfl rfl hc i pins s3 σ3 H3 X.xe I3 (stat fr3) st3 go) fun r s4 ⟨u, hr, h4⟩ => ?_)
    subst hr
    refine wpAny_passesOwn hp (thn h4 fun _ s5 ⟨x, H5, I5, r5, y5, st5, fr5⟩ => ?_)
    have I5' := I5.pinned (stat fr5) (T.obj _ _ st5)
    refine wpAny_passesOwn hp (thn (hg _ s5 σ3 H5 x u _ I5' r5 (step x H5 y5)) fun _ s6 ⟨σ6, H6, I6, q6⟩ => ?_)
    refine wpAny_passesOwn hp (thn (hb _ s6 σ6 H6 _ I6 q6) fun f s7 q7 => ?_)
    have again : ∀ {σ7 : St} {H7 : Hp}, Inv X (pins ++ pinsAt fp s5.heap) σ7 H7 s7 → N σ7 H7 → ∃ m, m < n ∧ ∃ i σ' H', Inv X pins σ' H' s7 ∧ tn i s7.heap ∧ (∀ b ∈ fp, H' b = none) ∧ W i m σ' H' := fun {σ7 H7} I7 n7 => by
      obtain ⟨m', hm, w7⟩ := hN σ7 H7 n7
      refine ⟨m', hm, i + 1, σ7, H7, I7.unpinned, T.keep _ _ _ st5 fun b hb o e => (I7.pin (b, o) (List.mem_append_right _ (List.mem_append_right _ (mem_pinsAt hb e)))).1, fun b hb => ?_, w7⟩
      obtain ⟨o, e, d⟩ := T.obj _ _ st5 b hb
      exact (I7.pin (b, o) (List.mem_append_right _ (List.mem_append_right _ (mem_pinsAt hb e)))).2.1
    cases f with
    | next => obtain ⟨σ7, H7, I7, n7⟩ := q7; exact again I7 n7
    | cont => obtain ⟨σ7, H7, I7, n7⟩ := q7; exact again I7 n7
    | brk => obtain ⟨σ7, H7, I7, q7⟩ := q7; exact ⟨σ7, H7, I7.unpinned, q7⟩
    | ret v => obtain ⟨x7, σ7, H7, I7, r7, q7⟩ := q7; exact ⟨x7, σ7, H7, I7.unpinned, r7, q7⟩
end
end L2
namespace L2
open PySem PySem.Spec PyProof.Rows
noncomputable abbrev R2 := V → V → Hp → VK → Prop
noncomputable def OpR (X : Cx) (f : Value → Value → Sem Value) (r : R2) : Prop :=
  ∀ (pins : List (Addr × Obj)) (s : Shared) (σ : St) (H : Hp) (x y : V) (v u : Value) (Q : VK), Inv X pins σ H s → RelV x v → RelV y u → r x y H Q →
    wpAny (model X.prog X.w) X.A (f v u) (EP X pins σ Q) X.xe s
noncomputable def UnR (X : Cx) (f : Value → Sem Value) (r : V → Hp → VK → Prop) : Prop :=
  ∀ (pins : List (Addr × Obj)) (s : Shared) (σ : St) (H : Hp) (x : V) (v : Value) (Q : VK), Inv X pins σ H s → RelV x v → r x H Q →
    wpAny (model X.prog X.w) X.A (f v) (EP X pins σ Q) X.xe s
noncomputable def CallR (X : Cx) (f : Value) (r : List V → Hp → VK → Prop) : Prop :=
  ∀ (pins : List (Addr × Obj)) (s : Shared) (σ : St) (H : Hp) (xs : List V) (us : List Value) (Q : VK), Inv X pins σ H s → Vals xs us → r xs H Q →
    wpAny (model X.prog X.w) X.A (call f us) (EP X pins σ Q) X.xe s
noncomputable def tOp (r : R2) (ta tb : TE) : TE := fun σ H Q => ta σ H fun x H1 => tb σ H1 fun y H2 => r x y H2 Q
noncomputable def tUn (r : V → Hp → VK → Prop) (ta : TE) : TE := fun σ H Q => ta σ H fun x H1 => r x H1 Q
noncomputable def rI (C : Int → Int → Prop) (g : Int → Int → V) : R2 := fun x y H Q => ∃ i j, x = .int i ∧ y = .int j ∧ C i j ∧ Q (g i j) H
noncomputable def rI0 (g : Int → Int → V) : R2 := fun x y H Q => ∃ i j, x = .int i ∧ y = .int j ∧ Q (g i j) H
noncomputable def rU (g : Int → V) : V → Hp → VK → Prop := fun x H Q => ∃ i, x = .int i ∧ Q (g i) H
section
variable {X : Cx} {a b c : Expr} {ta tb tc : TE} {pos : Pos}
theorem binT (ha : PE X a ta) (hb : PE X b tb) {pins : List (Addr × Obj)} {s : Shared} {σ : St} {H : Hp} {R : V → V → Hp → Prop} (I : Inv X pins σ H s)
    (h : ta σ H fun x H1 => tb σ H1 fun y H2 => R x y H2) {Q : Value → Shared → Prop} {f : Value → Value → Sem Value}
    (hf : ∀ v u s2 x y H2, Inv X pins σ H2 s2 → RelV x v → RelV y u → R x y H2 → wpAny (model X.prog X.w) X.A (f v u) Q X.xe s2) :
    wpAny (model X.prog X.w) X.A (eval a X.env) (fun v s₁ => wpAny (model X.prog X.w) X.A (eval b X.env) (fun u s₂ => wpAny (model X.prog X.w) X.A (f v u) Q X.xe s₂) X.xe s₁) X.xe s := by
  refine thn (ha pins s σ H _ I h) fun v s1 ⟨x, H1, I1, r1, q1⟩ => ?_
  refine thn (hb pins s1 σ H1 _ I1 q1) fun u s2 ⟨y, H2, I2, r2, q2⟩ => ?_
  exact hf v u s2 x y H2 I2 r1 r2 q2
theorem pe_op {op : Operator} {r : R2} (ho : OpR X (binaryOp op) r) (ha : PE X a ta) (hb : PE X b tb) : PE X (.BinOp a op b pos) (tOp r ta tb) := by
  intro pins s σ H Q I h
  exact wpAny_BinOp (binT ha hb I h fun v u s2 x y H2 I2 rx ry q => ho pins s2 σ H2 x y v u Q I2 rx ry q)
theorem pe_un {op : UnaryOp} {r : V → Hp → VK → Prop} (ho : UnR X (unaryOp op) r) (ha : PE X a ta) : PE X (.UnaryOp op a pos) (tUn r ta) := by
  intro pins s σ H Q I h
  exact UnaryOp_ (thn (ha pins s σ H _ I h) fun v s1 ⟨x, H1, I1, r1, q1⟩ => ho pins s1 σ H1 x v Q I1 r1 q1)
theorem opI {f : Value → Value → Sem Value} {C : Int → Int → Prop} {g : Int → Int → Int}
    (rule : ∀ (i j : Int) (t u : Tok) (s : Shared) (Q : Value → Shared → Prop) (E : Value → Shared → Prop), C i j → Q (.int (g i j) s.toks) { s with toks := s.toks + 1 } → wpAny (model X.prog X.w) X.A (f (.int i t) (.int j u)) Q E s) :
    OpR X f (rI C fun i j => .int (g i j)) := by
  intro pins s σ H x y v u Q I rx ry h
  obtain ⟨i, j, rfl, rfl, hc, q⟩ := h
  obtain ⟨t, rfl⟩ := rx
  obtain ⟨t', rfl⟩ := ry
  exact rule i j t t' s _ _ hc ⟨.int (g i j), H, I.tok _, ⟨_, rfl⟩, q⟩
theorem opI0 {f : Value → Value → Sem Value} {g : Int → Int → Int}
    (rule : ∀ (i j : Int) (t u : Tok) (s : Shared) (Q : Value → Shared → Prop) (E : Value → Shared → Prop), Q (.int (g i j) s.toks) { s with toks := s.toks + 1 } → wpAny (model X.prog X.w) X.A (f (.int i t) (.int j u)) Q E s) :
    OpR X f (rI0 fun i j => .int (g i j)) := by
  intro pins s σ H x y v u Q I rx ry h
  obtain ⟨i, j, rfl, rfl, q⟩ := h
  obtain ⟨t, rfl⟩ := rx
  obtain ⟨t', rfl⟩ := ry
  exact rule i j t t' s _ _ ⟨.int (g i j), H, I.tok _, ⟨_, rfl⟩, q⟩
theorem opB0 {f : Value → Value → Sem Value} {g : Int → Int → Bool}
    (rule : ∀ (i j : Int) (t u : Tok) (s : Shared) (Q : Value → Shared → Prop) (E : Value → Shared → Prop), Q (.bool (g i j)) s → wpAny (model X.prog X.w) X.A (f (.int i t) (.int j u)) Q E s) :
    OpR X f (rI0 fun i j => .bl (g i j)) := by
  intro pins s σ H x y v u Q I rx ry h
  obtain ⟨i, j, rfl, rfl, q⟩ := h
  obtain ⟨t, rfl⟩ := rx
  obtain ⟨t', rfl⟩ := ry
  exact rule i j t t' s _ _ ⟨.bl (g i j), H, I, rfl, q⟩
noncomputable def CDiv (i j : Int) : Prop := 0 < j ∧ j < 1073741824
noncomputable def CPow (i j : Int) : Prop := 0 ≤ j ∧ j ≤ 1000000 ∧ i.natAbs < 2 ^ 64
noncomputable def CMul (i j : Int) : Prop := (-(2 ^ 64) < i ∧ i < 2 ^ 64) ∨ (-(2 ^ 64) < j ∧ j < 2 ^ 64)
theorem CMul.ok {i j : Int} (h : CMul i j) : IntMulOk i j := by
  rcases h with ⟨h1, h2⟩ | ⟨h1, h2⟩
  · exact .of_left (intBits_le_64 h1 h2)
  · exact .of_right (intBits_le_64 h1 h2)
theorem op_add : OpR X (binaryOp .Add) (rI0 fun i j => .int (i + j)) := opI0 fun _ _ _ _ _ _ _ q => add_int q
theorem op_mul : OpR X (binaryOp .Mult) (rI CMul fun i j => .int (i * j)) := opI fun _ _ _ _ _ _ _ hc q => mul_int q hc.ok
theorem op_fdiv : OpR X (binaryOp .FloorDiv) (rI CDiv fun i j => .int (i / j)) := opI fun i j _ _ _ _ _ hc q => by
  have h1 : (0 : Int) < j := hc.1
  have h2 : j < 1073741824 := hc.2
  exact floordiv_int (by omega) (by rw [Int.fdiv_eq_ediv_of_nonneg i (by omega)]; exact q) (.inl (PyProof.noPylong_small (by omega)))
theorem op_mod : OpR X (binaryOp .Mod) (rI (fun _ j => 0 < j) fun i j => .int (i % j)) := opI fun i j _ _ _ _ _ hc q => by
  have h1 : (0 : Int) < j := hc
  exact mod_int' (by omega) (by rw [Int.fmod_eq_emod_of_nonneg i (by omega)]; exact q)
theorem op_pow : OpR X (binaryOp .Pow) (rI CPow fun i j => .int (i ^ j.toNat)) := opI fun _ _ _ _ _ _ _ hc q => pow_int_small hc.1 hc.2.1 hc.2.2 q
theorem unI {f : Value → Sem Value} {g : Int → Int}
    (rule : ∀ (i : Int) (t : Tok) (s : Shared) (Q : Value → Shared → Prop) (E : Value → Shared → Prop), Q (.int (g i) s.toks) { s with toks := s.toks + 1 } → wpAny (model X.prog X.w) X.A (f (.int i t)) Q E s) :
    UnR X f (rU fun i => .int (g i)) := by
  intro pins s σ H x v Q I rx h
  obtain ⟨i, rfl, q⟩ := h
  obtain ⟨t, rfl⟩ := rx
  exact rule i t s _ _ ⟨.int (g i), H, I.tok _, ⟨_, rfl⟩, q⟩
theorem un_neg : UnR X (unaryOp .USub) (rU fun i => .int (-i)) := unI fun _ _ _ _ _ q => neg_int q
end
noncomputable def scal : V → V → Bool
  | .non, .non => true | .non, .int _ => true | .int _, .non => true | .non, .bl _ => true | .bl _, .non => true | .non, .str _ => true | .str _, .non => true
  | .int _, .int _ => true | .bl _, .bl _ => true | .str _, .str _ => true | .byt _, .byt _ => true
  | .int _, .str _ => true | .str _, .int _ => true | .bl _, .str _ => true | .str _, .bl _ => true
  | _, _ => false
noncomputable def rEq : R2 := fun x y H Q => scal x y = true ∧ Q (.bl (decide (x = y))) H
noncomputable def rNe : R2 := fun x y H Q => scal x y = true ∧ Q (.bl (!decide (x = y))) H
theorem dec_int {i j : Int} : decide (V.int i = V.int j) = (i == j) := by
  rw [Bool.eq_iff_iff]
  simp
theorem dec_bl {i j : Bool} : decide (V.bl i = V.bl j) = (i == j) := by
  rw [Bool.eq_iff_iff]
  simp
theorem dec_str {i j : Str} : decide (V.str i = V.str j) = (i == j) := by
  rw [Bool.eq_iff_iff]
  simp
theorem dec_byt {i j : Array UInt8} : decide (V.byt i = V.byt j) = (i.toList == j.toList) := by
  rw [Bool.eq_iff_iff]
  cases i
  cases j
  simp
section
variable {X : Cx} {a b c : Expr} {ta tb tc : TE} {pos : Pos}
theorem fin_bl {pins : List (Addr × Obj)} {σ : St} {H : Hp} {s : Shared} {Q : VK} {k k' : Bool} (I : Inv X pins σ H s) (q : Q (.bl k) H) (e : k = k') : EP X pins σ Q (.bool k') s := by
  subst e
  exact ⟨.bl k, H, I, rfl, q⟩
theorem op_eq : OpR X (compareOp .Eq) rEq := by
  intro pins s σ H x y v u Q I rx ry h
  obtain ⟨hs, q⟩ := h
  cases x with
  | non =>
    cases rx
    cases y with
    | non => cases ry; exact PySem.EqNone.eq_none_none (fin_bl I q (by simp))
    | bl j => cases ry; exact PySem.EqNone.eq_none_bool (fin_bl I q (by simp))
    | int j => obtain ⟨t', rfl⟩ := ry; exact PySem.EqNone.eq_none_int (fin_bl I q (by simp))
    | str j => obtain ⟨t', rfl⟩ := ry; exact PySem.EqNone.eq_none_str (fin_bl I q (by simp))
    | _ => exact absurd (show false = true from hs) Bool.false_ne_true
  | bl i =>
    cases rx
    cases y with
    | non => cases ry; exact PySem.EqNone.eq_bool_none (fin_bl I q (by simp))
    | bl j => cases ry; exact eq_bool (fin_bl I q dec_bl)
    | str j => obtain ⟨t', rfl⟩ := ry; exact PySem.EqMixed.eq_bool_str (fin_bl I q (by simp))
    | _ => exact absurd (show false = true from hs) Bool.false_ne_true
  | int i =>
    obtain ⟨t, rfl⟩ := rx
    cases y with
    | non => cases ry; exact PySem.EqNone.eq_int_none (fin_bl I q (by simp))
    | int j => obtain ⟨t', rfl⟩ := ry; exact eq_int (fin_bl I q dec_int)
    | str j => obtain ⟨t', rfl⟩ := ry; exact PySem.EqMixed.eq_int_str (fin_bl I q (by simp))
    | _ => exact absurd (show false = true from hs) Bool.false_ne_true
  | str i =>
    obtain ⟨t, rfl⟩ := rx
    cases y with
    | non => cases ry; exact PySem.EqNone.eq_str_none (fin_bl I q (by simp))
    | bl j => cases ry; exact PySem.EqMixed.eq_str_bool (fin_bl I q (by simp))
    | int j => obtain ⟨t', rfl⟩ := ry; exact PySem.EqMixed.eq_str_int (fin_bl I q (by simp))
    | str j => obtain ⟨t', rfl⟩ := ry; exact eq_str (fin_bl I q dec_str)
    | _ => exact absurd (show false = true from hs) Bool.false_ne_true
  | byt i =>
    obtain ⟨t, rfl⟩ := rx
    cases y with
    | byt j => obtain ⟨t', rfl⟩ := ry; exact PySem.W.eq_bytes (fin_bl I q dec_byt)
    | _ => exact absurd (show false = true from hs) Bool.false_ne_true
  | _ => cases y <;> exact absurd (show false = true from hs) Bool.false_ne_true
theorem op_ne : OpR X (compareOp .NotEq) rNe := by
  intro pins s σ H x y v u Q I rx ry h
  obtain ⟨hs, q⟩ := h
  cases x with
  | non =>
    cases rx
    cases y with
    | non => cases ry; exact PySem.EqNone.ne_none_none (fin_bl I q (by simp))
    | bl j => cases ry; exact PySem.EqNone.ne_none_bool (fin_bl I q (by simp))
    | int j => obtain ⟨t', rfl⟩ := ry; exact PySem.EqNone.ne_none_int (fin_bl I q (by simp))
    | str j => obtain ⟨t', rfl⟩ := ry; exact PySem.EqNone.ne_none_str (fin_bl I q (by simp))
    | _ => exact absurd (show false = true from hs) Bool.false_ne_true
  | bl i =>
    cases rx
    cases y with
    | non => cases ry; exact PySem.EqNone.ne_bool_none (fin_bl I q (by simp))
    | bl j => cases ry; exact ne_bool (fin_bl I q (congrArg not dec_bl))
    | str j => obtain ⟨t', rfl⟩ := ry; exact PySem.EqMixed.ne_bool_str (fin_bl I q (by simp))
    | _ => exact absurd (show false = true from hs) Bool.false_ne_true
  | int i =>
    obtain ⟨t, rfl⟩ := rx
    cases y with
    | non => cases ry; exact PySem.EqNone.ne_int_none (fin_bl I q (by simp))
    | int j => obtain ⟨t', rfl⟩ := ry; exact ne_int (fin_bl I q (congrArg not dec_int))
    | str j => obtain ⟨t', rfl⟩ := ry; exact PySem.EqMixed.ne_int_str (fin_bl I q (by simp))
    | _ => exact absurd (show false = true from hs) Bool.false_ne_true
  | str i =>
    obtain ⟨t, rfl⟩ := rx
    cases y with
    | non => cases ry; exact PySem.EqNone.ne_str_none (fin_bl I q (by simp))
    | bl j => cases ry; exact PySem.EqMixed.ne_str_bool (fin_bl I q (by simp))
    | int j => obtain ⟨t', rfl⟩ := ry; exact PySem.EqMixed.ne_str_int (fin_bl I q (by simp))
    | str j => obtain ⟨t', rfl⟩ := ry; exact ne_str (fin_bl I q (congrArg not dec_str))
    | _ => exact absurd (show false = true from hs) Bool.false_ne_true
  | byt i =>
    obtain ⟨t, rfl⟩ := rx
    cases y with
    | byt j => obtain ⟨t', rfl⟩ := ry; exact PySem.W.ne_bytes (fin_bl I q (congrArg not dec_byt))
    | _ => exact absurd (show false = true from hs) Bool.false_ne_true
  | _ => cases y <;> exact absurd (show false = true from hs) Bool.false_ne_true
theorem op_lt : OpR X (compareOp .Lt) (rI0 fun i j => .bl (decide (i < j))) := opB0 fun _ _ _ _ _ _ _ q => lt_int q
theorem op_gt : OpR X (compareOp .Gt) (rI0 fun i j => .bl (decide (j < i))) := opB0 fun _ _ _ _ _ _ _ q => gt_int q
theorem op_in_str : OpR X (compareOp .In) (fun x y H Q => ∃ i j, x = .str i ∧ y = .str j ∧ Q (.bl (!(Builtin.Str.occurrences j i 0 j.length 1).isEmpty)) H) := by
  intro pins s σ H x y v u Q I rx ry h
  obtain ⟨i, j, rfl, rfl, q⟩ := h
  obtain ⟨t, rfl⟩ := rx
  obtain ⟨t', rfl⟩ := ry
  exact in_str (fin_bl I q rfl)
theorem op_isN : OpR X (compareOp .Is) (fun x y H Q => y = .non ∧ Q (.bl (decide (x = .non))) H) := by
  intro pins s σ H x y v u Q I rx ry h
  obtain ⟨rfl, q⟩ := h
  cases ry
  refine is_none_gen (fin_bl I q ?_)
  cases x <;> first
    | (cases rx; rfl)
    | (obtain ⟨t, rfl⟩ := rx; rfl)
theorem pe_cmpR {op : CmpOp} {r : R2} (ho : OpR X (compareOp op) r) (ha : PE X a ta) (hb : PE X b tb) (hm : behindInMarks op b = false) : PE X (.Compare a [op] [b] pos) (tOp r ta tb) := by
  intro pins s σ H Q I h
  exact wpAny_Compare1 (binT ha hb I h fun v u s2 x y H2 I2 rx ry q => ho pins s2 σ H2 x y v u Q I2 rx ry q) hm
noncomputable def tTest (t : TE) : TT := fun σ H Q => t σ H fun x H' => ∃ k, x = .bl k ∧ Q k H'
theorem pt_cmpR {op : CmpOp} {r : R2} (ho : OpR X (compareOp op) r) (ha : PE X a ta) (hb : PE X b tb) (hm : behindInMarks op b = false) : PT X (.Compare a [op] [b] pos) (tTest (tOp r ta tb)) := by
  intro pins s σ H Q I h
  refine wpAny_isTrue_Compare1 (thn (ha pins s σ H _ I h) fun v s1 ⟨x, H1, I1, r1, q1⟩ => thn (hb pins s1 σ H1 _ I1 q1) fun u s2 ⟨y, H2, I2, r2, q2⟩ =>
    thn (ho pins s2 σ H2 x y v u _ I2 r1 r2 q2) fun c s3 ⟨z, H3, I3, r3, k, e, q3⟩ => ?_) hm
  subst e
  cases r3
  exact wpAny_truthy_bool ⟨H3, I3, q3⟩
noncomputable def tChain (r r' : R2) (ta tb tc : TE) : TE := fun σ H Q => ta σ H fun x H1 => tb σ H1 fun y H2 => r x y H2 fun z H3 => ∃ k, z = .bl k ∧
  (if k = true then tc σ H3 fun w' H4 => r' y w' H4 Q else Q (.bl false) H3)
theorem pe_chain {op op' : CmpOp} {r r' : R2} (ho : OpR X (compareOp op) r) (ho' : OpR X (compareOp op') r') (ha : PE X a ta) (hb : PE X b tb) (hc : PE X c tc)
    (hm : lastMarks [op, op'] [b, c] = false := by with_unfolding_all rfl) : PE X (.Compare a [op, op'] [b, c] pos) (tChain r r' ta tb tc) := by
  intro pins s σ H Q I h
  refine Compare_chain (thn (ha pins s σ H _ I h) fun v s1 ⟨x, H1, I1, r1, q1⟩ => chain_link (thn (hb pins s1 σ H1 _ I1 q1) fun u s2 ⟨y, H2, I2, r2, q2⟩ =>
    thn (ho pins s2 σ H2 x y v u _ I2 r1 r2 q2) fun d s3 ⟨z, H3, I3, r3, k, e, q3⟩ => ?_)) hm
  subst e
  cases r3
  refine wpAny_truthy_bool ?_
  cases k with
  | false => exact ite_ff ⟨.bl false, H3, I3, rfl, q3⟩
  | true => exact ite_tt (chain_last (thn (hc pins s3 σ H3 _ I3 q3) fun w' s4 ⟨z', H4, I4, r4, q4⟩ => ho' pins s4 σ H4 y z' u w' Q I4 r2 r4 q4))
theorem line63 : (sizeLine : Nat) < 2 ^ 63 := by rw [sizeLine_eq]; decide
theorem op_add_str : OpR X (binaryOp .Add) (fun x y H Q => ∃ i j, x = .str i ∧ y = .str j ∧ i.length + j.length ≤ sizeLine ∧ Q (.str (i ++ j)) H) := by
  intro pins s σ H x y v u Q I rx ry h
  obtain ⟨i, j, rfl, rfl, hz, q⟩ := h
  obtain ⟨t, rfl⟩ := rx
  obtain ⟨t', rfl⟩ := ry
  exact add_str (fun t' tk => ⟨.str (i ++ j), H, I.tok _, ⟨_, rfl⟩, q⟩) hz
theorem vals1 {x : V} {us : List Value} (r : Vals [x] us) : ∃ u, us = [u] ∧ RelV x u := by
  cases r with
  | cons r1 r2 => cases r2; exact ⟨_, rfl, r1⟩
theorem vals2 {x y : V} {us : List Value} (r : Vals [x, y] us) : ∃ u w', us = [u, w'] ∧ RelV x u ∧ RelV y w' := by
  cases r with
  | cons r1 r2 =>
    cases r2 with
    | cons r3 r4 => cases r4; exact ⟨_, _, rfl, r1, r3⟩
end
end L2
namespace L2
open PySem PySem.Spec PyProof.Rows
structure ObjM (h : Heap) (x dx C : Addr) (mA : Str → Option Value) : Prop where
  obj : h.get? x = some (PySem.W.instObj C dx)
  ns : h.Ns1 dx mA
  ne : dx ≠ x
theorem lookIn_ns {h : Heap} {dx : Addr} {mA : Str → Option Value} (n : h.Ns1 dx mA) : ∃ od, h.get? dx = some od ∧ ∀ name, PySem.W.lookIn name od = some (mA name) := by
  obtain ⟨o, es, ep, ho, hd, hk, _, hm⟩ := n
  refine ⟨o, ho, fun name => ?_⟩
  have e := hm name
  unfold nsFind findBy at e
  rw [← Array.find?_toList] at e
  unfold PySem.W.lookIn
  rw [hd]
  dsimp only
  split
  · rename_i y q
    rw [q] at e
    exact congrArg some e
  · rename_i q
    rw [q] at e
    have a : es.toList.any (·.refKey) = false := by
      rw [List.any_eq_false]
      intro y hy
      obtain ⟨z, t, hkey⟩ := hk y (Array.mem_toList_iff.mp hy)
      simp [DictEntry.refKey, hkey]
    have a' : ¬ es.toList.any (·.refKey) = true := by rw [a]; exact Bool.false_ne_true
    rw [if_neg a']
    exact congrArg some e
theorem ObjM.look {h : Heap} {x dx C : Addr} {mA : Str → Option Value} (I : ObjM h x dx C mA) : ∃ od, PySem.W.InstAt h x (PySem.W.instObj C dx) C (some od) ∧ ∀ name, PySem.W.lookIn name od = some (mA name) :=
  let ⟨od, ho, hl⟩ := lookIn_ns I.ns
  ⟨od, ⟨I.obj, rfl, rfl, ho⟩, hl⟩
section
variable {prog : Program} {w : World} {A : Around} {E : Value → Shared → Prop} {s : Shared} {K : PySem.W.Frag} {x dx C f : Addr} {mA : Str → Option Value} {name : Str} {v : Value}
end
section
variable {P : Program} {w : World} {H H' : Hp} {h h' : Heap} {a C dx : Addr} {fs fs' : List (Str × V)}
theorem ins_get (hok : HOk P w H h) (e : H a = some (.ins C dx fs)) : ∃ mA, ObjM h a dx C mA ∧ (∀ f, RelO (fs.lookup f) (mA f)) ∧ PySem.Within mA (fs.map (·.1)) ∧ fs.length ≤ 1000 ∧ H dx = some (.own a) := by
  obtain ⟨d, z, ne, ob, mA, n, r, q⟩ := (show ObjOk P w H h a (.ins C dx fs) from hok a _ e)
  exact ⟨mA, ⟨ob, n, ne⟩, r, q, z, d⟩
end
structure Cls (K : PySem.W.Frag) (C : Addr) : Prop where
  pg : PySem.W.plainGet K C Str.empty = true
  hd : PySem.W.hasDictIn K C = true
  po : PySem.W.plainOver K C = true
  sa : PySem.W.findIn K (.ref C) "__setattr__" = some (some (.builtin "object.__setattr__"))
theorem Cls.get {K : PySem.W.Frag} {C : Addr} (c : Cls K C) (f : Str) : PySem.W.plainGet K C f = true := c.pg
section
variable {X : Cx} {pins : List (Addr × Obj)} {σ : St} {H : Hp} {s : Shared} {a C dx : Addr} {fs : List (Str × V)} {f : Str} {v : V} {A : Around} {E : Value → Shared → Prop}
end
section
variable {X : Cx} {o e value : Expr} {f : Str} {pos pos' tpos : Pos} {ta tv : TE}
end
section
variable {X : Cx} {pins : List (Addr × Obj)} {σ : St} {H : Hp} {s : Shared} {A : Around} {E : Value → Shared → Prop} {Q : Value → Shared → Prop} {c : Value} {b : Bool}
inductive TyOf (K : PySem.W.Frag) (H : Hp) : V → Value → Prop where
  | non : TyOf K H .non (.type "NoneType")
  | bl (x : Bool) : TyOf K H (.bl x) (.type "bool")
  | int (i : Int) : TyOf K H (.int i) (.type "int")
  | str (x : Str) : TyOf K H (.str x) (.type "str")
  | flt (x : UInt64) : TyOf K H (.flt x) (.type "float")
  | lst {a : Addr} {xs : List V} (e : H a = some (.lst xs)) : TyOf K H (.ref a) (.type "list")
  | frz {a : Addr} {o : Obj} {xs : List V} (e : H a = some (.frz o (.lst xs))) : TyOf K H (.ref a) (.type "list")
  | tup {a : Addr} {xs : List V} (e : H a = some (.tup xs)) : TyOf K H (.ref a) (.type "tuple")
  | dK {a : Addr} {kvs : List (Key × V)} (e : H a = some (.dK kvs)) : TyOf K H (.ref a) (.type "dict")
  | dT {a : Addr} {kvs : List (List Key × V)} (e : H a = some (.dT kvs)) : TyOf K H (.ref a) (.type "dict")
  | ins {a C dx : Addr} {fs : List (Str × V)} (e : H a = some (.ins C dx fs)) (cl : Cls K C) (ha : PySem.W.findIn K (.ref C) "__class__" = some (some (.builtin "object.__class__")))
      (hn : PySem.W.specialIn K (.builtin "object.__class__") "__get__" = some (some (.builtin "getset_descriptor.__get__"))) (htk : PySem.W.takesIn K (.builtin "object.__class__") = some true)
      (hm : PySem.W.mroIn K C (.type "object") = some true) : TyOf K H (.ref a) (.ref C)
theorem isinst_ok {x : V} {u t : Value} (I : Inv X pins σ H s) (rx : RelV x u) (ty : TyOf X.K H x t) (e : PySem.W.kitOne X.K t c = some b) (h : ∀ tk, Q (.bool b) { s with toks := tk }) :
    wpAny (model X.prog X.w) A (call (.builtin "isinstance") [u, c]) Q E s := by
  cases ty with
  | non => cases (show u = Value.none from rx); exact PySem.W.kia_one PySem.W.kitx_none I.kIn True.intro e (fun z => nomatch z) h
  | bl y => cases (show u = Value.bool y from rx); exact PySem.W.kia_one PySem.W.kitx_bool I.kIn True.intro e (fun z => nomatch z) h
  | int i => obtain ⟨t, q⟩ := (show ∃ t, u = Value.int i t from rx); cases q; exact PySem.W.kia_one PySem.W.kitx_int I.kIn True.intro e (fun z => nomatch z) h
  | str y => obtain ⟨t, q⟩ := (show ∃ t, u = Value.str y t from rx); cases q; exact PySem.W.kia_one PySem.W.kitx_str I.kIn True.intro e (fun z => nomatch z) h
  | flt y => obtain ⟨t, q⟩ := (show ∃ t, u = Value.float y t from rx); cases q; exact PySem.W.kia_one PySem.W.kitx_float I.kIn True.intro e (fun z => nomatch z) h
  | @lst a xs ea =>
    cases (show u = Value.ref a from rx)
    obtain ⟨_, _, n, _, h1⟩ := (show ObjOk X.prog X.w H s.heap a (.lst xs) from I.hok a _ ea)
    exact PySem.W.kia_one PySem.W.kitx_list I.kIn ⟨_, h1, rfl⟩ e (fun z => nomatch z) h
  | @frz a ob xs ea =>
    cases (show u = Value.ref a from rx)
    obtain ⟨_, _, _, n, _, h1⟩ := (show ObjOk X.prog X.w H s.heap a (.frz ob (.lst xs)) from I.hok a _ ea)
    exact PySem.W.kia_one PySem.W.kitx_list I.kIn ⟨_, h1, rfl⟩ e (fun z => nomatch z) h
  | @tup a xs ea =>
    cases (show u = Value.ref a from rx)
    obtain ⟨_, _, _, p⟩ := (show ObjOk X.prog X.w H s.heap a (.tup xs) from I.hok a _ ea)
    obtain ⟨o, h1, h2, _⟩ := p
    exact PySem.W.kia_one PySem.W.kitx_tuple I.kIn ⟨o, h1, h2⟩ e (fun z => nomatch z) h
  | @dK a kvs ea =>
    cases (show u = Value.ref a from rx)
    obtain ⟨_, _, vs, _, p⟩ := (show ObjOk X.prog X.w H s.heap a (.dK kvs) from I.hok a _ ea)
    obtain ⟨o, es, ep, h1, h2, _⟩ := p
    exact PySem.W.kia_one PySem.W.kitx_dict I.kIn ⟨o, h1, h2.1⟩ e (fun z => nomatch z) h
  | @dT a kvs ea =>
    cases (show u = Value.ref a from rx)
    obtain ⟨_, _, xs, _, o, es, ep, h1, h2, _⟩ := (show ObjOk X.prog X.w H s.heap a (.dT kvs) from I.hok a _ ea)
    exact PySem.W.kia_one PySem.W.kitx_dict I.kIn ⟨o, h1, h2.1⟩ e (fun z => nomatch z) h
  | @ins a C dx fs ea cl ha hn htk hm =>
    cases (show u = Value.ref a from rx)
    obtain ⟨mA, O, _⟩ := ins_get I.hok ea
    obtain ⟨od, J, _⟩ := O.look
    exact PySem.W.kia_one (PySem.W.kitx_own (cl.get _) cl.hd ha hn htk hm) I.kIn J e (fun z => nomatch z) h
end
end L2
namespace L2
open PySem PySem.Spec PyProof.Rows
structure Room (k : Nat) (A : Around) : Prop where
  hd : A.handled = none
  dp : A.depth + 3 * k + 5 < recursionLimit
  un : A.units + 16 * k + 200 < cLine
theorem Room.mono {j k : Nat} {A : Around} (r : Room k A) (h : j ≤ k) : Room j A := ⟨r.hd, by have := r.dp; omega, by have := r.un; omega⟩
theorem Room.deeper {k : Nat} {A : Around} (r : Room (k + 1) A) (env : Env) : Room k (A.deeper env) :=
  ⟨r.hd, by have := r.dp; show A.depth + 1 + 3 * k + 5 < _; omega, by have := r.un; show A.units + 3 + 16 * k + 200 < _; omega⟩
theorem Room.depth {k : Nat} {A : Around} (r : Room k A) : A.depth < recursionLimit := by have := r.dp; omega
noncomputable def tNil : TA := fun _ H Q => Q [] H
noncomputable def tCons (ta : TE) (tr : TA) : TA := fun σ H Q => ta σ H fun x H1 => tr σ H1 fun xs H2 => Q (x :: xs) H2
section
variable {X : Cx} {e : Expr} {es : List Expr} {te : TE} {t : TA} {pos : Pos}
theorem pa_nil : PA X [] tNil := fun _ _ _ _ H Q I h => Calls.spliced_nil ⟨[], H, I, .nil, h⟩
theorem pa_cons (ha : PE X e te) (hr : PA X es t) (hs : starEach (e :: es) X.env = (false, eval e X.env) :: starEach es X.env := by rfl) : PA X (e :: es) (tCons te t) := by
  intro pos pins s σ H Q I h
  rw [hs]
  show wpAny _ _ (spliced ((false, eval e X.env) :: backTo pos (starEach es X.env))) _ _ s
  refine Calls.spliced_cons (thn (ha pins s σ H _ I h) fun u s1 ⟨x, H1, I1, r1, q1⟩ => ?_)
  exact thn (hr pos pins s1 σ H1 _ I1 q1) fun us s2 ⟨xs, H2, I2, r2, q2⟩ => ⟨x :: xs, H2, I2, .cons r1 r2, q2⟩
noncomputable def tTup (t : TA) : TE := fun σ H Q => t σ H fun xs H1 => xs.length ≤ sizeLine ∧ ∀ p, H1 p = none → Q (.ref p) (upd H1 p (.tup xs))
noncomputable def tLst (t : TA) : TE := fun σ H Q => t σ H fun xs H1 => xs.length ≤ sizeLine ∧ ∀ p, H1 p = none → Q (.ref p) (upd H1 p (.lst xs))
theorem pe_tup {x1} (h : PA X es t) : PE X (.Tuple es x1 pos) (tTup t) := by
  intro pins s σ H Q I hq
  refine wpAny_Tuple_spliced (thn (h pos pins s σ H _ I hq) fun us s1 ⟨xs, H1, I1, r, z, q⟩ => ⟨by rw [← r.length]; exact z, ?_⟩)
  have hf : H1 s1.heap.objs.size = none := I1.hok.fresh (Nat.le_refl _)
  refine ⟨.ref s1.heap.objs.size, upd H1 s1.heap.objs.size (.tup xs), I1.laid (t' := s1.toks) (fun b u e => Heap.get?_push_of_some _ e) (Nat.le_refl _) ?_, rfl, q _ hf⟩
  exact ⟨z, us, r, ⟨_, Heap.get?_push_size _ rfl, rfl, _, rfl⟩⟩
theorem pe_lst (h : PA X es t) : PE X (.List es pos) (tLst t) := by
  intro pins s σ H Q I hq
  refine wpAny_List_spliced (thn (h pos pins s σ H _ I hq) fun us s1 ⟨xs, H1, I1, r, z, q⟩ => ⟨by rw [← r.length]; exact z, ?_⟩)
  have hf : H1 s1.heap.objs.size = none := I1.hok.fresh (Nat.le_refl _)
  refine ⟨.ref s1.heap.objs.size, upd H1 s1.heap.objs.size (.lst xs), I1.laid (t' := s1.toks) (fun b u e => Heap.get?_push_of_some _ e) (Nat.le_refl _) ?_, rfl, q _ hf⟩
  exact ⟨z, us, 0, r, Heap.get?_push_size _ rfl⟩
end
noncomputable abbrev Sp := List V → Hp → VK → XK → Prop
noncomputable abbrev CXT := List Env → Hp → Shared → XK → Value → Shared → Prop
structure Env0 (P : Program) (w : World) (K : PySem.W.Frag) (mg : Str → Option Value) (base : Heap) (A : Around) (outer : List Env) (s : Shared) (H : Hp) : Prop where
  frames : A.frames = some outer
  mod : Mod K mg base
  bs : ∀ b o, base.get? b = some o → s.heap.get? b = some o ∧ H b = none
  bsz : base.objs.size ≤ s.heap.objs.size
  funs : s.heap.FunFrames base outer
  frf : ∀ b ∈ frs outer, H b = none
  hok : HOk P w H s.heap
  bare : AllBare s.gens
noncomputable def CE (outer : List Env) (P : Program) (w : World) (H : Hp) (s : Shared) (Q : VK) (u : Value) (s' : Shared) : Prop :=
  ∃ v H', s'.os = s.os ∧ AllBare s'.gens ∧ Un (frs outer) [] H H' s.heap s'.heap ∧ HOk P w H' s'.heap ∧ RelV v u ∧ Q v H'
noncomputable def CR (CX : CXT) (outer : List Env) (P : Program) (w : World) (H : Hp) (s : Shared) (Q : VK) (E : XK) (r : Result) (s' : Shared) : Prop :=
  match r with
  | .ok (.ret u) => CE outer P w H s Q u s'
  | .ok _ => False
  | .error e => CX outer H s E e s'
structure FnOk (P : Program) (w : World) (K : PySem.W.Frag) (mg : Str → Option Value) (base : Heap) (CX : CXT) (k : Nat) (f : Addr) (fd : FuncData) (ps : List Str) (sp : Sp) : Prop where
  len : ∀ vs H Q E, sp vs H Q E → vs.length = ps.length
  run : ∀ (A : Around) (outer : List Env) (s : Shared) (H : Hp) (args : Args) (us : List Value) (vs : List V) (Q : VK) (E : XK), Room k A → Env0 P w K mg base A outer s H → BindsTo s fd args (ps.zip us) → Vals vs us → sp vs H Q E →
    codeAny (model P w) A (.call (.ref f) args) (CR CX outer P w H s Q E) s
theorem FnOk.mono {P : Program} {w : World} {K : PySem.W.Frag} {mg : Str → Option Value} {base : Heap} {CX : CXT} {j k : Nat} {f : Addr} {fd : FuncData} {ps : List Str} {sp : Sp} (F : FnOk P w K mg base CX j f fd ps sp) (h : j ≤ k) :
    FnOk P w K mg base CX k f fd ps sp := ⟨F.len, fun A outer s H args us vs Q E hr => F.run A outer s H args us vs Q E (hr.mono h)⟩
section
variable {X : Cx} {pins : List (Addr × Obj)} {σ : St} {H : Hp} {s s' : Shared}
theorem Inv.env0 (I : Inv X pins σ H s) : Env0 X.prog X.w X.K X.mg X.base X.A X.stack s H :=
  ⟨I.ok.frames, I.ok.mod, I.bs, Nat.le_trans I.ok.bsz I.sz, I.stack, I.stkFree, I.hok, I.bare⟩
theorem Inv.after {Q : VK} {u : Value} (I : Inv X pins σ H s) (h : CE X.stack X.prog X.w H s Q u s') : EP X pins σ Q u s' := by
  obtain ⟨v, H', os, bare, un, hok, r, q⟩ := h
  obtain ⟨hh, g, d, t, os'⟩ := s'
  obtain rfl : os' = s.os := os
  exact ⟨v, H', I.call (h' := hh) (g' := g) (d' := d) (t' := t) (ch := []) un hok bare (fun b z => absurd z (by simp)), r, q⟩
end
noncomputable def tCall (sp : Sp) (dvs : List V) (E : XK) (t : TA) : TE := fun σ H Q => t σ H fun vs H1 => sp (vs ++ dvs) H1 Q E
noncomputable def Binds (K : PySem.W.Frag) (fd : FuncData) (ps : List Str) (ds : List Value) : Prop :=
  ∀ (s : Shared) (us : List Value), K.In s.heap → (us ++ ds).length = ps.length → BindsTo s fd ⟨us, []⟩ (ps.zip (us ++ ds))
theorem Binds.all {K : PySem.W.Frag} {fd : FuncData} {ps : List Str} (h : ∀ us : List Value, us.length = ps.length → bindArgs fd ⟨us, []⟩ = pure (ps.zip us)) : Binds K fd ps [] := fun s us _ hl => by
  rw [List.append_nil] at hl ⊢
  exact .of_eq (h us hl)
noncomputable def Passes (CX : CXT) (X : Cx) (E : XK) : Prop := ∀ (pins : List (Addr × Obj)) (σ : St) (H : Hp) (s : Shared) (e : Value) (s' : Shared), Inv X pins σ H s → CX X.stack H s E e s' → X.xe e s'
section
variable {X : Cx} {CX : CXT} {k : Nat} {f C : Addr} {fd : FuncData} {ps : List Str} {sp : Sp} {dvs : List V} {ds : List Value} {E : XK} {x m : Str} {p pos apos : Pos} {e o : Expr} {es : List Expr} {ta : TE} {t : TA}
theorem run_fn {pins : List (Addr × Obj)} {σ : St} {H : Hp} {s : Shared} {Q : VK} {us : List Value} {vs : List V} (F : FnOk X.prog X.w X.K X.mg X.base CX k f fd ps sp) (hr : Room k X.A) (hb : Binds X.K fd ps ds) (hd : Vals dvs ds) (hx : Passes CX X E)
    (I : Inv X pins σ H s) (r : Vals vs us) (h : sp (vs ++ dvs) H Q E) : wpAny (model X.prog X.w) X.A (call (.ref f) us) (EP X pins σ Q) X.xe s := by
  have r2 : Vals (vs ++ dvs) (us ++ ds) := r.append hd
  have hl : (us ++ ds).length = ps.length := by rw [← r2.length]; exact F.len _ _ _ _ h
  refine wpAny_call (codeAny_mono (F.run X.A X.stack s H ⟨us, []⟩ (us ++ ds) (vs ++ dvs) Q E hr I.env0 (hb s us I.kIn hl) r2 h) fun r s' hq => ?_)
  cases r with
  | error e => exact hx pins σ H s e s' I hq
  | ok fl =>
    cases fl with
    | ret u => exact I.after hq
    | next => exact False.elim hq
    | brk => exact False.elim hq
    | cont => exact False.elim hq
theorem pe_call (F : FnOk X.prog X.w X.K X.mg X.base CX k f fd ps sp) (hr : Room k X.A) (hg : Gl X x) (hm : X.mg x = some (.ref f)) (hk : PySem.W.keepIn X.K (.ref f) = true) (hb : Binds X.K fd ps ds) (hd : Vals dvs ds) (hx : Passes CX X E)
    (ha : PA X (e :: es) t) (hdb : (x == ("__debug__" : Str)) = false := by decide) (he : starEach (e :: es) X.env = (false, eval e X.env) :: starEach es X.env := by rfl) (hpl : (backTo pos (starEach es X.env)).any (·.1) = false := by rfl) :
    PE X (.Call (.Name x p) (e :: es) [] pos) (tCall sp dvs E t) := by
  intro pins s σ H Q I h
  refine wpAny_Call_Name_kw (ld_glob I hg hm ?_ hdb)
  refine PySem.W.callWith_K (h₀ := X.base) I.ok.mod.kin hk (thn (ha pos pins s σ H _ I h) fun us s1 ⟨vs, H1, I1, r, q⟩ => ⟨I1.kIn, ?_⟩) he hpl
  exact run_fn F hr hb hd hx I1 r q
end
section
variable {X : Cx} {CX : CXT} {k : Nat} {f C : Addr} {fd : FuncData} {ps ks : List Str} {sp : Sp} {E : XK} {x m : Str} {p pos apos kpos : Pos} {e o : Expr} {es : List Expr} {kws : List Keyword} {te ta : TE} {t tk : TA} {nm : Option Str}
variable {g : List Value → List Value → List Value} {gV : List V → List V → List V}
end
structure FnScope (N P : List Str) (sc : Scope) : Prop where
  kind : sc.kind = .function
  co : sc.isCoroutine = false
  gen : sc.isGenerator = false
  nd : N.Nodup
  pre : N.take P.length = P
  par : ∀ x ∈ P, sc.names.lookup x = some .local ∨ sc.names.lookup x = some .cell
  nofree : ∀ y ∈ sc.names, y.2 ≠ .free
theorem bindL_out {kindOf : Str → Option NameKind} {x : Str} : ∀ {binds : List (Str × Value)} {m : Str → Option Value}, (∀ v, (x, v) ∉ binds) → bindL kindOf binds m x = m x
  | [], _, _ => rfl
  | (n, v) :: r, m, h => by
    unfold bindL
    rw [bindL_out fun w hw => h w (List.mem_cons_of_mem _ hw)]
    split
    · have : x ≠ n := by rintro rfl; exact h v List.mem_cons_self
      simp [this]
    · rfl
theorem bindC_out {kindOf : Str → Option NameKind} {x : Str} : ∀ {binds : List (Str × Value)} {m : Str → Option Value}, (∀ v, (x, v) ∉ binds) → bindC kindOf binds m x = m x
  | [], _, _ => rfl
  | (n, v) :: r, m, h => by
    unfold bindC
    rw [bindC_out fun w hw => h w (List.mem_cons_of_mem _ hw)]
    split
    · rfl
    · have : x ≠ n := by rintro rfl; exact h v List.mem_cons_self
      simp [this]
theorem bindL_get {kindOf : Str → Option NameKind} {x : Str} {v : Value} : ∀ {P : List Str} {vs : List Value} {i : Nat} {m : Str → Option Value}, P.Nodup → P[i]? = some x → vs[i]? = some v → kindOf x = some .local →
    bindL kindOf (P.zip vs) m x = some v
  | [], _, _, _, _, h, _, _ => by simp at h
  | _ :: _, [], _, _, _, _, h, _ => by simp at h
  | p :: P, w :: vs, 0, m, nd, h1, h2, hk => by
    simp at h1 h2; subst h1; subst h2
    show bindL kindOf ((p, w) :: P.zip vs) m p = _
    unfold bindL
    rw [bindL_out fun v hv => (List.nodup_cons.mp nd).1 (List.of_mem_zip hv).1, if_pos hk]
    simp
  | p :: P, w :: vs, i + 1, m, nd, h1, h2, hk => by
    show bindL kindOf ((p, w) :: P.zip vs) m x = _
    unfold bindL
    exact bindL_get (i := i) (List.nodup_cons.mp nd).2 (by simpa using h1) (by simpa using h2) hk
theorem bindC_get {kindOf : Str → Option NameKind} {x : Str} {v : Value} : ∀ {P : List Str} {vs : List Value} {i : Nat} {m : Str → Option Value}, P.Nodup → P[i]? = some x → vs[i]? = some v → kindOf x ≠ some .local →
    bindC kindOf (P.zip vs) m x = some v
  | [], _, _, _, _, h, _, _ => by simp at h
  | _ :: _, [], _, _, _, _, h, _ => by simp at h
  | p :: P, w :: vs, 0, m, nd, h1, h2, hk => by
    simp at h1 h2; subst h1; subst h2
    show bindC kindOf ((p, w) :: P.zip vs) m p = _
    unfold bindC
    rw [bindC_out fun v hv => (List.nodup_cons.mp nd).1 (List.of_mem_zip hv).1, if_neg hk]
    simp
  | p :: P, w :: vs, i + 1, m, nd, h1, h2, hk => by
    show bindC kindOf ((p, w) :: P.zip vs) m x = _
    unfold bindC
    exact bindC_get (i := i) (List.nodup_cons.mp nd).2 (by simpa using h1) (by simpa using h2) hk
noncomputable def start (N : List Str) (vs : List V) : St := vs.map some ++ List.replicate (N.length - vs.length) none
noncomputable def cxOf (CX : CXT) (P : Program) (w : World) (K : PySem.W.Frag) (mg : Str → Option Value) (base : Heap) (N : List Str) (qual : Str) (scope : Scope) (f : Addr) (cd : Value) (A : Around) (outer : List Env) (s : Shared) (H : Hp) (E : XK) : Cx where
  prog := P
  w := w
  K := K
  mg := mg
  base := base
  A := A.deeper (envOfC qual scope s.heap.objs.size f cd)
  N := N
  s₀ := s
  H₀ := H
  env := envOfC qual scope s.heap.objs.size f cd
  outer := outer
  stack := envOfC qual scope s.heap.objs.size f cd :: outer
  ex := []
  calm := true
  fn := fun _ => true
  pn := []
  xe := fun e s' => wpAny (model P w) (A.deeper (envOfC qual scope s.heap.objs.size f cd)) (leaving (envOfC qual scope s.heap.objs.size f cd) e) (fun _ s'' => CX outer H s E e s'') (fun e' s'' => CX outer H s E e' s'') s'
theorem cell_has {sc : Scope} {n : Nat} {x : Str} (h : sc.names.lookup x = some .cell) : ∃ c, (cellsFrom n sc.names []).lookup x = some c := by
  have q := PySem.W.cellsFrom_some sc.names n [] (.inl h)
  exact Option.isSome_iff_exists.mp q
theorem inv_start {CX : CXT} {P : Program} {w : World} {K : PySem.W.Frag} {mg : Str → Option Value} {base : Heap} {N ps : List Str} {qual : Str} {scope : Scope} {f : Addr} {cd : Value} {A : Around} {outer : List Env} {s s1 : Shared} {H : Hp} {E : XK} {us : List Value} {vs : List V}
    (S : FnScope N ps scope) (hd : A.handled = none) (e0 : Env0 P w K mg base A outer s H) (hl : vs.length = ps.length) (r : Vals vs us)
    (x : InCallC s s.heap.objs.size (bindL (envOfC qual scope s.heap.objs.size f cd).kindOf (ps.zip us) fun _ => none) (cellsFrom (s.heap.objs.size + 1) scope.names []) (bindC (envOfC qual scope s.heap.objs.size f cd).kindOf (ps.zip us) fun _ => none) s1) :
    Inv (cxOf CX P w K mg base N qual scope f cd A outer s H E) [] (start N vs) H s1 := by
  have hpl : ps.length ≤ N.length := by have := congrArg List.length S.pre; rw [List.length_take] at this; omega
  obtain ⟨h1, tk, rfl, hk⟩ := x.done
  have noA : ∀ b : Addr, b ∉ (cxOf CX P w K mg base N qual scope f cd A outer s H E).ex := fun b z => absurd (show b ∈ ([] : List Addr) from z) (by simp)
  refine ⟨⟨e0.mod, S.kind, rfl, rfl, Nat.le_refl _, fun y z c h1 h2 => ?_, fun y hy => ?_, fun y c _ h => ?_, fun _ => hd, Around.frames_deeper e0.frames, .inr ⟨rfl, rfl⟩, fun b z => absurd z (noA b), e0.bs, e0.bsz, fun b _ _ => noA b, fun b z => absurd z (noA b), e0.funs, e0.frf⟩,
    rfl, e0.bare, Un.kept hk, ⟨_, x.toInCall.ns, fun i y v h1 h2 h3 => ?_⟩, fun y c h => ⟨_, x.cell y c h⟩, e0.hok.fresh (Nat.le_refl _), fun y c h => ?_, fun p hp => absurd (show p ∈ ([] : List (Addr × Obj)) from hp) (by simp), e0.hok.kept hk, ?_⟩
  · exact name_of_addr x.apart (PySem.mem_of_lookup h1) (PySem.mem_of_lookup h2)
  · have hy : scope.names.lookup y = some .cell ∨ scope.names.lookup y = some .free := hy
    rcases hy with hy | hy
    · exact cell_has hy
    · exact absurd rfl (S.nofree _ (PySem.mem_of_lookup hy))
  · exact Nat.le_of_lt (x.above y c (PySem.mem_of_lookup h))
  · have hi : i < vs.length := by
      unfold start at h2
      by_cases hi : i < vs.length
      · exact hi
      · rw [List.getElem?_append_right (by simpa using hi)] at h2
        rw [List.getElem?_replicate] at h2
        split at h2 <;> cases h2
    have ha : vs[i]? = some v := by
      unfold start at h2
      rw [List.getElem?_append_left (by simpa using hi), List.getElem?_map] at h2
      cases e : vs[i]? with
      | none => rw [e] at h2; cases h2
      | some a => rw [e] at h2; cases h2; rfl
    obtain ⟨u, hu, rv⟩ := r.get ha
    have hp : ps[i]? = some y := by
      rw [← S.pre, List.getElem?_take_of_lt (by omega)]; exact h1
    have ndP : ps.Nodup := by rw [← S.pre]; exact S.nd.sublist (List.take_sublist _ _)
    refine ⟨u, rv, ?_⟩
    rcases S.par y (List.mem_of_getElem? hp) with k | k
    · exact .inl ⟨k, bindL_get ndP hp hu k⟩
    · obtain ⟨c, e⟩ := cell_has (n := s.heap.objs.size + 1) k
      refine .inr ⟨.inl k, c, e, ?_⟩
      have q := x.cell y c e
      rw [bindC_get ndP hp hu (by show scope.names.lookup y ≠ _; rw [k]; decide)] at q
      exact q
  · exact e0.hok.fresh (Nat.le_of_lt (x.above y c (PySem.mem_of_lookup h)))
  · unfold start
    show _ = N.length
    rw [List.length_append, List.length_map, List.length_replicate]
    omega
theorem fn_of {CX : CXT} {P : Program} {w : World} {K : PySem.W.Frag} {mg : Str → Option Value} {base : Heap} {k : Nat} {f : Addr} {name qual : Str} {params : Arguments} {body : List Stmt} {scope : Scope} {dV kV doc pm cdv ct oc : Value} {an od : Option Addr}
    {osl : Array (Option Value)} {N ps : List Str} {sp : Sp} (lk : K.lookup f = some ⟨oc, od, .func (PySem.W.fnOf name qual params body scope dV kV doc pm an cdv ct), osl⟩) (hcd : PySem.W.codeIn K cdv qual = true) (S : FnScope N ps scope)
    (len : ∀ vs H Q E, sp vs H Q E → vs.length = ps.length)
    (hbody : ∀ (A : Around) (outer : List Env) (s : Shared) (H : Hp) (vs : List V) (Q : VK) (E : XK), Room k (A.deeper (envOfC qual scope s.heap.objs.size f cdv)) → sp vs H Q E →
      ∃ t, PSs (cxOf CX P w K mg base N qual scope f cdv A outer s H E) body t ∧ t { nx := fun _ H' => Q .non H', rt := Q } (start N vs) H) :
    FnOk P w K mg base CX (k + 1) f (PySem.W.fnOf name qual params body scope dV kV doc pm an cdv ct) ps sp := by
  refine ⟨len, fun A outer s H args us vs Q E hr e0 hb r hsp => ?_⟩
  have hl := len _ _ _ _ hsp
  have KX : K.In s.heap := e0.mod.kin.keeps fun b o e => (e0.bs b o e).1
  have lim : s.heap.NoLimit := e0.mod.nolimit.keeps fun b o e => (e0.bs b o e).1
  have hkind : ∀ y ∈ ps.zip us, scope.names.lookup y.1 = some .local ∨ (scope.names.lookup y.1 = some .cell ∧ ((cellsFrom (s.heap.objs.size + 1) scope.names []).lookup y.1).isSome = true) := fun ⟨n, v⟩ hy => by
    rcases S.par n (List.of_mem_zip hy).1 with q | q
    · exact .inl q
    · exact .inr ⟨q, PySem.W.cellsFrom_some _ _ _ (.inl q)⟩
  refine codeAny_call_function hr.depth (KX _ _ lk) rfl S.co S.gen rfl (PySem.W.codeRec_of KX hcd) (hb _ _ _ _ ?_)
  refine wpAny_newFunctionEnv_cells S.kind hkind fun env he s1 x => ?_
  subst he
  refine ⟨lim.keeps x.toInCall.keep, codeAny_func ?_⟩
  obtain ⟨t, ht, hq⟩ := hbody A outer s H vs Q E (hr.deeper _) hsp
  have I : Inv (cxOf CX P w K mg base N qual scope f cdv A outer s H E) [] (start N vs) H s1 := inv_start S hr.hd e0 hl r x
  refine wpAny_mono (ht [] s1 (start N vs) H _ I hq) (fun fl s' hs => ?_) fun e s' hs => hs
  have fin : ∀ {σ' : St} {H' : Hp} {v : V} {u : Value}, Inv (cxOf CX P w K mg base N qual scope f cdv A outer s H E) [] σ' H' s' → RelV v u → Q v H' → CE outer P w H s Q u s' :=
    fun {σ' H' v u} J rv q => ⟨v, H', J.os, J.bare, J.base, J.hok, rv, q⟩
  cases fl with
  | ret u =>
    obtain ⟨v, σ', H', J, rv, q⟩ := hs
    exact fin J rv q
  | next =>
    obtain ⟨σ', H', J, q⟩ := hs
    exact fin (v := V.non) (u := Value.none) J rfl q
  | brk =>
    obtain ⟨_, _, _, q⟩ := hs
    exact False.elim q
  | cont =>
    obtain ⟨_, _, _, q⟩ := hs
    exact False.elim q
end L2
namespace L2
open PySem PySem.Spec PyProof.Rows
section
variable {X : Cx} {x : Str} {p pos : Pos} {e : Expr} {es : List Expr} {t : TA} {id T : String} {r : List V → Hp → VK → Prop}
noncomputable def tCB (r : List V → Hp → VK → Prop) (t : TA) : TE := fun σ H Q => t σ H fun vs H1 => r vs H1 Q
theorem pe_callB (hc : CallR X (.builtin id) r) (hg : Gl X x) (hm : X.mg x = none) (hv : bootBuiltins x = some (.builtin id)) (ha : PA X (e :: es) t) (hn : x ≠ "__name__" := by decide) (hdb : (x == ("__debug__" : Str)) = false := by decide)
    (he : starEach (e :: es) X.env = (false, eval e X.env) :: starEach es X.env := by rfl) (hpl : (backTo pos (starEach es X.env)).any (·.1) = false := by rfl) : PE X (.Call (.Name x p) (e :: es) [] pos) (tCB r t) := by
  intro pins s σ H Q I h
  refine wpAny_Call_Name_kw (ld_blt I hg hm hv ?_ hn hdb)
  exact PyProof.Rows.callWith_builtin1 (thn (ha pos pins s σ H _ I h) fun us s1 ⟨vs, H1, I1, r1, q1⟩ => hc pins s1 σ H1 vs us Q I1 r1 q1) he hpl
end
end L2
namespace HT
open PySem PyProof.Rows
section
open PySem.SeqAt
open PySem.AutoSeq1 (wpAny_loadPart')
open PySem.MeetsSeq PySem.MeetsSeq2 PySem.MeetsSeq3
end
section
variable {prog : Program} {w : World} {A : Around} {E : Value → Shared → Prop} {s : Shared}
noncomputable def sIx (n d : Nat) : Option Int → Nat
  | none => d
  | some v => if v < 0 then (v + (n : Int)).toNat else min v.toNat n
theorem sIx_none (n d : Nat) : sIx n d none = d := rfl
theorem sIx_nat (n d k : Nat) : sIx n d (some (k : Int)) = min k n := by
  show (if (k : Int) < 0 then ((k : Int) + (n : Int)).toNat else min (k : Int).toNat n) = min k n
  rw [if_neg (by omega), Int.toNat_natCast]
end
end HT
namespace L2
open PySem PySem.Spec PyProof.Rows
noncomputable abbrev TO := St → Hp → (Option Int → Hp → Prop) → Prop
noncomputable def PO (X : Cx) (e : Option Expr) (t : TO) : Prop :=
  ∀ (pins : List (Addr × Obj)) (s : Shared) (σ : St) (H : Hp) (Q : Option Int → Hp → Prop), Inv X pins σ H s → t σ H Q →
    wpAny (model X.prog X.w) X.A (evalPart e X.env) (fun u s' => ∃ o H', Inv X pins σ H' s' ∧ IsPart u o ∧ Q o H') X.xe s
noncomputable def tNoPart : TO := fun _ H Q => Q none H
noncomputable def tPart (t : TE) : TO := fun σ H Q => t σ H fun x H1 => ∃ i, x = .int i ∧ Q (some i) H1
section
variable {X : Cx} {e : Expr} {te : TE} {lo hi : Option Expr} {tl th : TO} {pos p2 : Pos}
theorem po_none : PO X none tNoPart := by
  intro pins s σ H Q I h
  rw [evalPart_none]
  exact wpAny_pure ⟨none, H, I, .none, h⟩
theorem po_some (h : PE X e te) : PO X (some e) (tPart te) := by
  intro pins s σ H Q I hw
  rw [evalPart_some]
  refine thn (h pins s σ H _ I hw) fun u s1 ⟨x, H1, I1, r1, q1⟩ => ?_
  obtain ⟨i, rfl, q⟩ := q1
  obtain ⟨t, rfl⟩ := r1
  exact ⟨some i, H1, I1, .int i t, q⟩
noncomputable def SlR (X : Cx) (r : V → Option Int → Option Int → Hp → VK → Prop) : Prop :=
  ∀ (pins : List (Addr × Obj)) (s : Shared) (σ : St) (H : Hp) (x : V) (v vl vu : Value) (lo hi : Option Int) (sl : Addr) (Q : VK), Inv X pins σ H s → RelV x v → s.heap.IsSliceOf sl vl vu .none → IsPart vl lo → IsPart vu hi → r x lo hi H Q →
    ∃ T id, typeLookup (.type T) "__getitem__" = pure (some (.builtin id)) ∧ s.TypeIs v T ∧ wpAny (model X.prog X.w) X.A (getItem v (.ref sl)) (EP X pins σ Q) X.xe s
noncomputable def tSl (r : V → Option Int → Option Int → Hp → VK → Prop) (te : TE) (tl th : TO) : TE := fun σ H Q => te σ H fun x H1 => tl σ H1 fun l H2 => th σ H2 fun u H3 => r x l u H3 Q
theorem pe_slice {r : V → Option Int → Option Int → Hp → VK → Prop} (hr : SlR X r) (he : PE X e te) (hl : PO X lo tl) (hu : PO X hi th) : PE X (.Subscript e (.Slice lo hi none p2) pos) (tSl r te tl th) := by
  intro pins s σ H Q I h
  refine Subscript_ (thn (he pins s σ H _ I h) fun v s1 ⟨x, H1, I1, r1, q1⟩ => ?_)
  refine wpAny_Slice (thn (hl pins s1 σ H1 _ I1 q1) fun vl s2 ⟨l, H2, I2, pl, q2⟩ => thn (hu pins s2 σ H2 _ I2 q2) fun vu s3 ⟨u, H3, I3, pu, q3⟩ => ?_)
  rw [evalPart_none]
  refine wpAny_pure ?_
  have I4 : Inv X pins σ H3 { s3 with heap := s3.heap.push { cls := .type "slice", data := .fields #[vl, vu, .none] } } := I3.kept (t' := s3.toks) fun b ob q => Heap.get?_push_of_some _ q
  obtain ⟨T, id, hT, ht, hg⟩ := hr pins { s3 with heap := s3.heap.push { cls := .type "slice", data := .fields #[vl, vu, .none] } } σ H3 x v vl vu l u s3.heap.objs.size Q I4 r1 (Heap.IsSliceOf.new ..) pl pu q3
  show wpAny (model X.prog X.w) X.A (subscriptTail e (.Slice lo hi none p2) v (.ref s3.heap.objs.size)) (EP X pins σ Q) X.xe { s3 with heap := s3.heap.push { cls := .type "slice", data := .fields #[vl, vu, .none] } }
  exact tail_any (ops := [.ref s3.heap.objs.size, v]) ht hT hg (by with_unfolding_all rfl)
noncomputable def cutV (xs : List V) (lo hi : Option Int) : List V := (xs.drop (HT.sIx xs.length 0 lo)).take (HT.sIx xs.length xs.length hi - HT.sIx xs.length 0 lo)
theorem cutV_length (xs : List V) (lo hi : Option Int) : (cutV xs lo hi).length ≤ xs.length := by
  unfold cutV
  rw [List.length_take, List.length_drop]
  omega
end
end L2
namespace L2
open PySem PySem.Spec PyProof.Rows
noncomputable def ixN (n : Nat) (i : Int) : Option Nat := if 0 ≤ i then (if i < n then some i.toNat else none) else if -(n : Int) ≤ i then some (i + n).toNat else none
noncomputable def atI {α : Type} (xs : List α) (i : Int) : Option α := (ixN xs.length i).bind fun j => xs[j]?
theorem ixN_seq {n : Nat} {i : Int} {j : Nat} (h : ixN n i = some j) : seqIndex? i n = some j ∧ j < n ∧ -(n : Int) ≤ i ∧ i < n := by
  unfold ixN at h
  by_cases h0 : 0 ≤ i
  · rw [if_pos h0] at h
    by_cases h1 : i < n
    · rw [if_pos h1] at h
      have e : i.toNat = j := Option.some.inj h
      exact ⟨by rw [seqIndex_of h0 h1, e], by omega, by omega, h1⟩
    · rw [if_neg h1] at h; cases h
  · rw [if_neg h0] at h
    by_cases h1 : -(n : Int) ≤ i
    · rw [if_pos h1] at h
      have e : (i + n).toNat = j := Option.some.inj h
      exact ⟨by rw [seqIndex_neg (by omega) h1, e], by omega, h1, by omega⟩
    · rw [if_neg h1] at h; cases h
theorem atI_get {α : Type} {xs : List α} {i : Int} {v : α} (h : atI xs i = some v) : ∃ j, seqIndex? i xs.length = some j ∧ xs[j]? = some v ∧ j < xs.length ∧ -(xs.length : Int) ≤ i ∧ i < xs.length := by
  unfold atI at h
  cases e : ixN xs.length i with
  | none => rw [e] at h; cases h
  | some j =>
    rw [e] at h
    obtain ⟨h1, h2, h3, h4⟩ := ixN_seq e
    exact ⟨j, h1, h, h2, h3, h4⟩
theorem atI_nat {α : Type} {xs : List α} {j : Nat} {v : α} (h : xs[j]? = some v) : atI xs (j : Int) = some v := by
  have hj : j < xs.length := (List.getElem?_eq_some_iff.mp h).1
  have e : ixN xs.length (j : Int) = some j := by
    unfold ixN
    rw [if_pos (by omega), if_pos (by omega)]; simp
  unfold atI; rw [e]; exact h
noncomputable def PlainIx (b : Expr) : Prop := ∀ o i, subscripted b false o i = operate [o, i] (getItem o i)
noncomputable def IxR (X : Cx) (r : R2) : Prop :=
  ∀ (value slice : Expr) (pins : List (Addr × Obj)) (s : Shared) (σ : St) (H : Hp) (x y : V) (v u : Value) (Q : VK), Inv X pins σ H s → RelV x v → RelV y u → r x y H Q →
    subscripted slice false v u = operate [v, u] (getItem v u) → wpAny (model X.prog X.w) X.A (subscriptTail value slice v u) (EP X pins σ Q) X.xe s
noncomputable def MtR (X : Cx) (id : String) (r : V → List V → Hp → VK → Prop) : Prop :=
  ∀ (pins : List (Addr × Obj)) (s : Shared) (σ : St) (H : Hp) (x : V) (xs : List V) (v : Value) (us : List Value) (Q : VK), Inv X pins σ H s → RelV x v → Vals xs us → r x xs H Q →
    wpAny (model X.prog X.w) X.A (call (.builtin id) (v :: us)) (EP X pins σ Q) X.xe s
section
variable {X : Cx} {a b : Expr} {ta tb : TE} {pos : Pos}
theorem pe_ix {r : R2} (hr : IxR X r) (ha : PE X a ta) (hb : PE X b tb) (hs : PlainIx b) : PE X (.Subscript a b pos) (tOp r ta tb) := by
  intro pins s σ H Q I h
  exact Subscript_ (binT ha hb I h fun v u s2 x y H2 I2 rx ry q => hr a b pins s2 σ H2 x y v u Q I2 rx ry q (hs _ _))
noncomputable def rIxL (K : PySem.W.Frag) : R2 := fun x y H Q => ∃ p xs i v, x = .ref p ∧ y = .int i ∧ SqL K H p xs ∧ atI xs i = some v ∧ Q v H
noncomputable def rIxT (K : PySem.W.Frag) : R2 := fun x y H Q => ∃ p xs i v, x = .ref p ∧ y = .int i ∧ SqT K H p xs ∧ atI xs i = some v ∧ Q v H
noncomputable def rIxS : R2 := fun x y H Q => ∃ z i c, x = .str z ∧ y = .int i ∧ z.length ≤ sizeLine ∧ atI z.cps.toList i = some c ∧ Q (.str ⟨#[c]⟩) H
theorem ix_list : IxR X (rIxL X.K) := by
  intro value slice pins s σ H x y v u Q I rx ry h hs
  obtain ⟨p, xs, i, z, rfl, rfl, hq, he, q⟩ := h
  cases rx
  obtain ⟨t, rfl⟩ := ry
  obtain ⟨its, r, pl, hz⟩ := I.list hq
  obtain ⟨j, h1, h2, h3, h4, h5⟩ := atI_get he
  obtain ⟨w, ew, rw'⟩ := r.get h2
  have hl := r.length
  have hn := line63
  have fin : EP X pins σ Q w s := ⟨z, H, I, rw', q⟩
  by_cases h0 : 0 ≤ i
  · have hj : i.toNat = j := by
      rw [seqIndex_of h0 h5] at h1
      exact Option.some.inj h1
    exact item_listR pl.isList h0 (by omega) (by rw [hj]; simpa using ew) fin hs
  · have hj : (i + (its.toArray.size : Int)).toNat = j := by
      rw [seqIndex_neg (by omega) h4] at h1
      rw [List.size_toArray, ← hl]
      exact Option.some.inj h1
    exact subscriptTail_builtinR (x := w) pl.isList.typeIs slot_list_getitem.lookup
      (wpAny_getItem_list_neg (Q := fun r s' => r = w ∧ EP X pins σ Q r s') pl.isList (by omega) (by rw [List.size_toArray] <;> omega) (by omega) (by rw [hj]; simpa using ew) ⟨rfl, fin⟩) hs
theorem ix_tup : IxR X (rIxT X.K) := by
  intro value slice pins s σ H x y v u Q I rx ry h hs
  obtain ⟨p, xs, i, z, rfl, rfl, hq, he, q⟩ := h
  cases rx
  obtain ⟨t, rfl⟩ := ry
  obtain ⟨its, r, pl, hz⟩ := I.tuple hq
  obtain ⟨j, h1, h2, h3, h4, h5⟩ := atI_get he
  obtain ⟨w, ew, rw'⟩ := r.get h2
  have hl := r.length
  have hn := line63
  have fin : EP X pins σ Q w s := ⟨z, H, I, rw', q⟩
  exact subscriptTail_builtinR (x := w) pl.typeIs slot_tuple_getitem.lookup
    (getItem_tuple (j := j) (Q := fun r s' => r = w ∧ EP X pins σ Q r s') pl (by omega) (by omega) (by rw [List.size_toArray, ← hl]; exact h1) (by simpa using ew) ⟨rfl, fin⟩) hs
theorem ix_str : IxR X rIxS := by
  intro value slice pins s σ H x y v u Q I rx ry h hs
  obtain ⟨z, i, c, rfl, rfl, hz, he, q⟩ := h
  obtain ⟨t, rfl⟩ := rx
  obtain ⟨t', rfl⟩ := ry
  obtain ⟨j, h1, h2, h3, h4, h5⟩ := atI_get he
  have hl : z.cps.toList.length = z.length := by simp [Str.length]
  rw [hl] at h1 h4 h5
  have hn := line63
  exact tail_any (typeIs_str s z t) slot_str_getitem.lookup (getItem_str (c := c) (by
    have e1 : decide (i < -(2 ^ 63 : Int)) = false := decide_eq_false (by omega)
    have e2 : decide (i ≥ 2 ^ 63) = false := decide_eq_false (by omega)
    rw [e1, e2, Bool.or_false]) (by rw [h1]; simpa using h2) ⟨.str ⟨#[c]⟩, H, I.tok _, ⟨_, rfl⟩, q⟩) hs
theorem mapSeq_set (its : List Value) (n j : Nat) (u : Value) : Obj.mapSeq (·.setIfInBounds j u) { cls := .type "list", data := .seq its.toArray n } = { cls := .type "list", data := .seq (its.set j u).toArray n } := by
  simp [Obj.mapSeq]
theorem Inv.lst {pins : List (Addr × Obj)} {σ : St} {H : Hp} {s : Shared} {p : Addr} {xs : List V} (I : Inv X pins σ H s) (h : H p = some (.lst xs)) :
    ∃ (its : List Value) (n : Nat), Vals xs its ∧ s.heap.get? p = some { cls := .type "list", data := .seq its.toArray n } ∧ xs.length ≤ sizeLine := by
  obtain ⟨z, its, n, r, e⟩ := I.hok p _ h
  exact ⟨its, n, r, e, z⟩
theorem Inv.lstUpd {pins : List (Addr × Obj)} {σ : St} {H : Hp} {s : Shared} {p : Addr} {xs ys : List V} {its its' : List Value} {n n' : Nat} {f : Obj → Obj} (I : Inv X pins σ H s) (h : H p = some (.lst xs))
    (ho : s.heap.get? p = some { cls := .type "list", data := .seq its.toArray n }) (hf : f { cls := .type "list", data := .seq its.toArray n } = { cls := .type "list", data := .seq its'.toArray n' }) (r : Vals ys its') (hz : ys.length ≤ sizeLine) (t : Nat) :
    Inv X pins σ (upd H p (.lst ys)) { s with heap := s.heap.update p f, toks := t } := by
  have e : (s.heap.update p f).get? p = some { cls := .type "list", data := .seq its'.toArray n' } := by
    rw [Heap.get?_update_self f ho (by rw [hf] <;> rfl), hf]
  refine I.write (x := p) (e := p) (by rw [h]; trivial) (.inl rfl) (fun b u hb q => (Heap.get?_update_other _ _ (Ne.symm hb)).trans q) ⟨_, e⟩ ?_
  exact ⟨hz, its', n', r, e⟩
noncomputable def rSetL : V → V → V → Hp → (Hp → Prop) → Prop := fun o i v H Q => ∃ p xs k j, o = .ref p ∧ i = .int k ∧ H p = some (.lst xs) ∧ ixN xs.length k = some j ∧ Q (upd H p (.lst (xs.set j v)))
theorem set_list : PSet X rSetL := by
  intro pins s σ H o i v ov iv u Q I ro ri rv h
  obtain ⟨p, xs, k, j, rfl, rfl, hp, hj, q⟩ := h
  cases ro
  obtain ⟨t, rfl⟩ := ri
  obtain ⟨its, n, r, ho, hz⟩ := I.lst hp
  obtain ⟨h1, h2, h3, h4⟩ := ixN_seq hj
  have hl := r.length
  have hn := line63
  have I' : Inv X pins σ (upd H p (.lst (xs.set j v))) { s with heap := s.heap.update p (Obj.mapSeq (·.setIfInBounds j u)) } :=
    I.lstUpd hp ho (mapSeq_set its n j u) (r.set rv j) (by rw [List.length_set]; exact hz) s.toks
  by_cases h0 : 0 ≤ k
  · have hk : k.toNat = j := by
      rw [seqIndex_of h0 h4] at h1
      exact Option.some.inj h1
    exact PySem.W.ki_setAt ho h0 (by omega) (by rw [List.size_toArray, ← hl]; exact h4) (by rw [hk]; exact ⟨_, I', q⟩)
  · have hk : (k + (its.toArray.size : Int)).toNat = j := by
      rw [seqIndex_neg (by omega) h3] at h1
      rw [List.size_toArray, ← hl]
      exact Option.some.inj h1
    exact PySem.W.ki_setBack ho (by omega) (by rw [List.size_toArray, ← hl]; exact h3) (by omega) (by rw [hk]; exact ⟨_, I', q⟩)
theorem slice_bounds (lo hi : Option Int) (n : Nat) : (sliceBounds lo hi none n).1 = ((HT.sIx n 0 lo : Nat) : Int) ∧ (sliceBounds lo hi none n).2.1 = ((HT.sIx n n hi : Nat) : Int) ∧ (sliceBounds lo hi none n).2.2 = 1 := by
  refine ⟨?_, ?_, rfl⟩
  · cases lo with
    | none => simp [sliceBounds, HT.sIx]
    | some i =>
      simp only [sliceBounds, HT.sIx, Option.getD_none, show (1 : Int) > 0 by decide, if_true]
      by_cases h : i < 0
      · simp only [h, if_true] <;> omega
      · simp only [h, if_false] <;> omega
  · cases hi with
    | none => simp [sliceBounds, HT.sIx]
    | some i =>
      simp only [sliceBounds, HT.sIx, Option.getD_none, show (1 : Int) > 0 by decide, if_true]
      by_cases h : i < 0
      · simp only [h, if_true] <;> omega
      · simp only [h, if_false] <;> omega
theorem slicePick_cut (its : List Value) (lo hi : Option Int) : slicePick its.toArray lo hi none = ((its.drop (HT.sIx its.length 0 lo)).take (HT.sIx its.length its.length hi - HT.sIx its.length 0 lo)).toArray := by
  obtain ⟨h1, h2, h3⟩ := slice_bounds lo hi its.toArray.size
  unfold slicePick
  rw [h1, h2, h3]
  simp only [sliceRange_one, pick_run, List.size_toArray] <;> rfl
noncomputable def rSlL (K : PySem.W.Frag) : V → Option Int → Option Int → Hp → VK → Prop := fun x lo hi H Q => ∃ a xs, x = .ref a ∧ SqL K H a xs ∧ ∀ p, H p = none → Q (.ref p) (upd H p (.lst (cutV xs lo hi)))
theorem sl_list : SlR X (rSlL X.K) := by
  intro pins s σ H x v vl vu lo hi sl Q I rx hs pl pu h
  obtain ⟨a, xs, rfl, hx, q⟩ := h
  cases rx
  obtain ⟨its, r, ht, hz⟩ := I.list hx
  have hlen := r.length
  refine ⟨"list", _, slot_list_getitem.lookup, ht.isList.typeIs, ?_⟩
  refine wpAny_getItem_list_slice ht.isList hs pl pu .none (by simp) ?_ (by rw [List.size_toArray] <;> omega)
  rw [slicePick_cut, ← hlen]
  refine ⟨.ref s.heap.objs.size, _, I.laid (t' := s.toks) (o := .lst (cutV xs lo hi)) (fun b ob q => Heap.get?_push_of_some _ q) (Nat.le_refl _) ?_, rfl, q _ (I.hok.fresh (Nat.le_refl _))⟩
  exact ⟨Nat.le_trans (cutV_length xs lo hi) hz, _, 0, (r.drop (HT.sIx xs.length 0 lo)).take (HT.sIx xs.length xs.length hi - HT.sIx xs.length 0 lo), Heap.get?_push_size _ rfl⟩
noncomputable def flatV : V → Bool
  | .non => true
  | .bl _ => true
  | .int _ => true
  | .str _ => true
  | _ => false
noncomputable def eqV : V → V → Bool
  | .non, .non => true
  | .bl a, .bl b => a == b
  | .bl a, .int b => (if a then 1 else 0) == b
  | .int a, .bl b => a == (if b then 1 else 0)
  | .int a, .int b => a == b
  | .str a, .str b => a == b
  | _, _ => false
theorem eqAt_V {A : Around} {s : Shared} {y x : V} {u v : Value} (ry : RelV y u) (rx : RelV x v) (fy : flatV y = true) (fx : flatV x = true) : SeqAt.EqAt A s u v (eqV y x) := by
  cases y with
  | non =>
    cases ry
    cases x with
    | non => cases rx; exact SeqAt.EqAt.same _
    | bl b => cases rx; exact SeqAt.EqAt.none_bool b
    | int b => obtain ⟨t, rfl⟩ := rx; exact SeqAt.EqAt.none_int b t
    | str b => obtain ⟨t, rfl⟩ := rx; exact SeqAt.EqAt.none_str b t
    | _ => exact absurd (show false = true from fx) Bool.false_ne_true
  | bl a =>
    cases ry
    cases x with
    | non => cases rx; exact SeqAt.EqAt.bool_none a
    | bl b => cases rx; exact SeqAt.EqAt.bool_bool a b
    | int b => obtain ⟨t, rfl⟩ := rx; exact SeqAt.EqAt.bool_int a b t
    | str b => obtain ⟨t, rfl⟩ := rx; exact SeqAt.EqAt.bool_str a b t
    | _ => exact absurd (show false = true from fx) Bool.false_ne_true
  | int a =>
    obtain ⟨t', rfl⟩ := ry
    cases x with
    | non => cases rx; exact SeqAt.EqAt.int_none a t'
    | bl b => cases rx; exact SeqAt.EqAt.int_bool a t' b
    | int b => obtain ⟨t, rfl⟩ := rx; exact SeqAt.EqAt.int_int a t' b t
    | str b => obtain ⟨t, rfl⟩ := rx; exact SeqAt.EqAt.int_str a t' b t
    | _ => exact absurd (show false = true from fx) Bool.false_ne_true
  | str a =>
    obtain ⟨t', rfl⟩ := ry
    cases x with
    | non => cases rx; exact SeqAt.EqAt.str_none a t'
    | bl b => cases rx; exact SeqAt.EqAt.str_bool a t' b
    | int b => obtain ⟨t, rfl⟩ := rx; exact SeqAt.EqAt.str_int a t' b t
    | str b => obtain ⟨t, rfl⟩ := rx; exact SeqAt.EqAt.str_str a t' b t
    | _ => exact absurd (show false = true from fx) Bool.false_ne_true
  | _ => exact absurd (show false = true from fy) Bool.false_ne_true
theorem op_notIn_str : OpR X (compareOp .NotIn) (fun x y H Q => ∃ i j, x = .str i ∧ y = .str j ∧ Q (.bl (!(!(Builtin.Str.occurrences j i 0 j.length 1).isEmpty))) H) := by
  intro pins s σ H x y v u Q I rx ry h
  obtain ⟨i, j, rfl, rfl, q⟩ := h
  obtain ⟨t, rfl⟩ := rx
  obtain ⟨t', rfl⟩ := ry
  exact notIn_str ⟨.bl _, H, I, rfl, q⟩
theorem call_len_seq : CallR X (.builtin "len") (fun xs H Q => ∃ p ys, xs = [.ref p] ∧ (SqL X.K H p ys ∨ SqT X.K H p ys) ∧ Q (.int ys.length) H) := by
  intro pins s σ H xs us Q I r h
  obtain ⟨p, ys, rfl, hq, q⟩ := h
  obtain ⟨u, rfl, rx⟩ := vals1 r
  cases rx
  have hn := line63
  rcases hq with hq | hq
  · obtain ⟨its, r', pl, hz⟩ := I.list hq
    have hlen := r'.length
    exact Calls.call_len_list pl.isList (by simp only [List.size_toArray] <;> omega) ⟨.int ys.length, H, I.tok _, ⟨s.toks + 1, by rw [List.size_toArray, hlen]⟩, q⟩
  · obtain ⟨its, r', pl, hz⟩ := I.tuple hq
    have hlen := r'.length
    exact len_tuple pl (by simp only [List.size_toArray] <;> omega) ⟨.int ys.length, H, I.tok _, ⟨s.toks + 1, by rw [List.size_toArray, hlen]⟩, q⟩
theorem call_len_str : CallR X (.builtin "len") (fun xs H Q => ∃ z, xs = [.str z] ∧ z.length ≤ sizeLine ∧ Q (.int z.length) H) := by
  intro pins s σ H xs us Q I r h
  obtain ⟨z, rfl, hz, q⟩ := h
  obtain ⟨u, rfl, t, rfl⟩ := vals1 r
  have hn := line63
  exact len_str (by omega) ⟨.int z.length, H, I.tok _, ⟨_, rfl⟩, q⟩
noncomputable def tyV (K : PySem.W.Frag) (T : String) (x : V) (H : Hp) : Prop := match x with
  | .str _ => T = "str"
  | .int _ => T = "int"
  | .ref p => (T = "list" ∧ ∃ xs, SqL K H p xs) ∨ (T = "tuple" ∧ ∃ o, K.lookup p = some o ∧ o.cls = .type "tuple" ∧ o.dict = none) ∨
      (T = "dict" ∧ ((∃ kvs, H p = some (.dK kvs)) ∨ ∃ kvs, H p = some (.dT kvs))) ∨ (T = "set" ∧ ∃ S n, H p = some (.set S n))
  | _ => False
theorem tyV_is {pins : List (Addr × Obj)} {σ : St} {H : Hp} {s : Shared} {T : String} {x : V} {v : Value} (I : Inv X pins σ H s) (r : RelV x v) (ty : tyV X.K T x H) :
    s.TypeIs v T ∧ ∀ a, v = .ref a → ∃ ob, s.heap.get? a = some ob ∧ ob.dict = none := by
  cases x with
  | str z =>
    obtain ⟨t, rfl⟩ := r
    cases (show T = "str" from ty)
    exact ⟨typeIs_str s z t, fun _ e => nomatch e⟩
  | int i =>
    obtain ⟨t, rfl⟩ := r
    cases (show T = "int" from ty)
    exact ⟨typeIs_int s i t, fun _ e => nomatch e⟩
  | ref p =>
    cases r
    rcases ty with ⟨rfl, xs, hq⟩ | ⟨rfl, o, hk, hc, hd⟩ | ⟨rfl, hk⟩ | ⟨rfl, S, n, hk⟩
    · obtain ⟨its, _, pl, _⟩ := I.list hq
      refine ⟨pl.isList.typeIs, fun a e => ?_⟩
      cases e
      obtain ⟨o, n, e, c, hd, _⟩ := pl
      exact ⟨o, e, hd⟩
    · refine ⟨⟨o, I.kIn p o hk, hc⟩, fun a e => ?_⟩
      cases e
      exact ⟨o, I.kIn _ o hk, hd⟩
    · have z : ∃ o, s.heap.get? p = some o ∧ o.ExactDict := by
        rcases hk with ⟨kvs, hk⟩ | ⟨kvs, hk⟩
        · obtain ⟨_, _, _, _, o, _, _, e, ex, _⟩ := I.hok p _ hk
          exact ⟨o, e, ex⟩
        · obtain ⟨_, _, _, _, o, _, _, e, ex, _⟩ := I.hok p _ hk
          exact ⟨o, e, ex⟩
      obtain ⟨o, e, ex⟩ := z
      refine ⟨⟨o, e, ex.1⟩, fun a e2 => ?_⟩
      cases e2
      exact ⟨o, e, ex.2.1⟩
    · obtain ⟨o, _, _, _, e, ex, _⟩ := I.hok p _ hk
      refine ⟨⟨o, e, ex.1⟩, fun a e2 => ?_⟩
      cases e2
      exact ⟨o, e, ex.2.1⟩
  | _ => exact False.elim ty
noncomputable def tBM (K : PySem.W.Frag) (T : String) (r : V → List V → Hp → VK → Prop) (to : TE) (t : TA) : TE := fun σ H Q => to σ H fun x H1 => tyV K T x H1 ∧ t σ H1 fun xs H2 => r x xs H2 Q
variable {o e : Expr} {es : List Expr} {to : TE} {t : TA} {name : Str} {apos cpos : Pos} {T id : String} {r : V → List V → Hp → VK → Prop}
theorem pe_bm (pa : PlainAttrs T) (slot : Slot T name id) (hty : typeOf (.builtin id) = pure (.type "method_descriptor")) (hm : MtR X id r) (ho : PE X o to) (ha : PA X (e :: es) t)
    (hbase : attributeBase o name X.env (eval o X.env) = eval o X.env := by rfl)
    (hfew : ((backTo cpos (starEach (e :: es) X.env)).all (fun x => !x.1) && (backToKw cpos (keywordEach [] X.env)).all (fun x => x.1.isSome)
      && decide ((e :: es).length + ([] : List Keyword).length + (if ([] : List Keyword).isEmpty then 0 else 1) < 30)) = true := by rfl)
    (hline : (apos.endLine == cpos.line) = true := by rfl) (hs : starEach (e :: es) X.env = (false, eval e X.env) :: starEach es X.env := by rfl) (hplain : (backTo cpos (starEach es X.env)).any (·.1) = false := by rfl) :
    PE X (.Call (.Attribute o name apos) (e :: es) [] cpos) (tBM X.K T r to t) := by
  intro pins s σ H Q I h
  refine wpAny_Call_method_late hbase hfew hline rfl (thn (ho pins s σ H _ I h) fun v s1 ⟨x, H1, I1, r1, ty, q1⟩ => ?_)
  obtain ⟨h1, h2⟩ := tyV_is I1 r1 ty
  refine ⟨T, id, pa, slot, hty, h1, h2, ?_⟩
  have hA := ha cpos pins s1 σ H1 _ I1 q1
  rw [hs] at hA ⊢
  refine Calls.callWith_builtin (by show (false || (backTo cpos (starEach es X.env)).any (·.1)) = false; rw [hplain] <;> rfl) (Calls.evalArgs_plain ?_)
  exact thn hA fun us s2 ⟨vs, H2, I2, r2, q2⟩ => hm pins s2 σ H2 x vs v us Q I2 r1 r2 q2
end
end L2
namespace L2
open PySem PySem.Spec PyProof.Rows
noncomputable def MtM (X : Cx) (id : String) (r : V → List V → Hp → VK → Prop) : Prop :=
  ∀ (pins : List (Addr × Obj)) (s : Shared) (σ : St) (H : Hp) (x : V) (xs : List V) (v : Value) (us : List Value) (Q : VK), Inv X pins σ H s → RelV x v → Vals xs us → r x xs H Q →
    wpAny (model X.prog X.w) X.A (call (.builtin id) (v :: us)) (EP X pins σ Q) X.xe s
theorem Vals.hd {x : V} {xs : List V} {us : List Value} (h : Vals (x :: xs) us) : ∃ u vs, us = u :: vs ∧ RelV x u ∧ Vals xs vs := by
  cases h with
  | cons r t => exact ⟨_, _, rfl, r, t⟩
theorem Vals.nl {us : List Value} (h : Vals [] us) : us = [] := by
  cases h
  rfl
theorem Vals.one {x : V} {us : List Value} (h : Vals [x] us) : ∃ u, us = [u] ∧ RelV x u := by
  obtain ⟨u, vs, rfl, r, t⟩ := h.hd
  rw [t.nl]
  exact ⟨u, rfl, r⟩
theorem Vals.zero : ∀ {us : List Value}, Vals [] us → us = []
  | _, .nil => rfl
section
variable {X : Cx} {pins : List (Addr × Obj)} {σ : St} {H : Hp} {s : Shared} {l b : Addr} {xs ys zs : List V}
theorem Inv.lset {its its' : List Value} {n : Nat} {f : Array Value → Array Value} {t' : Nat} (I : Inv X pins σ H s) (hH : H l = some (.lst xs))
    (e : s.heap.get? l = some { cls := .type "list", data := .seq its.toArray n }) (hf : f its.toArray = its'.toArray) (hv : Vals ys its') (hz : ys.length ≤ sizeLine) :
    Inv X pins σ (upd H l (.lst ys)) { s with heap := s.heap.update l (Obj.mapSeq f), toks := t' } := by
  have q := PySem.IsL.update e f
  rw [hf] at q
  refine I.write (x := l) (e := l) (by rw [hH]; exact trivial) (.inl rfl) (fun b' u hb hu => (Heap.get?_update_other s.heap (Obj.mapSeq f) (Ne.symm hb)).trans hu) ⟨_, q⟩ ?_
  exact ⟨hz, its', _, hv, q⟩
theorem Inv.lnew {its : List Value} {t' : Nat} (I : Inv X pins σ H s) (hv : Vals ys its) (hz : ys.length ≤ sizeLine) :
    Inv X pins σ (upd H s.heap.objs.size (.lst ys)) { s with heap := s.heap.push { cls := .type "list", data := .seq its.toArray }, toks := t' } :=
  I.laid (fun _ _ q => Heap.get?_push_of_some _ q) (Nat.le_refl _) ⟨hz, its, 0, hv, Heap.get?_push_size _ rfl⟩
theorem Inv.fresh (I : Inv X pins σ H s) : H s.heap.objs.size = none := I.hok.fresh (Nat.le_refl _)
theorem Inv.lstM (I : Inv X pins σ H s) (hH : H l = some (.lst xs)) : xs.length ≤ sizeLine ∧ ∃ (its : List Value) (n : Nat), Vals xs its ∧ xs.length = its.length ∧ s.heap.get? l = some { cls := .type "list", data := .seq its.toArray n } := by
  obtain ⟨z, its, n, r, e⟩ := I.hok l _ hH
  exact ⟨z, its, n, r, r.length, e⟩
theorem notLongL {n : Nat} (h : n ≤ sizeLine) : Builtin.List.listTooLong n = false := by
  unfold Builtin.List.listTooLong
  exact decide_eq_false (by omega)
end
section
variable {X : Cx}
noncomputable def rAppend : V → List V → Hp → VK → Prop := fun x vs H Q => ∃ l xs y, x = .ref l ∧ vs = [y] ∧ H l = some (.lst xs) ∧ xs.length < sizeLine ∧ Q .non (upd H l (.lst (xs ++ [y])))
theorem mt_append : MtM X "list.append" rAppend := by
  intro pins s σ H x vs v us Q I rx rv h
  obtain ⟨l, xs, y, rfl, rfl, hH, hz, q⟩ := h
  cases rx
  obtain ⟨u, rfl, ru⟩ := rv.one
  obtain ⟨z, its, n, r, hl, e⟩ := I.lstM hH
  refine call_meets F.slot_list_append ⟨_, e, rfl⟩ F.entry_list_append (F.args_list_append_2 _ _) (PySem.list_append l its.toArray n u (by rw [List.size_toArray]; omega)) ⟨e, ?_⟩
  refine ⟨.non, _, I.lset (its' := its ++ [u]) hH e (by simp) (r.append (.cons ru .nil)) ?_, rfl, q⟩
  rw [List.length_append, List.length_singleton]
  omega
noncomputable def rExtend : V → List V → Hp → VK → Prop := fun x vs H Q => ∃ l b xs zs, x = .ref l ∧ vs = [.ref b] ∧ H l = some (.lst xs) ∧ H b = some (.lst zs) ∧ xs.length + zs.length ≤ sizeLine ∧ Q .non (upd H l (.lst (xs ++ zs)))
theorem mt_extend : MtM X "list.extend" rExtend := by
  intro pins s σ H x vs v us Q I rx rv h
  obtain ⟨l, b, xs, zs, rfl, rfl, hH, hB, hz, q⟩ := h
  cases rx
  obtain ⟨u, rfl, ru⟩ := rv.one
  cases ru
  obtain ⟨z, its, n, r, hl, e⟩ := I.lstM hH
  obtain ⟨z2, its2, n2, r2, hl2, e2⟩ := I.lstM hB
  have hsz : its.toArray.size + its2.toArray.size ≤ sizeLine := by rw [List.size_toArray, List.size_toArray]; omega
  have hlong : ¬ (!its.toArray.isEmpty && Builtin.List.listTooLong (its.toArray.size + its2.toArray.size)) = true := by
    rw [notLongL hsz, Bool.and_false]
    exact Bool.false_ne_true
  refine call_meets F.slot_list_extend ⟨_, e, rfl⟩ F.entry_list_extend (F.args_list_extend_2 _ _)
    (AutoSeq1.list_extend_list_list_0 l its.toArray n b its2.toArray n2 hlong (by rw [List.size_toArray]; omega) (by omega)) ⟨e, e2, ?_⟩
  refine ⟨.non, _, I.lset (its' := its ++ its2) hH e (by simp) (r.append r2) ?_, rfl, q⟩
  rw [List.length_append]
  omega
noncomputable def rCat : R2 := fun x y H Q => ∃ l b xs zs, x = .ref l ∧ y = .ref b ∧ H l = some (.lst xs) ∧ H b = some (.lst zs) ∧ xs.length + zs.length ≤ sizeLine ∧ ∀ p, H p = none → Q (.ref p) (upd H p (.lst (xs ++ zs)))
theorem op_cat : OpR X (binaryOp .Add) rCat := by
  intro pins s σ H x y v u Q I rx ry h
  obtain ⟨l, b, xs, zs, rfl, rfl, hH, hB, hz, q⟩ := h
  cases rx
  cases ry
  obtain ⟨z, its, n, r, hl, e⟩ := I.lstM hH
  obtain ⟨z2, its2, n2, r2, hl2, e2⟩ := I.lstM hB
  refine PySem.P.add_list e e2 ?_ (by rw [List.size_toArray, List.size_toArray]; omega)
  have ea : its.toArray ++ its2.toArray = (its ++ its2).toArray := by simp
  rw [ea]
  exact ⟨.ref _, _, I.lnew (t' := s.toks) (r.append r2) (by rw [List.length_append]; omega), rfl, q _ I.fresh⟩
end
section
variable {prog : Program} {w : World} {A : Around} {E : Value → Shared → Prop} {s : Shared}
end
section
variable {X : Cx}
end
end L2
namespace Att
open PySem PySem.W PySem.Calls PyProof.Rows
theorem ints_of_wellAll {P : Params} {h : Heap} : ∀ (ns : List Int) (vs : List Value), WellAll P h vs (ns.map WData.int) → IntsAre vs ns := by
  intro ns
  induction ns with
  | nil =>
    intro vs w
    rw [List.map_nil] at w
    cases w
    exact .nil
  | cons n ns ih =>
    intro vs w
    rw [List.map_cons] at w
    cases w with
    | cons a b =>
      cases a
      exact .cons _ _ (ih _ b)
theorem script_of {l : OpenLaw} {n : Nat} (hn : l.most = some n) {P : Params} {h : Heap} {args : List WData} {vals : List Value}
    (hpre : l.row.toRowW.claim.pre args = true) (hwl : WellAll P h vals args) :
    ∃ a vs ns, vals = [Value.ref a] ∧ args = [WData.list (ns.map WData.int)] ∧ h.get? a = some { cls := .type "list", data := .seq vs.toArray } ∧ IntsAre vs ns ∧ ns.length ≤ n := by
  have hsh : WShape.hasAll [] args [.list .int] = true := (pre_splitW hpre).1
  have hc : l.pre.holds [] { args := args } = true := (pre_splitW hpre).2
  obtain ⟨d, r, rfl, h1, h2⟩ := hasAllW_cons hsh
  obtain rfl := hasAllW_nil h2
  obtain ⟨xs, rfl, h3⟩ := hasW_list h1
  obtain ⟨ns, rfl⟩ := items_int h3
  have hlen : ns.length ≤ n := by
    unfold OpenLaw.pre at hc
    have h4 : (WTm.not (.lt (.lit (.int (n : Int))) (.len (.arg 0)))).holds [] { args := [.list (ns.map .int)] } = true := by
      have h4 := (holds_andW hc).1
      rw [hn] at h4
      exact h4
    have h5 := condW_of h4 (w_not (w_lt w_lit (w_len_list (w_arg rfl))))
    rw [List.length_map] at h5
    refine Nat.le_of_not_lt fun q => ?_
    have q' : (n : Int) < ((ns.length : Nat) : Int) := by omega
    first
      | (rw [decide_eq_true q'] at h5; exact absurd h5 (by decide))
      | (simp at h5; omega)
  cases hwl with
  | cons w1 w2 =>
    cases w2
    cases w1 with
    | list ho hall => exact ⟨_, _, ns, rfl, rfl, ho, ints_of_wellAll ns _ hall, hlen⟩
theorem post_true (l : OpenLaw) (args : List WData) : l.row.toRowW.claim.post args (.bool true) args = true :=
  postW_of (r := l.row.toRowW) (X := (true == true))
    (show WShape.has [] (.bool true) .bool = true by first | rfl | decide | simp [WShape.has, WShape.arms, WShape.armsAll])
    (show (WTm.eq .res (.lit (.bool true))).value [] { args := args, res := some (.bool true), after := args } = some (.bool (true == true)) from w_eq_bool (w_res rfl) w_lit) rfl
theorem attach_call {l : OpenLaw} {n : Nat} {q : Program} {loose : List Str} {XP : (Str → Option Value) → Heap → Prop} {YP : World → Heap → Prop} {d : DefRec}
    (hn : l.most = some n) (hdf : d.params.defaults = [])
    (call : ∀ (w : World) (s₀ s₁ : Shared) (mg mb : Str → Option Value) (fa : Addr) (o : Obj) (pm cd doc : Value) (a : Addr) (vs : List Value) (ns : List Int),
      Ground q loose [] XP w s₀ mg mb s₁.heap → YP w s₁.heap →
      s₁.heap.get? fa = some o → o.data = .func (docDef d.name d.params d.body d.scope pm cd doc) → s₁.heap.CodeRec cd d.name → mg d.name = some (.ref fa) →
      s₁.heap.get? a = some { cls := .type "list", data := .seq vs.toArray } → IntsAre vs ns → ns.length ≤ n → s₁.gens = #[] →
      codeAny (model l.prog w) callerA (.call (.ref fa) ⟨[.ref a], []⟩) (fun r s' => r = .ok (.ret (.bool true)) ∧ OldK s₁.heap s'.heap ∧ s'.os = s₁.os ∧ AllBare s'.gens) s₁) :
    WalkO q loose XP YP l.row.toRowW d [] (fun f vs => PySem.call f vs) := by
  intro w s₀ s₁ mg mb G Y fa o pm cd doc dV kV ho hd hcd hD hmg hg args vals as hpre hlay hrd hwl hlo
  obtain rfl : dV = .none := Dflts.none hD hdf
  obtain rfl : kV = .none := Dflts.noKw hD
  obtain ⟨a, vs, ns, rfl, rfl, hobj, hints, hlen⟩ := script_of hn hpre hwl
  refine enter_call (codeAny_mono (call w s₀ s₁ mg mb fa o pm cd doc a vs ns G Y ho (fd_plain hd) hcd hmg hobj hints hlen hg) fun r s' hq => ?_)
  obtain ⟨rfl, h2, h3, h4⟩ := hq
  exact ⟨.inl ⟨.bool true, .bool true, [], rfl, fun _ => rfl, .bool true, post_true l _, fun _ => ⟨List.Pairwise.nil, fun _ hm => (nomatch hm)⟩⟩, h2, h3, h4⟩
section
variable {prog : Program} {w : World} {A : Around} {E : Value → Shared → Prop} {s : Shared} {K : Frag}
end
end Att
namespace L2
open PySem PySem.Spec PyProof.Rows
theorem vals_ints : ∀ {vs : List Value} {ns : List Int}, IntsAre vs ns → Vals (ns.map V.int) vs
  | _, _, .nil => .nil
  | _, _, .cons n t h => .cons ⟨t, rfl⟩ (vals_ints h)
noncomputable def Only (H : Hp) : Prop := ∀ b, H b = none ∨ ∃ o xs, H b = some (.frz o (.lst xs))
theorem law_call {P : Program} {w : World} {K : PySem.W.Frag} {mg mb : Str → Option Value} {CX : CXT} {k : Nat} {fa a : Addr} {fd : FuncData} {x : Str} {sp : Sp} {s₁ : Shared} {vs : List Value} {ns : List Int}
    (KX : K.In s₁.heap) (hns : s₁.heap.Ns mainGlobals mg) (hb : s₁.heap.Ns builtinsNs mb) (hbb : ∀ x : Str, x ≠ "__name__" → mb x = bootBuiltins x) (hlim : s₁.heap.NoLimit) (hg : s₁.gens = #[])
    (ha : s₁.heap.get? a = some { cls := .type "list", data := .seq vs.toArray }) (hi : IntsAre vs ns) (hl : ns.length ≤ sizeLine) (hr : Room k callerA)
    (F : ∀ base : Heap, K.In base → base.Ns mainGlobals mg → FnOk P w K mg base CX k fa fd [x] sp) (hbind : ∀ (s : Shared) (u : Value), BindsTo s fd ⟨[u], []⟩ [(x, u)])
    (hsp : ∀ H : Hp, Only H → SqL K H a (ns.map V.int) → sp [.ref a] H (fun v _ => v = .bl true) fun _ _ _ => False)
    (hCX : ∀ H e s', CX [] H s₁ (fun _ _ _ => False) e s' → False) :
    codeAny (model P w) callerA (.call (.ref fa) ⟨[.ref a], []⟩) (fun r s' => r = .ok (.ret (.bool true)) ∧ OldK s₁.heap s'.heap ∧ s'.os = s₁.os ∧ AllBare s'.gens) s₁ := by
  have rv := vals_ints hi
  have lenV := hi.length
  have core : ∀ H : Hp, Only H → SqL K H a (ns.map V.int) → HOk P w H s₁.heap → (∀ b, H b ≠ none → b = a) → (H a ≠ none → K.lookup a = none) →
      codeAny (model P w) callerA (.call (.ref fa) ⟨[.ref a], []⟩) (fun r s' => r = .ok (.ret (.bool true)) ∧ OldK s₁.heap s'.heap ∧ s'.os = s₁.os ∧ AllBare s'.gens) s₁ := by
    intro H hO hS hok hA hK
    have base_of : ∀ {b : Addr} {o : Obj}, s₁.heap.get? b = some o → H b = none → (hidT s₁.heap H).get? b = some o := fun e n => hidT_get e n
    have noA : ∀ {b : Addr} {o : Obj} {es : Array DictEntry} {ep : Nat}, s₁.heap.get? b = some o → o.data = .dict es ep → H b = none := fun {b o es ep} e d => by
      cases q : H b with
      | none => rfl
      | some u =>
        have e' : b = a := hA b (by rw [q]; simp)
        subst e'
        rw [ha] at e; cases e
        have d' : Data.seq vs.toArray _ = Data.dict es ep := d
        cases d'
    have nsK : ∀ {b : Addr} {m : Str → Option Value}, s₁.heap.Ns b m → (hidT s₁.heap H).Ns b m := fun {b m} ⟨o, es, ep, e, d, r⟩ => ⟨o, es, ep, base_of e (noA e d), d, r⟩
    have hKb : K.In (hidT s₁.heap H) := fun b o e => base_of (KX b o e) (by
      cases q : H b with
      | none => rfl
      | some u =>
        have e' : b = a := hA b (by rw [q]; simp)
        subst e'
        rw [hK (by rw [q]; simp)] at e; cases e)
    have hM : Mod K mg (hidT s₁.heap H) := ⟨hKb, nsK hns, ⟨mb, nsK hb, hbb⟩, let ⟨mc, h1, h2⟩ := hlim; ⟨mc, nsK h1, h2⟩⟩
    have e0 : Env0 P w K mg (hidT s₁.heap H) callerA [] s₁ H := ⟨rfl, hM, fun b o e => of_hidT e, Nat.le_of_eq (hidT_size _ _), trivial, fun b hb => absurd (show b ∈ ([] : List Addr) from hb) (by simp), hok, .of_eq hg⟩
    refine codeAny_mono ((F _ hKb (nsK hns)).run callerA [] s₁ H ⟨[.ref a], []⟩ [.ref a] [.ref a] _ _ hr e0 (hbind s₁ (.ref a)) (.cons rfl .nil) (hsp H hO hS)) fun r s' h => ?_
    cases r with
    | error e => exact (hCX H e s' h).elim
    | ok fl =>
      cases fl with
      | next => exact False.elim h
      | brk => exact False.elim h
      | cont => exact False.elim h
      | ret u =>
        obtain ⟨v, H', os, bare, un, hok', r', q⟩ := h
        have q' : v = .bl true := q
        subst q'
        obtain rfl : u = Value.bool true := r'
        refine ⟨rfl, OldK.of_keep fun b o e => ?_, os, bare⟩
        cases q : H b with
        | none => exact un.keep b o e q (by intro z; exact absurd (show b ∈ ([] : List Addr) from z) (by simp)) (by simp)
        | some u =>
          rcases hO b with z | ⟨ob, xs, z⟩
          · rw [q] at z; cases z
          · have z2 := un.frzs b ob _ z
            obtain ⟨e1, _⟩ := hok b _ z
            obtain ⟨e2, _⟩ := hok' b _ z2
            rw [e] at e1; cases e1
            exact e2
  cases hk : K.lookup a with
  | some o =>
    have e := KX a o hk
    rw [ha] at e
    cases e
    refine core (fun _ => none) (fun _ => .inl rfl) (.inr ⟨_, vs.toArray, _, hk, rfl, rfl, rfl, by rw [List.size_toArray, lenV]; exact hl, by simpa using rv⟩) (fun b u z => by have z' : (none : Option HO) = some u := z; cases z') (fun b z => absurd rfl z) fun z => absurd rfl z
  | none =>
    refine core (fun b => if b = a then some (.frz { cls := .type "list", data := .seq vs.toArray } (.lst (ns.map V.int))) else none) (fun b => ?_) (.inl (.inr ⟨{ cls := .type "list", data := .seq vs.toArray }, if_pos rfl⟩)) (fun b u z => ?_) (fun b z => ?_) fun _ => hk
    · by_cases hb : b = a
      · exact .inr ⟨_, _, if_pos hb⟩
      · exact .inl (if_neg hb)
    · by_cases hb : b = a
      · have z' := (if_pos hb).symm.trans z
        cases z'
        subst hb
        exact ⟨ha, by rw [List.length_map]; exact hl, vs, _, rv, ha⟩
      · have z' := (if_neg hb).symm.trans z
        cases z'
    · by_cases hb : b = a
      · exact hb
      · exact absurd (if_neg hb) z
end L2
namespace L2
open PySem PySem.Spec PyProof.Rows
theorem walk_of {l : PySem.W.OpenLaw} {n k : Nat} {q : Program} {loose : List Str} {XP : (Str → Option Value) → Heap → Prop} {YP : World → Heap → Prop} {d : DefRec} {K : Params → PySem.W.Frag} {CX : World → CXT} {sp : World → Sp} {x : Str}
    (hn : l.most = some n) (hn2 : n ≤ sizeLine) (hdf : d.params.defaults = []) (hr : Room k callerA)
    (hY : ∀ (w : World) (h : Heap), YP w h → (K w.params).In h)
    (F : ∀ (w : World) (mg : Str → Option Value) (fa : Addr) (h : Heap), (K w.params).In h → h.Ns mainGlobals mg → mg d.name = some (.ref fa) →
      ∃ fd : FuncData, (∀ (s : Shared) (u : Value), BindsTo s fd ⟨[u], []⟩ [(x, u)]) ∧
        ∀ base : Heap, (K w.params).In base → base.Ns mainGlobals mg → FnOk l.prog w (K w.params) mg base (CX w) k fa fd [x] (sp w))
    (hsp : ∀ (w : World) (H : Hp) (a : Addr) (ns : List Int), ns.length ≤ n → Only H → SqL (K w.params) H a (ns.map V.int) → sp w [.ref a] H (fun v _ => v = .bl true) fun _ _ _ => False)
    (hCX : ∀ (w : World) (H : Hp) (s : Shared) (e : Value) (s' : Shared), CX w [] H s (fun _ _ _ => False) e s' → False) :
    PySem.W.WalkO q loose XP YP l.row.toRowW d [] (fun f vs => PySem.call f vs) := by
  refine Att.attach_call hn hdf fun w s₀ s₁ mg mb fa o pm cd doc a vs ns G Y ho hd hcd hmg hobj hints hlen hg => ?_
  have KX := hY w _ Y
  obtain ⟨fd, hb, hF⟩ := F w mg fa _ KX G.T.g hmg
  exact law_call KX G.T.g G.T.b G.T.builtins G.T.nolimit hg hobj hints (Nat.le_trans hlen hn2) hr hF hb (fun H hO hS => hsp w H a ns hlen hO hS) fun H e s' => hCX w H s₁ e s'
end L2
namespace L2
open PySem PySem.Spec PyProof.Rows
noncomputable def defArgs (s : Stmt) : Arguments := match s with
  | .FunctionDef _ a _ _ _ _ _ _ _ _ => a
  | _ => { posonlyargs := [], args := [], vararg := none, kwonlyargs := [], kw_defaults := [], kwarg := none, defaults := [] }
noncomputable def defBody (s : Stmt) : List Stmt := match s with
  | .FunctionDef _ _ b _ _ _ _ _ _ _ => b
  | _ => []
noncomputable def defScope (s : Stmt) : Scope := match s with
  | .FunctionDef _ _ _ _ _ _ sc _ _ _ => sc
  | _ => { kind := .function, names := [], isGenerator := false, isCoroutine := false }
noncomputable abbrev CX0 : CXT := fun _ _ _ _ _ _ => False
noncomputable abbrev E0 : XK := fun _ _ _ => False
theorem pass0 {X : Cx} : Passes CX0 X E0 := fun _ _ _ _ _ _ _ h => h.elim
structure Fun (K : PySem.W.Frag) (x qual : Str) (st : Stmt) (f : Addr) (fd : FuncData) : Prop where
  ex : ∃ (oc : Value) (od : Option Addr) (kV doc pm : Value) (an : Option Addr) (cdv ct : Value) (osl : Array (Option Value)),
    fd = PySem.W.fnOf x qual (defArgs st) (defBody st) (defScope st) .none kV doc pm an cdv ct ∧ K.lookup f = some ⟨oc, od, .func fd, osl⟩ ∧ PySem.W.codeIn K cdv qual = true
  kp : PySem.W.keepIn K (.ref f) = true
section
variable {P : Program} {w : World} {K : PySem.W.Frag} {mg : Str → Option Value} {base : Heap}
theorem Fun.ok {x qual : Str} {st : Stmt} {f : Addr} {fd : FuncData} {N ps : List Str} {k : Nat} {sp : Sp} (F : Fun K x qual st f fd) (S : FnScope N ps (defScope st)) (len : ∀ vs H Q E, sp vs H Q E → vs.length = ps.length)
    (hbody : ∀ (cdv : Value) (A : Around) (outer : List Env) (s : Shared) (H : Hp) (vs : List V) (Q : VK) (E : XK), Room k (A.deeper (envOfC qual (defScope st) s.heap.objs.size f cdv)) → sp vs H Q E →
      ∃ t, PSs (cxOf CX0 P w K mg base N qual (defScope st) f cdv A outer s H E).nox (defBody st) t ∧ t { nx := fun _ H' => Q .non H', rt := Q } (start N vs) H) : FnOk P w K mg base CX0 (k + 1) f fd ps sp := by
  obtain ⟨oc, od, kV, doc, pm, an, cdv, ct, osl, rfl, lk, hcd⟩ := F.ex
  refine fn_of lk hcd S len fun A outer s H vs Q E hr hsp => ?_
  obtain ⟨t, h, q⟩ := hbody cdv A outer s H vs Q E hr hsp
  exact ⟨t, h.nox, q⟩
theorem Fun.binds {x qual : Str} {st : Stmt} {f : Addr} {fd : FuncData} {ps : List Str} (F : Fun K x qual st f fd)
    (h : ∀ (kV doc pm : Value) (an : Option Addr) (cdv ct : Value) (us : List Value), us.length = ps.length → bindArgs (PySem.W.fnOf x qual (defArgs st) (defBody st) (defScope st) .none kV doc pm an cdv ct) ⟨us, []⟩ = pure (ps.zip us)) : Binds K fd ps [] := by
  obtain ⟨oc, od, kV, doc, pm, an, cdv, ct, osl, rfl, lk, hcd⟩ := F.ex
  exact .all (h kV doc pm an cdv ct)
theorem fun_mk {x qual : Str} {st : Stmt} {f : Addr} {oc : Value} {od an : Option Addr} {osl : Array (Option Value)} {kV doc pm cdv ct : Value} (l : K.lookup f = some ⟨oc, od, .func (PySem.W.fnOf x qual (defArgs st) (defBody st) (defScope st) .none kV doc pm an cdv ct), osl⟩)
    (c : PySem.W.codeIn K cdv qual = true) (k : PySem.W.keepIn K (.ref f) = true) : Fun K x qual st f (PySem.W.fnOf x qual (defArgs st) (defBody st) (defScope st) .none kV doc pm an cdv ct) := ⟨⟨oc, od, kV, doc, pm, an, cdv, ct, osl, rfl, l, c⟩, k⟩
end
section
variable {X : Cx}
end
theorem iteF {A B : Prop} (h : B) : if false = true then A else B := by
  rw [if_neg Bool.false_ne_true]
  exact h
theorem iteT {A B : Prop} (h : A) : if true = true then A else B := by
  rw [if_pos rfl]
  exact h
theorem ite2 {c A B : Prop} [Decidable c] (h1 : c → A) (h2 : ¬ c → B) : if c then A else B := by
  by_cases h : c
  · rw [if_pos h]
    exact h1 h
  · rw [if_neg h]
    exact h2 h
noncomputable def Same (H H' : Hp) : Prop := ∀ b o, H b = some o → H' b = some o
theorem Same.refl (H : Hp) : Same H H := fun _ _ h => h
theorem Same.trans {H H1 H2 : Hp} (a : Same H H1) (b : Same H1 H2) : Same H H2 := fun c o h => b c o (a c o h)
theorem Same.seq {K : PySem.W.Frag} {H H' : Hp} {a : Addr} {xs : List V} (e : Same H H') (h : SqL K H a xs) : SqL K H' a xs := by
  rcases h with (h | ⟨o, h⟩) | h
  · exact .inl (.inl (e _ _ h))
  · exact .inl (.inr ⟨o, e _ _ h⟩)
  · exact .inr h
end L2
namespace L2
open PySem PySem.Spec PyProof.Rows
section
variable {κ : Type} [DecidableEq κ]
end
section
variable {P : Program} {w : World} {H : Hp} {h : Heap} {a : Addr}
end
section
variable {X : Cx} {pins : List (Addr × Obj)} {σ : St} {H : Hp} {s : Shared} {a : Addr} {y v : V} {u r : Value} {o : Option V} {A : Around} {E : Value → Shared → Prop}
theorem Inv.big (I : Inv X pins σ H s) : sysModules < s.heap.objs.size := by
  have h : mainGlobals < s.heap.objs.size := (I.mod.glob.keeps I.bk).lt
  exact Nat.lt_trans (by decide) h
end
section
variable {X : Cx} {pins : List (Addr × Obj)} {σ : St} {H : Hp} {s : Shared} {a : Addr} {kvs : List (Key × V)} {k : Key} {u : Value} {A : Around} {E : Value → Shared → Prop}
end
section
variable {X : Cx} {o i e value : Expr} {pos pos' tpos : Pos} {td ty tv : TE}
end
section
variable {X : Cx} {pos : Pos}
end
section
variable {X : Cx} {pins : List (Addr × Obj)} {σ : St} {H : Hp} {s : Shared} {a : Addr} {y d : V} {u r : Value} {o : Option V} {A : Around} {E : Value → Shared → Prop}
end
section
variable {X : Cx} {o e f : Expr} {apos cpos : Pos} {td ty tx : TE}
end
section
variable {X : Cx} {pins : List (Addr × Obj)} {σ : St} {H : Hp} {s : Shared} {a : Addr} {kvs : List (Key × V)} {A : Around} {E : Value → Shared → Prop}
end
section
variable {X : Cx} {pins : List (Addr × Obj)} {σ : St} {H : Hp} {s : Shared} {a : Addr} {y : V} {u : Value} {A : Around} {E : Value → Shared → Prop}
end
end L2
namespace L2
open PySem PySem.Spec PyProof.Rows
section
variable {X : Cx}
end
section
variable {κ : Type} [DecidableEq κ]
end
end L2
set_option maxHeartbeats 4000000
namespace L2
open PySem PySem.Spec PyProof.Rows
noncomputable def Its (z : Str) : It := ⟨fun i _ => i < z.cps.size, fun i H x H' => H' = H ∧ ∃ c, z.cps[i]? = some c ∧ x = .str ⟨#[c]⟩, fun i _ => z.cps.size ≤ i⟩
theorem turn_strA {P : Program} {w : World} {K : PySem.W.Frag} {tg : Expr} (it : Addr) (z : Str) (t : Tok) : Turn P w K tg (Its z) [it] it (fun i h => h.IsStrIter it "str_ascii_iterator" z t i) where
  mem := by simp
  obj := fun i h st b hb => by
    have e : b = it := by simpa using hb
    subst e
    obtain ⟨o, e, c, d⟩ := st
    exact ⟨o, e, fun v z => by rw [d] at z; cases z⟩
  keep := fun i h h' st k => let ⟨o, ho, r⟩ := st; ⟨o, k it (by simp) o ho, r⟩
  item := by
    intro X hP hw hK hc i pins s σ H E I hf st hg
    subst hP hw hK
    obtain ⟨f0, f1, f2, f3, f4, f5⟩ := hf it (by simp)
    have hi : i < z.cps.size := hg
    refine wpAny_pyNext_ascii_item st (c := z.cps[i]) (by simp [hi]) fun h' st' hs' => ?_
    have I1 : Inv X pins σ H { s with heap := h', toks := s.toks + 1 } := I.turned (fun b o hb e => hs'.extBut b o hb e) f0 f1 f3 f4 f5
    obtain ⟨o, e, c, d⟩ := id st'
    exact ⟨_, rfl, go_of (s := { s with heap := h', toks := s.toks + 1 }) e c d (by decide) ⟨.str ⟨#[z.cps[i]]⟩, H, I1, ⟨_, rfl⟩, ⟨rfl, z.cps[i], by simp [hi], rfl⟩, st', fun b hb => (hf b hb).1⟩⟩
  done := by
    intro X hP hw hK hc i pins s σ H E I hf st hg
    subst hP hw hK
    obtain ⟨f0, f1, f2, f3, f4, f5⟩ := hf it (by simp)
    have hi : z.cps.size ≤ i := hg
    exact wpAny_pyNext_ascii_end (I.ok.hd hc) st (by simp; exact hi) fun h' eb => ⟨rfl, I.turned (t' := s.toks) (fun b o hb e => eb b o hb e) f0 f1 f3 f4 f5⟩
  self := fun _ _ _ _ _ st h => wpAny_pyIter_striter_ascii st h
theorem turn_strW {P : Program} {w : World} {K : PySem.W.Frag} {tg : Expr} (it : Addr) (z : Str) (t : Tok) : Turn P w K tg (Its z) [it] it (fun i h => h.IsStrIter it "str_iterator" z t i) where
  mem := by simp
  obj := fun i h st b hb => by
    have e : b = it := by simpa using hb
    subst e
    obtain ⟨o, e, c, d⟩ := st
    exact ⟨o, e, fun v z => by rw [d] at z; cases z⟩
  keep := fun i h h' st k => let ⟨o, ho, r⟩ := st; ⟨o, k it (by simp) o ho, r⟩
  item := by
    intro X hP hw hK hc i pins s σ H E I hf st hg
    subst hP hw hK
    obtain ⟨f0, f1, f2, f3, f4, f5⟩ := hf it (by simp)
    have hi : i < z.cps.size := hg
    refine wpAny_pyNext_wide_item st (c := z.cps[i]) (by simp [hi]) fun h' st' hs' => ?_
    have I1 : Inv X pins σ H { s with heap := h', toks := s.toks + 1 } := I.turned (fun b o hb e => hs'.extBut b o hb e) f0 f1 f3 f4 f5
    obtain ⟨o, e, c, d⟩ := id st'
    exact ⟨_, rfl, go_of (s := { s with heap := h', toks := s.toks + 1 }) e c d (by decide) ⟨.str ⟨#[z.cps[i]]⟩, H, I1, ⟨_, rfl⟩, ⟨rfl, z.cps[i], by simp [hi], rfl⟩, st', fun b hb => (hf b hb).1⟩⟩
  done := by
    intro X hP hw hK hc i pins s σ H E I hf st hg
    subst hP hw hK
    obtain ⟨f0, f1, f2, f3, f4, f5⟩ := hf it (by simp)
    have hi : z.cps.size ≤ i := hg
    exact wpAny_pyNext_wide_end (I.ok.hd hc) st (by simp; exact hi) fun h' eb => ⟨rfl, I.turned (t' := s.toks) (fun b o hb e => eb b o hb e) f0 f1 f3 f4 f5⟩
  self := fun _ _ _ _ _ st h => wpAny_pyIter_striter_wide st h
noncomputable def iStr (tl : TE) : TI := fun σ H R => tl σ H fun x H1 => ∃ z, x = .str z ∧ R (Its z) H1
section
variable {X : Cx} {tg : Expr}
theorem pi_str {l : Expr} {tl : TE} (hl : PE X l tl) : PI X tg l (iStr tl) := by
  intro pins s σ H R I h
  refine thn (hl pins s σ H _ I h) fun v s1 ⟨x, H1, I1, r1, q1⟩ => ?_
  obtain ⟨z, e, q⟩ := q1
  subst e
  obtain ⟨t, rfl⟩ := r1
  have fp : ∀ b ∈ [s1.heap.objs.size], FpOk X pins H1 b := fun b hb => by
    have e : b = s1.heap.objs.size := by simpa using hb
    subst e
    exact I1.fpOk (Nat.le_refl _) (I1.hok.fresh (Nat.le_refl _))
  cases ha : z.cps.all (· < 128)
  · exact wpAny_pyIter_wide ha ⟨s1.heap.objs.size, [s1.heap.objs.size], _, _, H1, rfl, I1.kept (t' := s1.toks) fun b o e => Heap.get?_push_of_some _ e, turn_strW _ z t, ⟨_, Heap.get?_push_size _ rfl, rfl, rfl⟩, fp, q⟩
  · exact wpAny_pyIter_ascii ha ⟨s1.heap.objs.size, [s1.heap.objs.size], _, _, H1, rfl, I1.kept (t' := s1.toks) fun b o e => Heap.get?_push_of_some _ e, turn_strA _ z t, ⟨_, Heap.get?_push_size _ rfl, rfl, rfl⟩, fp, q⟩
end
theorem for_str {z : Str} {g : TG} {tb : TS} {D : Ends} {σ : St} {H : Hp} (Pv : Nat → St → Hp → Prop) (h0 : Pv 0 σ H)
    (hs : ∀ i c σ H, z.cps[i]? = some c → Pv i σ H → g (.str ⟨#[c]⟩) σ H fun σ2 H2 => tb { D with nx := Pv (i + 1), ct := Pv (i + 1), bk := D.nx } σ2 H2) (hd : ∀ σ H, Pv z.cps.size σ H → D.nx σ H) :
    ∃ W : Nat → Nat → St → Hp → Prop, (∃ m, W 0 m σ H) ∧ ∀ i m σ H, W i m σ H →
      ((Its z).stop i H ∧ D.nx σ H) ∨ ((Its z).go i H ∧ ∃ N : St → Hp → Prop, (∀ σ' H', N σ' H' → ∃ m', m' < m ∧ W (i + 1) m' σ' H') ∧ ∀ x H', (Its z).yld i H x H' → g x σ H' fun σ2 H2 => tb { D with nx := N, ct := N, bk := D.nx } σ2 H2) := by
  refine ⟨fun i m σ H => m = z.cps.size - i ∧ i ≤ z.cps.size ∧ Pv i σ H, ⟨z.cps.size, by simp, Nat.zero_le _, h0⟩, ?_⟩
  rintro i m σ H ⟨rfl, hi, p⟩
  by_cases hlt : i < z.cps.size
  · refine .inr ⟨hlt, Pv (i + 1), fun σ' H' p' => ⟨z.cps.size - (i + 1), by omega, rfl, hlt, p'⟩, fun x H' y => ?_⟩
    obtain ⟨e, c, hc, y⟩ := y
    subst e y
    exact hs i c σ _ hc p
  · have e : i = z.cps.size := by omega
    subst e
    exact .inl ⟨Nat.le_refl _, hd σ H p⟩
theorem lookup_relabel_vis {env : Env} : ∀ {names : List (Str × NameKind)} {x : Str} {k' : NameKind},
    (names.map fun (n, k) => if (k == NameKind.free && env.scope.kind == .function && env.kindOf n == some .cell) then (n, NameKind.cell) else (n, k)).lookup x = some k' →
    ∃ k, names.lookup x = some k ∧ (k' = k ∨ (k = .free ∧ k' = .cell))
  | [], _, _, h => by simp at h
  | (n, k) :: r, x, k', h => by
    have ih := @lookup_relabel_vis env r x k'
    change List.lookup x ((if (k == NameKind.free && env.scope.kind == .function && env.kindOf n == some .cell) = true then (n, NameKind.cell) else (n, k)) :: _) = _ at h
    cases hx : x == n with
    | true =>
      by_cases hc : (k == NameKind.free && env.scope.kind == .function && env.kindOf n == some .cell) = true
      · rw [if_pos hc] at h
        simp only [List.lookup_cons, hx] at h
        cases h
        have hk : k = .free := by
          have := (Bool.and_eq_true _ _ ▸ (Bool.and_eq_true _ _ ▸ hc).1).1
          cases k <;> first | rfl | (exact absurd this (by decide))
        exact ⟨k, by simp [List.lookup_cons, hx], .inr ⟨hk, rfl⟩⟩
      · rw [if_neg hc] at h
        simp only [List.lookup_cons, hx] at h
        cases h
        exact ⟨k, by simp [List.lookup_cons, hx], .inl rfl⟩
    | false =>
      have h2 : ∃ k, r.lookup x = some k ∧ (k' = k ∨ (k = .free ∧ k' = .cell)) := by
        by_cases hc : (k == NameKind.free && env.scope.kind == .function && env.kindOf n == some .cell) = true
        · rw [if_pos hc] at h
          simp only [List.lookup_cons, hx] at h
          exact ih h
        · rw [if_neg hc] at h
          simp only [List.lookup_cons, hx] at h
          exact ih h
      obtain ⟨k2, e2, r2⟩ := h2
      exact ⟨k2, by simp [List.lookup_cons, hx, e2], r2⟩
noncomputable def closeL (names : List (Str × NameKind)) (cells : List (Str × Addr)) (acc : List (Str × Addr)) : List (Str × Addr) :=
  names.foldl (fun a x => if x.2 == .free then (match cells.lookup x.1 with | some c => (x.1, c) :: a | none => a) else a) acc
theorem closure_eq {scope : Scope} {env : Env} (h : ∀ x ∈ scope.names, x.2 = .free → ∃ c, env.cells.lookup x.1 = some c) : closureFor scope env = pure (closeL scope.names env.cells []) := by
  have all : ∀ (l : List (Str × NameKind)) (acc : List (Str × Addr)), (∀ x ∈ l, x.2 = .free → ∃ c, env.cells.lookup x.1 = some c) →
      (forIn l acc fun (x : Str × NameKind) (cs : List (Str × Addr)) => (if x.2 == .free then (do let c ← cellOf env x.1; pure (ForInStep.yield ((x.1, c) :: cs))) else pure (ForInStep.yield cs) : Sem _)) = pure (closeL l env.cells acc) := by
    intro l
    induction l with
    | nil => intro acc _; rfl
    | cons x r ih =>
      intro acc hl
      rw [List.forIn_cons]
      have hr : ∀ y ∈ r, y.2 = .free → ∃ c, env.cells.lookup y.1 = some c := fun y hy => hl y (List.mem_cons_of_mem _ hy)
      cases hk : x.2 == .free with
      | true =>
        have hkk : x.2 = .free := by
          revert hk
          cases x.2 <;> intro hk <;> first | rfl | (exact absurd hk (by decide))
        obtain ⟨c, hc⟩ := hl x List.mem_cons_self hkk
        simp only [if_true, cellOf, hc]
        rw [show closeL (x :: r) env.cells acc = closeL r env.cells ((x.1, c) :: acc) by unfold closeL; rw [List.foldl_cons]; simp [hk, hc]]
        exact ih _ hr
      | false =>
        simp only [Bool.false_eq_true, if_false]
        rw [show closeL (x :: r) env.cells acc = closeL r env.cells acc by unfold closeL; rw [List.foldl_cons]; simp [hk]]
        exact ih _ hr
  have q := all scope.names [] h
  simp only [closureFor]
  exact (congrArg (· >>= fun r => pure r) q).trans rfl
end L2
namespace L2
open PySem PySem.Spec PyProof.Rows
theorem closeL_sub : ∀ (names : List (Str × NameKind)) (cells acc : List (Str × Addr)), (∀ x c, (x, c) ∈ acc → cells.lookup x = some c) → ∀ x c, (x, c) ∈ closeL names cells acc → cells.lookup x = some c
  | [], _, _, h => h
  | y :: r, cells, acc, h => by
    have e : closeL (y :: r) cells acc = closeL r cells (if y.2 == .free then (match cells.lookup y.1 with | some c => (y.1, c) :: acc | none => acc) else acc) := rfl
    rw [e]
    refine closeL_sub r cells _ ?_
    cases hk : y.2 == .free with
    | false => simpa using h
    | true =>
      cases hc : cells.lookup y.1 with
      | none => simpa using h
      | some c =>
        intro x d hx
        simp only [if_true] at hx
        rcases List.mem_cons.mp hx with e | hx
        · cases e; exact hc
        · exact h x d hx
theorem closeL_keep : ∀ (names : List (Str × NameKind)) (cells acc : List (Str × Addr)) (x : Str) (c : Addr), (x, c) ∈ acc → (x, c) ∈ closeL names cells acc
  | [], _, _, _, _, h => h
  | y :: r, cells, acc, x, c, h => by
    have e : closeL (y :: r) cells acc = closeL r cells (if y.2 == .free then (match cells.lookup y.1 with | some c => (y.1, c) :: acc | none => acc) else acc) := rfl
    rw [e]
    refine closeL_keep r cells _ x c ?_
    cases hk : y.2 == .free with
    | false => simpa using h
    | true =>
      cases hc : cells.lookup y.1 with
      | none => simpa using h
      | some d => simp only [if_true]; exact List.mem_cons_of_mem _ h
theorem closeL_has : ∀ (names : List (Str × NameKind)) (cells acc : List (Str × Addr)) (x : Str) (c : Addr), (x, NameKind.free) ∈ names → cells.lookup x = some c → (x, c) ∈ closeL names cells acc
  | [], _, _, _, _, h, _ => by cases h
  | y :: r, cells, acc, x, c, h, hc => by
    have e : closeL (y :: r) cells acc = closeL r cells (if y.2 == .free then (match cells.lookup y.1 with | some c => (y.1, c) :: acc | none => acc) else acc) := rfl
    rw [e]
    rcases List.mem_cons.mp h with e2 | h
    · subst e2
      refine closeL_keep r cells _ x c ?_
      have : (NameKind.free == NameKind.free) = true := rfl
      simp only [hc, this, if_true]
      exact List.mem_cons_self
    · exact closeL_has r cells _ x c h hc
theorem lookup_of_mem_some {α : Type} : ∀ {l : List (Str × α)} {x : Str} {c : α}, (x, c) ∈ l → ∃ d, l.lookup x = some d
  | [], _, _, h => by cases h
  | (n, d) :: r, x, c, h => by
    cases hx : x == n with
    | true => exact ⟨d, by simp [List.lookup_cons, hx]⟩
    | false =>
      rcases List.mem_cons.mp h with e | h
      · cases e; simp at hx
      · obtain ⟨d', e⟩ := lookup_of_mem_some h
        exact ⟨d', by simp [List.lookup_cons, hx, e]⟩
section
variable {prog : Program} {w : World} {A : Around} {R : Result → Shared → Prop} {s : Shared}
theorem codeAny_compLoop_gen {elt target iter : Expr} {ifs : List Expr} {scope : Scope} {pos : Pos} {it acc : Value} {env : Env} (I : Nat → Shared → Prop)
    (turn : ∀ n s, I n s → wpAny (model prog w) A (pyNext it) (fun r s₁ => match r with
      | none => R (.ok .next) s₁
      | some v => wpAny (model prog w) A (letOwnedTupleGo target it v) (fun _ s₁' => wpAny (model prog w) A (assign target env v) (fun _ s₂ =>
          wpAny (model prog w) A (forIn ifs true fun c r => if r = true then do let ok ← isTrue c env (eval c env); pure (ForInStep.yield ok) else pure (ForInStep.yield r)) (fun ok s₃ =>
            if ok = true then wpAny (model prog w) A (eval elt env) (fun x s₄ =>
              wpAny (model prog w) A (call (.builtin "list.append") [acc, x]) (fun _ s₅ => ∃ m, m < n ∧ I m s₅) (notedBy (model prog w) A env fun e s' => R (.error e) s') s₄) (notedBy (model prog w) A env fun e s' => R (.error e) s') s₃
            else ∃ m, m < n ∧ I m s₃) (notedBy (model prog w) A env fun e s' => R (.error e) s') s₂) (notedBy (model prog w) A env fun e s' => R (.error e) s') s₁') (notedBy (model prog w) A env fun e s' => R (.error e) s') s₁) (notedBy (model prog w) A env fun e s' => R (.error e) s') s)
    (n : Nat) (h : I n s) :
    codeAny (model prog w) A (.compLoop (.ListComp elt [⟨target, iter, ifs, 0⟩] scope pos) 0 it acc env) R s := by
  refine codeAny_loop rfl I (fun n s hI => ?_) n h
  show wpAny _ A ((compTurn (.ListComp elt [⟨target, iter, ifs, 0⟩] scope pos) 0 it acc env).onRaise (fun x => do noteFrame x env; theTreesLotGoes x)) _ _ s
  refine wpAny_noted ?_
  rw [compTurn_list]
  refine wpAny_bind (wpAny_standAt (wpAny_bind (wpAny_mono (turn n s hI) (fun r s₁ h₁ => ?_) fun _ _ h' => h')))
  cases r with
  | none => exact wpAny_pure h₁
  | some v =>
    refine wpAny_bind (wpAny_mono h₁ (fun _ s₁' h₁' => ?_) fun _ _ h' => h')
    refine wpAny_bind (wpAny_mono h₁' (fun _ s₂ h₂ => wpAny_bind (wpAny_mono h₂ (fun ok s₃ h₃ => ?_) fun _ _ h' => h')) fun _ _ h' => h')
    cases ok with
    | false => exact wpAny_pure ⟨rfl, h₃⟩
    | true =>
      exact wpAny_bind (wpAny_bind (wpAny_mono h₃ (fun x s₄ h₄ => wpAny_bind (wpAny_mono h₄ (fun _ s₅ h₅ => wpAny_pure (wpAny_pure ⟨rfl, h₅⟩)) fun _ _ h' => h')) fun _ _ h' => h'))
end
noncomputable def PIf (X : Cx) (ifs : List Expr) (t : TT) : Prop :=
  ∀ (pins : List (Addr × Obj)) (s : Shared) (σ : St) (H : Hp) (Q : Bool → Hp → Prop), Inv X pins σ H s → t σ H Q →
    wpAny (model X.prog X.w) X.A (forIn ifs true fun c r => if r = true then do let ok ← isTrue c X.env (eval c X.env); pure (ForInStep.yield ok) else pure (ForInStep.yield r)) (TP X pins σ Q) X.xe s
noncomputable def tYes : TT := fun _ H Q => Q true H
theorem pif_nil {X : Cx} : PIf X [] tYes := fun _ _ _ H _ I h => wpAny_tests_nil ⟨H, I, h⟩
theorem pif_one {X : Cx} {c : Expr} {t : TT} (h : PT X c t) : PIf X [c] t := fun pins s σ H Q I hq => wpAny_tests_one (h pins s σ H Q I hq)
noncomputable def cxComp (X : Cx) (N' : List Str) (scope : Scope) (cl : List (Str × Addr)) (C : Addr) (s₀ : Shared) (H₀ : Hp) (ex : List Addr) : Cx :=
  { prog := X.prog, w := X.w, K := X.K, mg := X.mg, base := X.base, A := X.A, N := N', s₀ := s₀, H₀ := H₀, env := compEnvC scope cl C X.env, outer := X.stack, stack := X.stack, ex := ex, fn := fun x => match scope.names.lookup x with | some .cell => true | _ => false, calm := X.calm, pn := [], xe := fun _ _ => False }
theorem thnF {α : Type} {t : Sem α} {Q Q' : α → Shared → Prop} {M : Model} {A : Around} {E : Value → Shared → Prop} {s : Shared} (h : wpAny M A t Q (fun _ _ => False) s) (hQ : ∀ a s, Q a s → Q' a s) : wpAny M A t Q' E s := wpAny_mono h hQ fun _ _ z => z.elim
end L2
namespace L2
open PySem PySem.Spec PyProof.Rows
section
variable {X : Cx}
theorem call_isi : CallR X (.builtin "isinstance") (fun xs H Q => ∃ x t T b, xs = [x, .ty T] ∧ TyOf X.K H x t ∧ PySem.W.kitOne X.K t (.type T) = some b ∧ Q (.bl b) H) := by
  intro pins s σ H xs us Q I r h
  obtain ⟨x, t, T, b, rfl, ty, e, q⟩ := h
  obtain ⟨u, w', rfl, ru, rw'⟩ := vals2 r
  cases (show w' = Value.type T from rw')
  exact isinst_ok I ru ty e fun tk => ⟨.bl b, H, I.tok tk, rfl, q⟩
theorem vals_bls : ∀ {bs : List Bool} {its : List Value}, Vals (bs.map V.bl) its → its = bs.map Value.bool
  | [], _, r => by cases r; rfl
  | b :: bs, _, r => by
    cases r with
    | cons r1 r2 =>
      cases (show _ = Value.bool b from r1)
      rw [vals_bls r2, List.map_cons]
theorem range_all (bs : List Bool) : (List.range bs.length).all (fun i => bs.getD i true) = bs.all id := by
  rw [Bool.eq_iff_iff, List.all_eq_true, List.all_eq_true]
  constructor
  · intro h x hx
    obtain ⟨i, hi, rfl⟩ := List.mem_iff_getElem.mp hx
    have := h i (List.mem_range.mpr hi)
    simpa [List.getD_eq_getElem?_getD, hi] using this
  · intro h i hi
    have hi' := List.mem_range.mp hi
    have := h bs[i] (List.getElem_mem hi')
    simpa [List.getD_eq_getElem?_getD, hi'] using this
theorem call_allB (hc : X.calm = true) : CallR X (.builtin "all") (fun xs H Q => ∃ (p : Addr) (bs : List Bool), xs = [.ref p] ∧ SqL X.K H p (bs.map V.bl) ∧ Q (.bl (bs.all id)) H) := by
  intro pins s σ H xs us Q I r h
  obtain ⟨p, bs, rfl, hp, q⟩ := h
  obtain ⟨u, rfl, ru⟩ := vals1 r
  cases (show u = Value.ref p from ru)
  obtain ⟨its, rv, pl, hz⟩ := I.list hp
  have hits := vals_bls rv
  obtain ⟨o, _, ho, _⟩ := id pl
  have hpl : p < s.heap.objs.size := Heap.lt_size ho
  refine call_all_walk (wpAny_pyIter_list pl.isList ⟨s.heap.objs.size, _, _, _, _, _, fun i => bs.getD i true, rfl, Walks.list (A := X.A.in1) (show X.A.in1.handled = none from I.ok.hd hc) s.heap.objs.size p (Nat.ne_of_lt hpl) its.toArray,
    ⟨⟨_, Heap.get?_push_size _ rfl, rfl, rfl⟩, pl.isList.push _⟩, ?_, fun h' tk hk => ?_⟩)
  · intro i v s' Q' E' hv hQ
    have hv' : its[i]? = some v := by simpa using hv
    rw [hits, List.getElem?_map] at hv'
    cases e : bs[i]? with
    | none => rw [e] at hv'; cases hv'
    | some b =>
      rw [e] at hv'
      cases hv'
      refine wpAny_truthy_bool ?_
      have : bs.getD i true = b := by rw [List.getD_eq_getElem?_getD, e]; rfl
      have hQ' : Q' (bs.getD i true) s' := hQ
      rw [this] at hQ'
      exact hQ'
  · have e : its.toArray.size = bs.length := by rw [List.size_toArray, hits, List.length_map]
    rw [e, range_all]
    refine ⟨.bl (bs.all id), H, I.kept (t' := tk) fun b o e => hk b o ?_ (Heap.get?_push_of_some _ e), rfl, q⟩
    intro hb
    have : b = s.heap.objs.size := by simpa using hb
    exact absurd (Heap.lt_size e) (by rw [this]; exact Nat.lt_irrefl _)
noncomputable def rSlS : V → Option Int → Option Int → Hp → VK → Prop := fun x lo hi H Q => ∃ z, x = .str z ∧ z.length ≤ sizeLine ∧ Q (.str (Txt.slice z lo hi)) H
theorem sl_str : SlR X rSlS := by
  intro pins s σ H x v vl vu lo hi sl Q I rx hs pl pu h
  obtain ⟨z, rfl, hz, q⟩ := h
  obtain ⟨t, rfl⟩ := rx
  refine ⟨"str", _, F.slot_str_getitem.lookup, typeIs_str _ _ _, ?_⟩
  have fin : ∀ t' k, EP X pins σ Q (.str (Txt.slice z lo hi) t') { s with toks := k } := fun t' k => ⟨.str _, H, I.tok k, ⟨_, rfl⟩, q⟩
  cases pl with
  | none =>
    cases pu with
    | none => exact wpAny_getItem_str_slice (l := none) (u := none) (st := none) hs rfl (post_val_or_str ⟨Nat.le_trans (Txt.slice_le z _ _) hz, fin⟩)
    | int j uj => exact wpAny_getItem_str_slice (l := none) (u := some (j, uj)) (st := none) hs rfl (post_val_or_str ⟨Nat.le_trans (Txt.slice_le z _ _) hz, fin⟩)
  | int i ui =>
    cases pu with
    | none => exact wpAny_getItem_str_slice (l := some (i, ui)) (u := none) (st := none) hs rfl (post_val_or_str ⟨Nat.le_trans (Txt.slice_le z _ _) hz, fin⟩)
    | int j uj => exact wpAny_getItem_str_slice (l := some (i, ui)) (u := some (j, uj)) (st := none) hs rfl (post_val_or_str ⟨Nat.le_trans (Txt.slice_le z _ _) hz, fin⟩)
theorem op_repS : OpR X (binaryOp .Mult) (fun x y H Q => ∃ z i, x = .str z ∧ y = .int i ∧ 0 ≤ i ∧ i ≤ 100000 ∧ z.length * i.toNat ≤ 100000 ∧ Q (.str (Txt.mul z i)) H) := by
  intro pins s σ H x y v u Q I rx ry h
  obtain ⟨z, i, rfl, rfl, h0, h1, h2, q⟩ := h
  obtain ⟨t, rfl⟩ := rx
  obtain ⟨t', rfl⟩ := ry
  have hsz : sizeLine = 16777216 := sizeLine_eq
  refine SB.mul ⟨?_, fun h3 h4 => ?_, fun h3 h4 => ?_⟩ fun t' k => ⟨.str _, H, I.tok k, ⟨_, rfl⟩, q⟩
  · rw [decide_eq_false (by omega), decide_eq_false (by omega)]; rfl
  · have h5 : (z.length : Int) ≤ 100000 := by
      have h6 : z.length * 1 ≤ z.length * i.toNat := Nat.mul_le_mul_left _ (by omega)
      omega
    have h7 : (100000 : Int) ≤ (2 ^ 63 - 1) / i := by
      rw [Int.le_ediv_iff_mul_le (by omega)]
      have : (100000 : Int) * i ≤ 100000 * 100000 := Int.mul_le_mul_of_nonneg_left h1 (by decide)
      have e : (2 : Int) ^ 63 - 1 = 9223372036854775807 := by decide
      omega
    omega
  · unfold Builtin.Str.tooLong
    rw [hsz]
    exact decide_eq_false (by omega)
end
end L2
namespace L2
open PySem PySem.Spec PyProof.Rows
noncomputable def isStar : Expr → Bool
  | .Starred _ _ => true
  | _ => false
noncomputable def noStar (es : List Expr) : Bool := es.all fun e => !isStar e
theorem star_one (e : Expr) (es : List Expr) (env : Env) (h : isStar e = false) : starEach (e :: es) env = (false, eval e env) :: starEach es env := by
  cases e <;> first | rfl | (exact absurd h (by simp [isStar]))
theorem star_any (pos : Pos) (env : Env) : ∀ es : List Expr, noStar es = true → (backTo pos (starEach es env)).any (·.1) = false
  | [], _ => rfl
  | e :: es, h => by
    have h' : (!isStar e) = true ∧ noStar es = true := by
      have := h
      unfold noStar at this ⊢
      rw [List.all_cons, Bool.and_eq_true] at this
      exact this
    have hs : isStar e = false := by
      have := h'.1
      cases q : isStar e with
      | true => rw [q] at this; cases this
      | false => rfl
    rw [star_one e es env hs]
    show (false || (backTo pos (starEach es env)).any (·.1)) = false
    rw [star_any pos env es h'.2]; rfl
theorem noStar_cons {e : Expr} {es : List Expr} (h : noStar (e :: es) = true) : isStar e = false ∧ noStar es = true := by
  unfold noStar at h ⊢
  rw [List.all_cons, Bool.and_eq_true] at h
  refine ⟨?_, h.2⟩
  cases q : isStar e with
  | true => rw [q] at h; cases h.1
  | false => rfl
section
variable {X : Cx} {CX : CXT} {k : Nat} {f C : Addr} {fd : FuncData} {ps : List Str} {sp : Sp} {dvs : List V} {ds : List Value} {E : XK} {x m : Str} {p pos apos : Pos} {e o : Expr} {es : List Expr} {ta te : TE} {t : TA} {id T : String} {r : List V → Hp → VK → Prop}
theorem pac (ha : PE X e te) (hr : PA X es t) (hs : isStar e = false := by rfl) : PA X (e :: es) (tCons te t) := pa_cons ha hr (star_one _ _ _ hs)
theorem pcall (F : FnOk X.prog X.w X.K X.mg X.base CX k f fd ps sp) (hr : Room k X.A) (hm : X.mg x = some (.ref f)) (hk : PySem.W.keepIn X.K (.ref f) = true) (hb : Binds X.K fd ps []) (hx : Passes CX X E)
    (ha : PA X (e :: es) t) (hg : Gl X x := by rfl) (hdb : (x == ("__debug__" : Str)) = false := by decide) (hs : noStar (e :: es) = true := by rfl) : PE X (.Call (.Name x p) (e :: es) [] pos) (tCall sp [] E t) :=
  pe_call F hr hg hm hk hb .nil hx ha hdb (star_one _ _ _ (noStar_cons hs).1) (star_any _ _ _ (noStar_cons hs).2)
theorem pblt (hc : CallR X (.builtin id) r) (hm : X.mg x = none) (hv : bootBuiltins x = some (.builtin id)) (ha : PA X (e :: es) t) (hg : Gl X x := by rfl) (hn : x ≠ "__name__" := by decide) (hdb : (x == ("__debug__" : Str)) = false := by decide)
    (hs : noStar (e :: es) = true := by rfl) : PE X (.Call (.Name x p) (e :: es) [] pos) (tCB r t) :=
  pe_callB hc hg hm hv ha hn hdb (star_one _ _ _ (noStar_cons hs).1) (star_any _ _ _ (noStar_cons hs).2)
end
end L2
namespace L2
open PySem PySem.Spec PyProof.Rows
structure Ev (X : Cx) (e : Expr) (σ : St) (H : Hp) (Q : VK) : Prop where
  run : ∀ (pins : List (Addr × Obj)) (s : Shared), Inv X pins σ H s → wpAny (model X.prog X.w) X.A (eval e X.env) (EP X pins σ Q) X.xe s
structure Et (X : Cx) (e : Expr) (σ : St) (H : Hp) (Q : Bool → Hp → Prop) : Prop where
  run : ∀ (pins : List (Addr × Obj)) (s : Shared), Inv X pins σ H s → wpAny (model X.prog X.w) X.A (isTrue e X.env (eval e X.env)) (TP X pins σ Q) X.xe s
structure Ew (X : Cx) (e : Expr) (σ : St) (H : Hp) (Q : Bool → Hp → Prop) : Prop where
  run : ∀ (whole : Sem Value) (pins : List (Addr × Obj)) (s : Shared), Inv X pins σ H s → wpAny (model X.prog X.w) X.A (isTrue e X.env whole) (TP X pins σ Q) X.xe s
structure Ea (X : Cx) (es : List Expr) (σ : St) (H : Hp) (Q : List V → Hp → Prop) : Prop where
  run : ∀ (pos : Pos) (pins : List (Addr × Obj)) (s : Shared), Inv X pins σ H s → wpAny (model X.prog X.w) X.A (spliced (backTo pos (starEach es X.env))) (AP X pins σ Q) X.xe s
structure Eo (X : Cx) (e : Option Expr) (σ : St) (H : Hp) (Q : Option Int → Hp → Prop) : Prop where
  run : ∀ (pins : List (Addr × Obj)) (s : Shared), Inv X pins σ H s → wpAny (model X.prog X.w) X.A (evalPart e X.env) (fun u s' => ∃ o H', Inv X pins σ H' s' ∧ IsPart u o ∧ Q o H') X.xe s
structure Eg (X : Cx) (e : Expr) (v : V) (σ : St) (H : Hp) (Q : St → Hp → Prop) : Prop where
  run : ∀ (pins : List (Addr × Obj)) (s : Shared) (u : Value), Inv X pins σ H s → RelV v u → wpAny (model X.prog X.w) X.A (assign e X.env u) (fun _ s' => ∃ σ' H', Inv X pins σ' H' s' ∧ Q σ' H') X.xe s
structure Run (X : Cx) (l : List Stmt) (D : Ends) (σ : St) (H : Hp) : Prop where
  run : ∀ (pins : List (Addr × Obj)) (s : Shared), Inv X pins σ H s → wpAny (model X.prog X.w) X.A (execs l X.env) (SP X pins D) X.xe s
noncomputable def tEv (X : Cx) (e : Expr) : TE := fun σ H Q => Ev X e σ H Q
noncomputable def tEt (X : Cx) (e : Expr) : TT := fun σ H Q => Et X e σ H Q
noncomputable def tEw (X : Cx) (e : Expr) : TT := fun σ H Q => Ew X e σ H Q
noncomputable def tEa (X : Cx) (es : List Expr) : TA := fun σ H Q => Ea X es σ H Q
noncomputable def tEo (X : Cx) (e : Option Expr) : TO := fun σ H Q => Eo X e σ H Q
noncomputable def tEg (X : Cx) (e : Expr) : TG := fun v σ H Q => Eg X e v σ H Q
noncomputable def tRun (X : Cx) (l : List Stmt) : TS := fun D σ H => Run X l D σ H
section
variable {X : Cx} {e a b c o : Expr} {es : List Expr} {st : Stmt} {rest body els : List Stmt} {σ : St} {H : Hp} {Q : VK} {T : Bool → Hp → Prop} {L : List V → Hp → Prop} {D : Ends} {pos p p2 : Pos}
theorem pe_ev : PE X e (tEv X e) := fun pins s _ _ _ I h => h.run pins s I
theorem pt_et : PT X e (tEt X e) := fun pins s _ _ _ I h => h.run pins s I
theorem pw_ew : PW X e (tEw X e) := fun wh pins s _ _ _ I h => h.run wh pins s I
theorem pa_ea : PA X es (tEa X es) := fun pos pins s _ _ _ I h => h.run pos pins s I
theorem po_eo {e : Option Expr} : PO X e (tEo X e) := fun pins s _ _ _ I h => h.run pins s I
theorem pg_eg : PG X e (tEg X e) := fun pins s _ _ _ u _ I r h => h.run pins s u I r
theorem pss_run {l : List Stmt} : PSs X l (tRun X l) := fun pins s _ _ _ I h => h.run pins s I
theorem ev_of {t : TE} (h1 : PE X e t) (h2 : t σ H Q) : Ev X e σ H Q := ⟨fun pins s I => h1 pins s σ H Q I h2⟩
theorem et_of {t : TT} (h1 : PT X e t) (h2 : t σ H T) : Et X e σ H T := ⟨fun pins s I => h1 pins s σ H T I h2⟩
theorem ew_of {t : TT} (h1 : PW X e t) (h2 : t σ H T) : Ew X e σ H T := ⟨fun wh pins s I => h1 wh pins s σ H T I h2⟩
theorem ea_of {t : TA} (h1 : PA X es t) (h2 : t σ H L) : Ea X es σ H L := ⟨fun pos pins s I => h1 pos pins s σ H L I h2⟩
theorem eo_of {e : Option Expr} {t : TO} {R : Option Int → Hp → Prop} (h1 : PO X e t) (h2 : t σ H R) : Eo X e σ H R := ⟨fun pins s I => h1 pins s σ H R I h2⟩
theorem eg_of {t : TG} {v : V} {R : St → Hp → Prop} (h1 : PG X e t) (h2 : t v σ H R) : Eg X e v σ H R := ⟨fun pins s u I r => h1 pins s σ H v u R I r h2⟩
theorem run_cons {t : TS} (h1 : PS X st t) (h2 : t { D with nx := fun σ' H' => Run X rest D σ' H' } σ H) : Run X (st :: rest) D σ H := ⟨fun pins s I => pss_cons h1 pss_run pins s σ H D I h2⟩
theorem run_nil (h : D.nx σ H) : Run X [] D σ H := ⟨fun pins s I => pss_nil pins s σ H D I h⟩
theorem Ev.mono {Q' : VK} (h : Ev X e σ H Q) (f : ∀ v H', Q v H' → Q' v H') : Ev X e σ H Q' := ⟨fun pins s I => thn (h.run pins s I) fun _ _ ⟨v, H', I', r, q⟩ => ⟨v, H', I', r, f v H' q⟩⟩
theorem Et.mono {T' : Bool → Hp → Prop} (h : Et X e σ H T) (f : ∀ v H', T v H' → T' v H') : Et X e σ H T' := ⟨fun pins s I => thn (h.run pins s I) fun v _ ⟨H', I', q⟩ => ⟨H', I', f v H' q⟩⟩
theorem Ea.mono {L' : List V → Hp → Prop} (h : Ea X es σ H L) (f : ∀ v H', L v H' → L' v H') : Ea X es σ H L' := ⟨fun pos pins s I => thn (h.run pos pins s I) fun _ _ ⟨v, H', I', r, q⟩ => ⟨v, H', I', r, f v H' q⟩⟩
theorem ev_v (i : Nat) {x : Str} {v : V} (h : Q v H) (hv : σ[i]? = some (some v) := by rfl) (hN : X.N[i]? = some x := by rfl) (hs : Vis X.env.scope x := by first | exact Or.inl rfl | exact Or.inr (Or.inl rfl) | exact Or.inr (Or.inr rfl)) (hd : (x == ("__debug__" : Str)) = false := by decide)
    (hcd : (x == ("__classdict__" : Str)) = false := by decide) : Ev X (.Name x p) σ H Q := ev_of (pe_var (i := i) hN hs hd hcd) ⟨v, hv, h⟩
theorem ev_int {i : Int} {j : Nat} (h : Q (.int i) H) : Ev X (.Constant (.int i) j p) σ H Q := ev_of (pe_int) h
theorem ev_bl {i : Bool} {j : Nat} (h : Q (.bl i) H) : Ev X (.Constant (.bool i) j p) σ H Q := ev_of (pe_bl) h
theorem ev_non {j : Nat} (h : Q .non H) : Ev X (.Constant .none j p) σ H Q := ev_of (pe_non) h
theorem ev_str {i : Str} {j : Nat} (h : Q (.str i) H) : Ev X (.Constant (.str i) j p) σ H Q := ev_of (pe_str) h
theorem ev_glob {x : Str} {v : V} {u : Value} (hm : X.mg x = some u) (r : RelV v u) (h : Q v H) (hg : Gl X x := by rfl) (hd : (x == ("__debug__" : Str)) = false := by decide) : Ev X (.Name x p) σ H Q := ev_of (pe_glob hg hm r hd) h
theorem ev_bltn {x : Str} (v : V) {u : Value} (hm : X.mg x = none) (hv : bootBuiltins x = some u) (r : RelV v u) (h : Q v H) (hg : Gl X x := by rfl) (hn : x ≠ "__name__" := by decide) (hd : (x == ("__debug__" : Str)) = false := by decide) : Ev X (.Name x p) σ H Q := ev_of (pe_bltn hg hm hv r hn hd) h
theorem ev_op {op : Operator} {r : R2} (ho : OpR X (binaryOp op) r) (h : Ev X a σ H fun x H1 => Ev X b σ H1 fun y H2 => r x y H2 Q) : Ev X (.BinOp a op b pos) σ H Q := ev_of (pe_op ho pe_ev pe_ev) h
theorem ev_un {op : UnaryOp} {r : V → Hp → VK → Prop} (ho : UnR X (unaryOp op) r) (h : Ev X a σ H fun x H1 => r x H1 Q) : Ev X (.UnaryOp op a pos) σ H Q := ev_of (pe_un ho pe_ev) h
theorem ev_cmp {op : CmpOp} {r : R2} (ho : OpR X (compareOp op) r) (h : Ev X a σ H fun x H1 => Ev X b σ H1 fun y H2 => r x y H2 Q) (hm : behindInMarks op b = false := by with_unfolding_all rfl) : Ev X (.Compare a [op] [b] pos) σ H Q := ev_of (pe_cmpR ho pe_ev pe_ev hm) h
theorem ev_chain {op op' : CmpOp} {r r' : R2} (ho : OpR X (compareOp op) r) (ho' : OpR X (compareOp op') r') (h : Ev X a σ H fun x H1 => Ev X b σ H1 fun y H2 => r x y H2 fun z H3 => ∃ k, z = .bl k ∧ (if k = true then Ev X c σ H3 fun w' H4 => r' y w' H4 Q else Q (.bl false) H3))
    (hm : lastMarks [op, op'] [b, c] = false := by with_unfolding_all rfl) : Ev X (.Compare a [op, op'] [b, c] pos) σ H Q := ev_of (pe_chain ho ho' pe_ev pe_ev pe_ev hm) h
theorem ev_and (h : Ev X a σ H fun x H1 => ∃ k, x = .bl k ∧ if k = true then Ev X (.BoolOp .And (b :: es) pos) σ H1 Q else Q (.bl false) H1) : Ev X (.BoolOp .And (a :: b :: es) pos) σ H Q := ev_of (pe_and pe_ev pe_ev) h
theorem ev_last {op : BoolOp} (h : Ev X a σ H Q) : Ev X (.BoolOp op [a] pos) σ H Q := ev_of (pe_one pe_ev) h
theorem ev_ix {r : R2} (hr : IxR X r) (h : Ev X a σ H fun x H1 => Ev X b σ H1 fun y H2 => r x y H2 Q) (hs : PlainIx b := by intro _ _; rfl) : Ev X (.Subscript a b pos) σ H Q := ev_of (pe_ix hr pe_ev pe_ev hs) h
theorem ev_slice {r : V → Option Int → Option Int → Hp → VK → Prop} {lo hi : Option Expr} (hr : SlR X r) (h : Ev X a σ H fun x H1 => Eo X lo σ H1 fun l H2 => Eo X hi σ H2 fun u H3 => r x l u H3 Q) : Ev X (.Subscript a (.Slice lo hi none p2) pos) σ H Q := ev_of (pe_slice hr pe_ev po_eo po_eo) h
theorem eo_none {R : Option Int → Hp → Prop} (h : R none H) : Eo X none σ H R := eo_of (po_none) h
theorem eo_some {R : Option Int → Hp → Prop} (h : Ev X a σ H fun x H1 => ∃ i, x = .int i ∧ R (some i) H1) : Eo X (some a) σ H R := eo_of (po_some pe_ev) h
theorem ea_nil (h : L [] H) : Ea X [] σ H L := ea_of (pa_nil) h
theorem ea_cons (h : Ev X e σ H fun x H1 => Ea X es σ H1 fun xs H2 => L (x :: xs) H2) (hs : isStar e = false := by rfl) : Ea X (e :: es) σ H L := ea_of (pac pe_ev pa_ea hs) h
theorem ev_tup {k : Nat} (h : Ea X es σ H fun xs H1 => xs.length ≤ sizeLine ∧ ∀ p, H1 p = none → Q (.ref p) (upd H1 p (.tup xs))) : Ev X (.Tuple es k pos) σ H Q := ev_of (pe_tup pa_ea) h
theorem ev_lst (h : Ea X es σ H fun xs H1 => xs.length ≤ sizeLine ∧ ∀ p, H1 p = none → Q (.ref p) (upd H1 p (.lst xs))) : Ev X (.List es pos) σ H Q := ev_of (pe_lst pa_ea) h
theorem ev_call {CX : CXT} {k : Nat} {f : Addr} {fd : FuncData} {ps : List Str} {sp : Sp} {E : XK} {x : Str} (F : FnOk X.prog X.w X.K X.mg X.base CX k f fd ps sp) (hr : Room k X.A) (hm : X.mg x = some (.ref f)) (hk : PySem.W.keepIn X.K (.ref f) = true) (hb : Binds X.K fd ps []) (hx : Passes CX X E)
    (h : Ea X (e :: es) σ H fun vs H1 => sp vs H1 Q E) (hg : Gl X x := by rfl) (hdb : (x == ("__debug__" : Str)) = false := by decide) (hs : noStar (e :: es) = true := by rfl) : Ev X (.Call (.Name x p) (e :: es) [] pos) σ H Q :=
  ev_of (pcall F hr hm hk hb hx pa_ea hg hdb hs) (show Ea X (e :: es) σ H _ from h.mono fun vs H1 q => by rw [List.append_nil]; exact q)
theorem ev_blt {id : String} {r : List V → Hp → VK → Prop} {x : Str} (hc : CallR X (.builtin id) r) (hm : X.mg x = none) (hv : bootBuiltins x = some (.builtin id)) (h : Ea X (e :: es) σ H fun vs H1 => r vs H1 Q) (hg : Gl X x := by rfl) (hn : x ≠ "__name__" := by decide) (hdb : (x == ("__debug__" : Str)) = false := by decide)
    (hs : noStar (e :: es) = true := by rfl) : Ev X (.Call (.Name x p) (e :: es) [] pos) σ H Q := ev_of (pblt hc hm hv pa_ea hg hn hdb hs) h
theorem et_cmp {op : CmpOp} {r : R2} (ho : OpR X (compareOp op) r) (h : Ev X a σ H fun x H1 => Ev X b σ H1 fun y H2 => r x y H2 fun z H3 => ∃ k, z = .bl k ∧ T k H3) (hm : behindInMarks op b = false := by with_unfolding_all rfl) : Et X (.Compare a [op] [b] pos) σ H T := et_of (pt_cmpR ho pe_ev pe_ev hm) h
theorem et_not (h : Et X a σ H fun k H1 => T (!k) H1) : Et X (.UnaryOp .Not a pos) σ H T := et_of (pt_not pt_et) h
theorem et_val (h : Ev X e σ H fun x H1 => ∃ k, x = .bl k ∧ T k H1) (he : ∀ whole, isTrue e X.env whole = (do let v ← whole; standAt e.pos; holding [v] (truthy v)) := by intro _; rfl) : Et X e σ H T := et_of (pt_val pe_ev he) h
theorem et_bool (h : Ew X e σ H T) : Et X e σ H T := ⟨fun pins s I => h.run _ pins s I⟩
theorem ew_and (h : Et X a σ H fun k H1 => if k = true then Ew X (.BoolOp .And (b :: es) pos) σ H1 T else T false H1) : Ew X (.BoolOp .And (a :: b :: es) pos) σ H T := ew_of (pw_and pt_et pw_ew) h
theorem ew_or (h : Et X a σ H fun k H1 => if k = true then T true H1 else Ew X (.BoolOp .Or (b :: es) pos) σ H1 T) : Ew X (.BoolOp .Or (a :: b :: es) pos) σ H T := ew_of (pw_or pt_et pw_ew) h
theorem ew_and1 (h : Et X a σ H T) : Ew X (.BoolOp .And [a] pos) σ H T := ew_of (pw_and1 pt_et) h
theorem ew_or1 (h : Et X a σ H T) : Ew X (.BoolOp .Or [a] pos) σ H T := ew_of (pw_or1 pt_et) h
theorem eg_name (i : Nat) {x : Str} {v : V} {R : St → Hp → Prop} (hN : X.N.Nodup) (h : R (σ.set i (some v)) H) (hi : X.N[i]? = some x := by rfl) (hx : Loc X.env.scope x := by first | exact Or.inl rfl | exact Or.inr rfl) (hf : X.fn x = true ∨ X.env.scope.names.lookup x = some .local := by first | exact .inl rfl | exact .inr rfl | assumption) : Eg X (.Name x p) v σ H R := eg_of (pg_name hN hi hx hf) h
theorem run_set (i : Nat) {x : Str} {pos' : Pos} (hN : X.N.Nodup) (h : Ev X e σ H fun v H1 => Run X rest D (σ.set i (some v)) H1) (hi : X.N[i]? = some x := by rfl) (hx : Loc X.env.scope x := by first | exact Or.inl rfl | exact Or.inr rfl) (hs : swapsWith e (some (.Name x pos')) pos.line X.env = pure false := by rfl)
    (hf : X.fn x = true ∨ X.env.scope.names.lookup x = some .local := by first | exact .inl rfl | exact .inr rfl | assumption) : Run X (.Assign [.Name x pos'] e pos :: rest) D σ H := run_cons (ps_set hN hi hx pe_ev hs hf) h
theorem run_if (h : Et X c σ H fun k H1 => if k = true then Run X body { D with nx := fun σ' H' => Run X rest D σ' H' } σ H1 else Run X els { D with nx := fun σ' H' => Run X rest D σ' H' } σ H1) : Run X (.If c body els pos :: rest) D σ H := run_cons (ps_if pt_et pss_run pss_run) h
theorem run_ifJ (φ ψ : Prop) (hc : ∀ T : Bool → Hp → Prop, (∀ k : Bool, (k = true → φ) → (k = false → ψ) → T k H) → Et X c σ H T) (ht : φ → Run X body { D with nx := fun σ' H' => Run X rest D σ' H' } σ H) (hu : ψ → Run X els { D with nx := fun σ' H' => Run X rest D σ' H' } σ H) : Run X (.If c body els pos :: rest) D σ H :=
  run_if (hc _ fun k p q => by
    cases k with
    | true => rw [if_pos rfl]; exact ht (p rfl)
    | false => rw [if_neg Bool.false_ne_true]; exact hu (q rfl))
theorem run_ret (h : Ev X e σ H D.rt) : Run X (.Return (some e) pos :: rest) D σ H := run_cons (ps_ret pe_ev) h
theorem run_expr (h : Ev X e σ H fun _ H1 => Run X rest D σ H1) (hs : swapsWith e none pos.line X.env = pure false := by rfl) : Run X (.Expr e pos :: rest) D σ H := run_cons (ps_expr pe_ev hs) h
theorem run_asg {tg : Expr} (h : Ev X e σ H fun v H1 => Eg X tg v σ H1 fun σ' H' => Run X rest D σ' H') (hs : swapsWithSole [tg] e pos.line X.env = pure false := by rfl) (hw : swappedStores [tg] e X.env = pure none := by rfl)
    (h1 : (assignEach [tg] X.env).map (·.2) = [assign tg X.env] := by rfl) : Run X (.Assign [tg] e pos :: rest) D σ H := run_cons (ps_asg pe_ev pg_eg hs hw h1) h
noncomputable def Loop (X : Cx) (tg : Expr) (body : List Stmt) (J : It) (D : Ends) (after : St → Hp → Prop) (σ : St) (H : Hp) : Prop :=
  ∃ W : Nat → Nat → St → Hp → Prop, (∃ m, W 0 m σ H) ∧ ∀ i m σ H, W i m σ H → (J.stop i H ∧ after σ H) ∨ (J.go i H ∧ ∃ N : St → Hp → Prop, (∀ σ' H', N σ' H' → ∃ m', m' < m ∧ W (i + 1) m' σ' H') ∧
    ∀ x H', J.yld i H x H' → Eg X tg x σ H' fun σ2 H2 => Run X body { D with nx := N, ct := N, bk := after } σ2 H2)
theorem run_for {tg iter : Expr} {wi : TI} (hi : PI X tg iter wi) (h : wi σ H fun J H1 => Loop X tg body J D (fun σ' H' => Run X rest D σ' H') σ H1) (hp : PassesOwn (model X.prog X.w) X.A X.env X.xe := by exact PassesOwn.never) (hc : X.calm = true := by rfl)
    (hs : ∀ x, foldedSetIterable iter X.env x = pure x := by intro _; rfl) : Run X (.For tg iter body [] pos :: rest) D σ H := run_cons (ps_for hp hc hi pg_eg pss_run hs) h
theorem run_forR1 {tg : Expr} {q : Pos} (hm : X.mg "range" = none) (h : Ev X a σ H fun x H1 => ∃ j : Int, x = .int j ∧ -(2 ^ 62) ≤ j ∧ j < 2 ^ 62 ∧ Loop X tg body (Itr 0 j.toNat) D (fun σ' H' => Run X rest D σ' H') σ H1) (hg : Gl X "range" := by rfl) (hp : PassesOwn (model X.prog X.w) X.A X.env X.xe := by exact PassesOwn.never) (hc : X.calm = true := by rfl) (hs : isStar a = false := by rfl) :
    Run X (.For tg (.Call (.Name "range" q) [a] [] p) body [] pos :: rest) D σ H :=
  run_for (wi := iRng1 (tEa X [a])) (pi_range1 hg hm pa_ea (star_one a [] _ hs)) (show Ea X [a] σ H _ from ea_cons (h.mono fun x H1 ⟨j, e, h1, h2, h3⟩ => ea_nil ⟨j, by rw [e], h1, h2, h3⟩) hs) hp hc (by intro _; rfl)
theorem run_forL {tg iter : Expr} (h : Ev X iter σ H fun x H1 => ∃ a, x = .ref a ∧ (∃ xs, SqL X.K H1 a xs) ∧ Loop X tg body (Itl X.K a) D (fun σ' H' => Run X rest D σ' H') σ H1) (hp : PassesOwn (model X.prog X.w) X.A X.env X.xe := by exact PassesOwn.never) (hc : X.calm = true := by rfl)
    (hs : ∀ x, foldedSetIterable iter X.env x = pure x := by intro _; rfl) : Run X (.For tg iter body [] pos :: rest) D σ H := run_for (pi_list pe_ev) h hp hc hs
theorem run_forS {tg iter : Expr} (h : Ev X iter σ H fun x H1 => ∃ z, x = .str z ∧ Loop X tg body (Its z) D (fun σ' H' => Run X rest D σ' H') σ H1) (hp : PassesOwn (model X.prog X.w) X.A X.env X.xe := by exact PassesOwn.never) (hc : X.calm = true := by rfl)
    (hs : ∀ x, foldedSetIterable iter X.env x = pure x := by intro _; rfl) : Run X (.For tg iter body [] pos :: rest) D σ H := run_for (pi_str pe_ev) h hp hc hs
theorem loop_range {tg : Expr} {lo : Int} {n : Nat} {after : St → Hp → Prop} (Pv : Nat → St → Hp → Prop) (h0 : Pv 0 σ H)
    (hs : ∀ i σ H, i < n → Pv i σ H → Eg X tg (.int (lo + i)) σ H fun σ2 H2 => Run X body { D with nx := Pv (i + 1), ct := Pv (i + 1), bk := after } σ2 H2) (hd : ∀ σ H, Pv n σ H → after σ H) : Loop X tg body (Itr lo n) D after σ H := by
  refine ⟨fun i m σ H => m = n - i ∧ i ≤ n ∧ Pv i σ H, ⟨n, by simp, Nat.zero_le _, h0⟩, ?_⟩
  rintro i m σ H ⟨rfl, hi, p⟩
  by_cases hlt : i < n
  · refine .inr ⟨hlt, Pv (i + 1), fun σ' H' p' => ⟨n - (i + 1), by omega, rfl, hlt, p'⟩, fun x H' y => ?_⟩
    obtain ⟨e, y⟩ := y
    subst e y
    exact hs i σ _ hlt p
  · have e : i = n := by omega
    subst e
    exact .inl ⟨Nat.le_refl _, hd σ H p⟩
theorem loop_tup {tg : Expr} {at_ : Addr} {xs : List V} {after : St → Hp → Prop} (Pv : Nat → St → Hp → Prop) (h0 : Pv 0 σ H) (hl : ∀ i σ H, i ≤ xs.length → Pv i σ H → SqT X.K H at_ xs)
    (hs : ∀ i x σ H, xs[i]? = some x → Pv i σ H → Eg X tg x σ H fun σ2 H2 => Run X body { D with nx := Pv (i + 1), ct := Pv (i + 1), bk := after } σ2 H2) (hd : ∀ σ H, Pv xs.length σ H → after σ H) : Loop X tg body (Itt X.K at_) D after σ H := by
  refine ⟨fun i m σ H => m = xs.length - i ∧ i ≤ xs.length ∧ Pv i σ H, ⟨xs.length, by simp, Nat.zero_le _, h0⟩, ?_⟩
  rintro i m σ H ⟨rfl, hi, p⟩
  have q := hl i σ H hi p
  by_cases hlt : i < xs.length
  · refine .inr ⟨⟨xs, xs[i], q, by simp [hlt]⟩, Pv (i + 1), fun σ' H' p' => ⟨xs.length - (i + 1), by omega, rfl, hlt, p'⟩, fun x H' y => ?_⟩
    obtain ⟨e, y⟩ := y
    subst e
    exact hs i x σ _ (y xs q) p
  · have e : i = xs.length := by omega
    subst e
    exact .inl ⟨⟨xs, q, Nat.le_refl _⟩, hd σ H p⟩
theorem loop_list {tg : Expr} {at_ : Addr} {xs : List V} {after : St → Hp → Prop} (Pv : Nat → St → Hp → Prop) (h0 : Pv 0 σ H) (hl : ∀ i σ H, i ≤ xs.length → Pv i σ H → SqL X.K H at_ xs)
    (hs : ∀ i x σ H, xs[i]? = some x → Pv i σ H → Eg X tg x σ H fun σ2 H2 => Run X body { D with nx := Pv (i + 1), ct := Pv (i + 1), bk := after } σ2 H2) (hd : ∀ σ H, Pv xs.length σ H → after σ H) : Loop X tg body (Itl X.K at_) D after σ H := by
  refine ⟨fun i m σ H => m = xs.length - i ∧ i ≤ xs.length ∧ Pv i σ H, ⟨xs.length, by simp, Nat.zero_le _, h0⟩, ?_⟩
  rintro i m σ H ⟨rfl, hi, p⟩
  have q := hl i σ H hi p
  by_cases hlt : i < xs.length
  · refine .inr ⟨⟨xs, xs[i], q, by simp [hlt]⟩, Pv (i + 1), fun σ' H' p' => ⟨xs.length - (i + 1), by omega, rfl, hlt, p'⟩, fun x H' y => ?_⟩
    obtain ⟨e, y⟩ := y
    subst e
    exact hs i x σ _ (y xs q) p
  · have e : i = xs.length := by omega
    subst e
    exact .inl ⟨⟨xs, q, Nat.le_refl _⟩, hd σ H p⟩
theorem loop_str {tg : Expr} {z : Str} {after : St → Hp → Prop} (Pv : Nat → St → Hp → Prop) (h0 : Pv 0 σ H)
    (hs : ∀ i c σ H, z.cps[i]? = some c → Pv i σ H → Eg X tg (.str ⟨#[c]⟩) σ H fun σ2 H2 => Run X body { D with nx := Pv (i + 1), ct := Pv (i + 1), bk := after } σ2 H2) (hd : ∀ σ H, Pv z.cps.size σ H → after σ H) : Loop X tg body (Its z) D after σ H := by
  refine ⟨fun i m σ H => m = z.cps.size - i ∧ i ≤ z.cps.size ∧ Pv i σ H, ⟨z.cps.size, by simp, Nat.zero_le _, h0⟩, ?_⟩
  rintro i m σ H ⟨rfl, hi, p⟩
  by_cases hlt : i < z.cps.size
  · refine .inr ⟨hlt, Pv (i + 1), fun σ' H' p' => ⟨z.cps.size - (i + 1), by omega, rfl, hlt, p'⟩, fun x H' y => ?_⟩
    obtain ⟨e, c, hc, y⟩ := y
    subst e y
    exact hs i c σ _ hc p
  · have e : i = z.cps.size := by omega
    subst e
    exact .inl ⟨Nat.le_refl _, hd σ H p⟩
theorem Fun.go {P : Program} {w : World} {K : PySem.W.Frag} {mg : Str → Option Value} {base : Heap} {x qual : Str} {st : Stmt} {f : Addr} {fd : FuncData} {N ps : List Str} {k : Nat} {sp : Sp} (F : Fun K x qual st f fd) (S : FnScope N ps (defScope st)) (len : ∀ vs H Q E, sp vs H Q E → vs.length = ps.length)
    (hbody : ∀ (cdv : Value) (A : Around) (outer : List Env) (s : Shared) (H : Hp) (vs : List V) (Q : VK) (E : XK), Room k (A.deeper (envOfC qual (defScope st) s.heap.objs.size f cdv)) → sp vs H Q E →
      Run (cxOf CX0 P w K mg base N qual (defScope st) f cdv A outer s H E).nox (defBody st) { nx := fun _ H' => Q .non H', rt := Q } (start N vs) H) : FnOk P w K mg base CX0 (k + 1) f fd ps sp :=
  F.ok S len fun cdv A outer s H vs Q E hr hsp => ⟨_, pss_run, hbody cdv A outer s H vs Q E hr hsp⟩
end
end L2
namespace L2
open PySem PySem.Spec PyProof.Rows
structure Ei (X : Cx) (ifs : List Expr) (σ : St) (H : Hp) (Q : Bool → Hp → Prop) : Prop where
  run : ∀ (pins : List (Addr × Obj)) (s : Shared), Inv X pins σ H s →
    wpAny (model X.prog X.w) X.A (forIn ifs true fun c r => if r = true then do let ok ← isTrue c X.env (eval c X.env); pure (ForInStep.yield ok) else pure (ForInStep.yield r)) (TP X pins σ Q) X.xe s
noncomputable def CEv (X : Cx) (N' : List Str) (scope : Scope) (e : Expr) (σ : St) (H : Hp) (Q : VK) : Prop := ∀ cl C s₀ H₀ ex, Ev (cxComp X N' scope cl C s₀ H₀ ex) e σ H Q
noncomputable def CEg (X : Cx) (N' : List Str) (scope : Scope) (e : Expr) (v : V) (σ : St) (H : Hp) (Q : St → Hp → Prop) : Prop := ∀ cl C s₀ H₀ ex, Eg (cxComp X N' scope cl C s₀ H₀ ex) e v σ H Q
noncomputable def CEi (X : Cx) (N' : List Str) (scope : Scope) (ifs : List Expr) (σ : St) (H : Hp) (Q : Bool → Hp → Prop) : Prop := ∀ cl C s₀ H₀ ex, Ei (cxComp X N' scope cl C s₀ H₀ ex) ifs σ H Q
noncomputable def CompL (X : Cx) (N' : List Str) (scope : Scope) (tg : Expr) (ifs : List Expr) (elt : Expr) (J : It) (D : Addr) (after : Hp → Prop) (σ : St) (H : Hp) : Prop :=
  ∃ W : Nat → Nat → St → Hp → Prop, (∃ m, W 0 m σ H) ∧ ∀ i m σ' H', W i m σ' H' →
    (J.stop i H' ∧ after H') ∨ (J.go i H' ∧ ∃ N : St → Hp → Prop, (∀ σ' H', N σ' H' → ∃ m', m' < m ∧ W (i + 1) m' σ' H') ∧ ∀ x H2, J.yld i H' x H2 → CEg X N' scope tg x σ' H2 fun σ2 H3 => CEi X N' scope ifs σ2 H3 fun b H4 =>
      if b = true then CEv X N' scope elt σ2 H4 fun v H5 => ∃ ys, H5 D = some (.lst ys) ∧ ys.length < sizeLine ∧ N σ2 (upd H5 D (.lst (ys ++ [v]))) else N σ2 H4)
theorem cells_app : ∀ (names : List (Str × NameKind)) (n : Nat) (acc : List (Str × Addr)), cellsFrom n names acc = cellsFrom n names [] ++ acc
  | [], _, _ => rfl
  | (y, k) :: r, n, acc => by
    unfold cellsFrom
    split
    · rw [cells_app r (n + 1) ((y, n) :: acc), cells_app r (n + 1) [(y, n)], List.append_assoc]
      rfl
    · exact cells_app r n acc
theorem mem_cells : ∀ (names : List (Str × NameKind)) (n : Nat) {x : Str} {c : Addr}, (x, c) ∈ cellsFrom n names [] → (x, NameKind.cell) ∈ names ∧ n ≤ c
  | [], _, _, _, h => by cases h
  | (y, k) :: r, n, x, c, h => by
    unfold cellsFrom at h
    split at h
    · rename_i hk
      rw [cells_app, List.mem_append] at h
      rcases h with h | h
      · obtain ⟨a, b⟩ := mem_cells r (n + 1) h
        exact ⟨List.mem_cons_of_mem _ a, by omega⟩
      · cases List.mem_singleton.mp h
        have : k = .cell := by cases k <;> first | rfl | exact absurd hk (by decide)
        subst this
        exact ⟨List.mem_cons_self, Nat.le_refl _⟩
    · obtain ⟨a, b⟩ := mem_cells r n h
      exact ⟨List.mem_cons_of_mem _ a, b⟩
theorem cells_split {names : List (Str × NameKind)} {n : Nat} {cl : List (Str × Addr)} {x : Str} {c : Addr} (h : (cellsFrom n names cl).lookup x = some c) : ((x, c) ∈ cellsFrom n names [] ∧ n ≤ c) ∨ cl.lookup x = some c := by
  rw [cells_app, List.lookup_append] at h
  cases e : (cellsFrom n names []).lookup x with
  | some d =>
    rw [e] at h
    cases h
    have hm := PySem.mem_of_lookup e
    exact .inl ⟨hm, (mem_cells _ _ hm).2⟩
  | none =>
    rw [e] at h
    exact .inr h
theorem cells_old {names : List (Str × NameKind)} {n : Nat} {cl : List (Str × Addr)} {x : Str} (h : (x, NameKind.cell) ∉ names) : (cellsFrom n names cl).lookup x = cl.lookup x := by
  rw [cells_app, List.lookup_append]
  cases e : (cellsFrom n names []).lookup x with
  | some d => exact absurd (mem_cells _ _ (PySem.mem_of_lookup e)).1 h
  | none => rfl
section
variable {M : Model} {A : Around} {E : Value → Shared → Prop} {s : Shared}
theorem newEnv_cells {scope : Scope} {globals : Addr} {closure : List (Str × Addr)} {qual : Str} {func : Option Addr} {code : Value} {outer : Env} {builtins : Addr} {Q : Env → Shared → Prop}
    (hQ : ∀ h', h'.Ns s.heap.objs.size (fun _ => none) → (∀ b o, s.heap.get? b = some o → h'.get? b = some o) → CellsOk h' (s.heap.objs.size + 1) (cellsFrom (s.heap.objs.size + 1) scope.names []) →
      Q (newEnv scope s.heap.objs.size globals (cellsFrom (s.heap.objs.size + 1) scope.names closure) qual func code (some outer) builtins) { s with heap := h' }) :
    wpAny M A (newFunctionEnv scope globals closure [] qual func code (some outer) builtins) Q E s := by
  simp only [newFunctionEnv, Option.isSome_some, if_true]
  refine wpAny_bind (wpAny_alloc ?_)
  refine wpAny_bind (wpAny_layCells _ (fun name kind cells => by cases hkc : kind == NameKind.cell <;> simp [hkc]) _ _ _ _ ?_)
  have ok := cellsFrom_ok scope.names (s.heap.push { cls := .type "dict", data := .dict #[] }) (s.heap.objs.size + 1) [] ⟨fun _ _ hm => (nomatch hm), List.Pairwise.nil⟩ (by rw [Heap.size_push]; exact Nat.le_refl _)
  rw [Heap.size_push] at ok
  rw [show ({ s with heap := s.heap.push { cls := .type "dict", data := .dict #[] } } : Shared).heap.objs.size = s.heap.objs.size + 1 from Heap.size_push ..]
  rw [List.forIn_nil]
  exact wpAny_bind (wpAny_pure (wpAny_pure (hQ _ ((Heap.Ns.new s.heap (.type "dict")).keeps (pushCells_keeps _ _)) (fun b o e => pushCells_keeps _ _ b o (Heap.get?_push_of_some _ e)) ok)))
end
noncomputable def compOk (sc scope : Scope) (N N' : List Str) : Bool :=
  (match scope.kind with | .function => true | _ => false) &&
  scope.names.all (fun y => match y.2 with
    | .cell => (match scope.names.lookup y.1 with | some .cell => true | _ => false)
    | .local => (match scope.names.lookup y.1 with | some .local => true | _ => false)
    | .free => (match sc.names.lookup y.1 with | some .cell => true | some .free => true | _ => false) && (match scope.names.lookup y.1 with | some .free => true | _ => false)
    | _ => true) &&
  (List.range N'.length).all fun i => match N'[i]? with
    | none => true
    | some x => match scope.names.lookup x with
      | some .local => decide (N.length ≤ i)
      | some .cell => decide (N.length ≤ i)
      | some .free => decide (N[i]? = some x)
      | _ => true
structure CompOk (sc scope : Scope) (N N' : List Str) : Prop where
  kind : scope.kind = .function
  cell : ∀ y ∈ scope.names, y.2 = .cell → scope.names.lookup y.1 = some .cell
  names : ∀ y ∈ scope.names, y.2 = .local → scope.names.lookup y.1 = some .local
  free : ∀ y ∈ scope.names, y.2 = .free → sc.names.lookup y.1 = some .cell ∨ sc.names.lookup y.1 = some .free
  freeL : ∀ y ∈ scope.names, y.2 = .free → scope.names.lookup y.1 = some .free
  own : ∀ (i : Nat) x, N'[i]? = some x → scope.names.lookup x = some .local → N.length ≤ i
  ownC : ∀ (i : Nat) x, N'[i]? = some x → scope.names.lookup x = some .cell → N.length ≤ i
  out : ∀ (i : Nat) x, N'[i]? = some x → scope.names.lookup x = some .free → N[i]? = some x
theorem CompOk.of {sc scope : Scope} {N N' : List Str} (h : compOk sc scope N N' = true) : CompOk sc scope N N' := by
  unfold compOk at h
  rw [Bool.and_eq_true, Bool.and_eq_true] at h
  obtain ⟨⟨h1, h2⟩, h3⟩ := h
  have h2' := List.all_eq_true.mp h2
  have h3' := List.all_eq_true.mp h3
  refine ⟨?_, fun y hy e => ?_, fun y hy e => ?_, fun y hy e => ?_, fun y hy e => ?_, fun i x hi e => ?_, fun i x hi e => ?_, fun i x hi e => ?_⟩
  · revert h1; cases scope.kind <;> intro h1 <;> first | rfl | cases h1
  · have q := h2' y hy
    rw [e] at q
    simp only at q
    split at q
    · assumption
    · cases q
  · have q := h2' y hy
    rw [e] at q
    simp only at q
    split at q
    · assumption
    · cases q
  · have q := h2' y hy
    rw [e] at q
    simp only at q
    rw [Bool.and_eq_true] at q
    have q := q.1
    split at q
    · exact .inl (by assumption)
    · exact .inr (by assumption)
    · cases q
  · have q := h2' y hy
    rw [e] at q
    simp only at q
    rw [Bool.and_eq_true] at q
    have q := q.2
    split at q
    · assumption
    · cases q
  · have q := h3' i (List.mem_range.mpr (List.getElem?_eq_some_iff.mp hi).1)
    rw [hi] at q
    simp only [e] at q
    exact of_decide_eq_true q
  · have q := h3' i (List.mem_range.mpr (List.getElem?_eq_some_iff.mp hi).1)
    rw [hi] at q
    simp only [e] at q
    exact of_decide_eq_true q
  · have q := h3' i (List.mem_range.mpr (List.getElem?_eq_some_iff.mp hi).1)
    rw [hi] at q
    simp only [e] at q
    exact of_decide_eq_true q
section
variable {X : Cx} {pins : List (Addr × Obj)} {σ : St} {H : Hp} {s : Shared}
theorem inv_comp {N' : List Str} {scope : Scope} {n : Nat} {fp : List Addr} {h₁ : Heap} {t' : Nat} {m : Str → Option Value} (I : Inv X pins σ H s) (ck : CompOk X.env.scope scope X.N N') (hl : N'.length = X.N.length + n)
    (hns : h₁.Ns s.heap.objs.size m) (old : ∀ b o, s.heap.get? b = some o → h₁.get? b = some o) (hcs : CellsOk h₁ (s.heap.objs.size + 1) (cellsFrom (s.heap.objs.size + 1) scope.names []))
    (hfp : ∀ b ∈ fp, FpOk X pins H b ∧ b < s.heap.objs.size) :
    Inv (cxComp X N' scope (cellsFrom (s.heap.objs.size + 1) scope.names (closeL scope.names X.env.cells [])) s.heap.objs.size s H fp) [] (σ ++ List.replicate n none) H { s with heap := h₁, toks := t' } := by
  have sub : ∀ x c, (closeL scope.names X.env.cells []).lookup x = some c → X.env.cells.lookup x = some c := fun x c e => closeL_sub _ _ _ (fun _ _ z => by simp at z) x c (PySem.mem_of_lookup e)
  have both : ∀ x c, (cellsFrom (s.heap.objs.size + 1) scope.names (closeL scope.names X.env.cells [])).lookup x = some c → ((x, c) ∈ cellsFrom (s.heap.objs.size + 1) scope.names [] ∧ s.heap.objs.size + 1 ≤ c) ∨ X.env.cells.lookup x = some c := fun x c e => by
    rcases cells_split e with z | z
    · exact .inl z
    · exact .inr (sub x c z)
  have oldlt : ∀ x c, X.env.cells.lookup x = some c → c < s.heap.objs.size := fun x c e => by
    obtain ⟨v, o, ho, _⟩ := I.cell x c e
    exact Heap.lt_size ho
  have fre : H s.heap.objs.size = none := I.hok.fresh (Nat.le_refl _)
  have kindOf : ∀ {x : Str} {k' : NameKind}, (relabel scope X.env).names.lookup x = some k' → ∃ k, scope.names.lookup x = some k ∧ (k' = k ∨ (k = .free ∧ k' = .cell)) := fun z => lookup_relabel_vis z
  have frl : ∀ x, scope.names.lookup x = some .free → (cellsFrom (s.heap.objs.size + 1) scope.names (closeL scope.names X.env.cells [])).lookup x = (closeL scope.names X.env.cells []).lookup x := fun x e => cells_old fun hm => by
    have := ck.cell _ hm rfl
    rw [e] at this
    cases this
  have hasC : ∀ x, scope.names.lookup x = some .cell → ∃ c, (cellsFrom (s.heap.objs.size + 1) scope.names (closeL scope.names X.env.cells [])).lookup x = some c := fun x e => Option.isSome_iff_exists.mp (PySem.W.cellsFrom_some _ _ _ (.inl e))
  have ok' : (cxComp X N' scope (cellsFrom (s.heap.objs.size + 1) scope.names (closeL scope.names X.env.cells [])) s.heap.objs.size s H fp).Ok := by
    refine ⟨I.ok.mod, ck.kind, I.ok.glob, I.ok.blt, Nat.le_refl _, fun x y c e1 e2 => ?_, fun x hx => ?_, fun x c hf e => ?_, I.ok.hd, I.ok.frames, .inl rfl, fun b hb => ⟨Nat.ne_of_lt (hfp b hb).2, fun x c e => ?_⟩,
      I.bs, Nat.le_trans I.ok.bsz I.sz, fun b o e hb => ?_, fun b hb hf => ?_, I.stack, I.stkFree⟩
    · rcases both x c e1 with z1 | z1
      · rcases both y c e2 with z2 | z2
        · exact name_of_addr hcs.apart z1.1 z2.1
        · exact absurd (oldlt y c z2) (Nat.not_lt.mpr (Nat.le_of_succ_le z1.2))
      · rcases both y c e2 with z2 | z2
        · exact absurd (oldlt x c z1) (Nat.not_lt.mpr (Nat.le_of_succ_le z2.2))
        · exact I.ok.inj x y c z1 z2
    · have hx' : (relabel scope X.env).names.lookup x = some .cell ∨ (relabel scope X.env).names.lookup x = some .free := hx
      have : ∃ k, scope.names.lookup x = some k ∧ (k = .free ∨ k = .cell) := by
        rcases hx' with z | z
        · obtain ⟨k, e, r⟩ := kindOf z
          rcases r with r | ⟨r, _⟩
          · exact ⟨k, e, .inr r.symm⟩
          · exact ⟨k, e, .inl r⟩
        · obtain ⟨k, e, r⟩ := kindOf z
          rcases r with r | ⟨r, _⟩
          · exact ⟨k, e, .inl r.symm⟩
          · exact ⟨k, e, .inl r⟩
      obtain ⟨k, e, rfl | rfl⟩ := this
      · have hm := PySem.mem_of_lookup e
        obtain ⟨c, hc⟩ := I.ok.has x (ck.free _ hm rfl)
        obtain ⟨d, hd⟩ := lookup_of_mem_some (closeL_has scope.names X.env.cells [] x c hm hc)
        exact ⟨d, (frl x e).trans hd⟩
      · exact hasC x e
    · have hx : scope.names.lookup x = some .cell := by
        have hf' : (match scope.names.lookup x with | some .cell => true | _ => false) = true := hf
        split at hf'
        · assumption
        · cases hf'
      have e' : (cellsFrom (s.heap.objs.size + 1) scope.names (closeL scope.names X.env.cells [])).lookup x = some c := e
      have q1 := Option.isSome_iff_exists.mp (PySem.W.cellsFrom_some scope.names (s.heap.objs.size + 1) [] (.inl hx))
      obtain ⟨d, hd⟩ := q1
      rw [cells_app, List.lookup_append, hd] at e'
      have e2 : d = c := Option.some.inj e'
      have := (mem_cells _ _ (PySem.mem_of_lookup hd)).2
      rw [← e2]
      exact Nat.le_of_succ_le this
    · have e' : (cellsFrom (s.heap.objs.size + 1) scope.names (closeL scope.names X.env.cells [])).lookup x = some c := e
      rcases both x c e' with z | z
      · have h1 := (hfp b hb).2
        have h2 := z.2
        exact fun k => absurd h1 (Nat.not_lt.mpr (by rw [← k]; exact Nat.le_of_succ_le h2))
      · exact (hfp b hb).1.2.2.2.2.1 x c z
    · have := (hfp b hb).1.2.2.2.1
      rcases this with z | z
      · exact I.ok.noex b o e z
      · exact absurd (Nat.lt_of_lt_of_le (Heap.lt_size e) (Nat.le_trans I.ok.bsz z)) (Nat.lt_irrefl _)
    · rcases List.mem_cons.mp (I.stkSub b hf) with z | z
      · exact (hfp b hb).1.2.1 z
      · exact (hfp b hb).1.2.2.1 z
  refine ⟨ok', rfl, I.bare, Un.kept old, ⟨m, hns, fun i x v e1 e2 e3 => ?_⟩, fun x c e => ?_, fre, fun x c e => ?_, fun p hp => absurd hp (by simp [cxComp]), I.hok.kept old, ?_⟩
  · have hi : i < σ.length := by
      by_cases hi : i < σ.length
      · exact hi
      · rw [List.getElem?_append_right (by omega), List.getElem?_replicate] at e2
        split at e2 <;> cases e2
    rw [List.getElem?_append_left hi] at e2
    have e1' : N'[i]? = some x := e1
    have vis : ∃ k', (relabel scope X.env).names.lookup x = some k' ∧ (k' = .local ∨ k' = .cell ∨ k' = .free) := by
      rcases e3 with z | z | z
      · exact ⟨_, z, .inl rfl⟩
      · exact ⟨_, z, .inr (.inl rfl)⟩
      · exact ⟨_, z, .inr (.inr rfl)⟩
    obtain ⟨k', ek', hk'⟩ := vis
    obtain ⟨k, ek, r⟩ := kindOf ek'
    have kf : k = .free := by
      rcases r with r | ⟨r, _⟩
      · subst r
        rcases hk' with z | z | z
        · subst z
          have := ck.own i x e1' ek
          rw [I.len] at hi
          omega
        · subst z
          have := ck.ownC i x e1' ek
          rw [I.len] at hi
          omega
        · exact z
      · exact r
    subst kf
    have hm := PySem.mem_of_lookup ek
    have hxN := ck.out i x e1' ek
    obtain ⟨m0, hn0, hl0⟩ := I.loc
    have kx := ck.free _ hm rfl
    obtain ⟨u, ru, lk⟩ := hl0 i x v hxN e2 (by rcases kx with z | z; exact .inr (.inl z); exact .inr (.inr z))
    refine ⟨u, ru, .inr ⟨?_, ?_⟩⟩
    · rcases r with r | ⟨_, r⟩
      · subst r
        exact .inr ek'
      · subst r
        exact .inl ek'
    · rcases lk with ⟨k1, _⟩ | ⟨_, c, hc, hcell⟩
      · have k1' : X.env.scope.names.lookup x = some .local := k1
        rcases kx with z | z
        · rw [k1'] at z; cases z
        · rw [k1'] at z; cases z
      · have hin := closeL_has scope.names X.env.cells [] x c hm hc
        obtain ⟨d, hd⟩ := lookup_of_mem_some hin
        have : d = c := Option.some.inj ((sub x d hd).symm.trans hc)
        subst this
        obtain ⟨o, ho, hdat⟩ := hcell
        exact ⟨d, (frl x ek).trans hd, o, old _ _ ho, hdat⟩
  · have e' : (cellsFrom (s.heap.objs.size + 1) scope.names (closeL scope.names X.env.cells [])).lookup x = some c := e
    rcases both x c e' with z | z
    · exact ⟨none, (hcs.empty x c z.1).1⟩
    · obtain ⟨v, o, ho, hdat⟩ := I.cell x c z
      exact ⟨v, o, old _ _ ho, hdat⟩
  · have e' : (cellsFrom (s.heap.objs.size + 1) scope.names (closeL scope.names X.env.cells [])).lookup x = some c := e
    rcases both x c e' with z | z
    · exact I.hok.fresh (Nat.le_of_succ_le z.2)
    · exact I.freeC x c z
  · rw [List.length_append, List.length_replicate, I.len]
    exact hl.symm
end
structure Clause (e : Expr) (d : Nat) (tg iter : Expr) (ifs : List Expr) (acc : Value) (env : Env) (inner : Sem Unit) : Prop where
  at' : (clausesOf e)[d]? = some ⟨tg, iter, ifs, 0⟩
  quiet : ∀ it, (Code.compLoop e d it acc env).quiet = true
  den : ∀ (prog : Program) (w : World) it, (model prog w).den (.compLoop e d it acc env) = (compTurn e d it acc env).onRaise (fun x => do noteFrame x env; theTreesLotGoes x)
  und : ∀ (A : Around) it, A.under (.compLoop e d it acc env) = A
  denS : ∀ (prog : Program) (w : World) it, (model prog w).den (.compStart e d it acc env) = (compStart e d it acc env).onRaise (fun x => do noteFrame x env; standAt theWindowsPlace)
  undS : ∀ (A : Around) it, A.under (.compStart e d it acc env) = A
  turn : ∀ it, compTurn e d it acc env = (do
      standAt iter.pos
      match ← pyNext it with
      | none => pure (.done .next)
      | some v =>
        letOwnedTupleGo tg it v
        assign tg env v
        let mut ok := true
        for c in ifs do
          if ok then ok ← isTrue c env (eval c env)
        if ok then
          inner
        again (.compLoop e d it acc env))
section
variable {prog : Program} {w : World} {A : Around} {R : Result → Shared → Prop} {s : Shared}
theorem codeAny_compLoop_any {e : Expr} {d : Nat} {tg iter : Expr} {ifs : List Expr} {it acc : Value} {env : Env} {inner : Sem Unit} (C : Clause e d tg iter ifs acc env inner) (I : Nat → Shared → Prop)
    (turn : ∀ n s, I n s → wpAny (model prog w) A (pyNext it) (fun r s₁ => match r with
      | none => R (.ok .next) s₁
      | some v => wpAny (model prog w) A (letOwnedTupleGo tg it v) (fun _ s₁' => wpAny (model prog w) A (assign tg env v) (fun _ s₂ =>
          wpAny (model prog w) A (forIn ifs true fun c r => if r = true then do let ok ← isTrue c env (eval c env); pure (ForInStep.yield ok) else pure (ForInStep.yield r)) (fun ok s₃ =>
            if ok = true then wpAny (model prog w) A inner (fun _ s₄ => ∃ m, m < n ∧ I m s₄) (notedBy (model prog w) A env fun e s' => R (.error e) s') s₃
            else ∃ m, m < n ∧ I m s₃) (notedBy (model prog w) A env fun e s' => R (.error e) s') s₂) (notedBy (model prog w) A env fun e s' => R (.error e) s') s₁') (notedBy (model prog w) A env fun e s' => R (.error e) s') s₁) (notedBy (model prog w) A env fun e s' => R (.error e) s') s)
    (n : Nat) (h : I n s) :
    codeAny (model prog w) A (.compLoop e d it acc env) R s := by
  refine codeAny_loop (C.quiet it) I (fun n s hI => ?_) n h
  rw [C.und, C.den]
  refine wpAny_noted ?_
  rw [C.turn]
  refine wpAny_bind (wpAny_standAt (wpAny_bind (wpAny_mono (turn n s hI) (fun r s₁ h₁ => ?_) fun _ _ h' => h')))
  cases r with
  | none => exact wpAny_pure h₁
  | some v =>
    refine wpAny_bind (wpAny_mono h₁ (fun _ s₁' h₁' => ?_) fun _ _ h' => h')
    refine wpAny_bind (wpAny_mono h₁' (fun _ s₂ h₂ => wpAny_bind (wpAny_mono h₂ (fun ok s₃ h₃ => ?_) fun _ _ h' => h')) fun _ _ h' => h')
    cases ok with
    | false => exact wpAny_pure ⟨rfl, h₃⟩
    | true => exact wpAny_bind (wpAny_mono h₃ (fun _ s₄ h₄ => wpAny_pure ⟨rfl, h₄⟩) fun _ _ h' => h')
theorem codeAny_compStart_any {e : Expr} {d : Nat} {tg iter : Expr} {ifs : List Expr} {it acc : Value} {env : Env} {inner : Sem Unit} (C : Clause e d tg iter ifs acc env inner)
    (h0 : codeAny (model prog w) A (.compLoop e d it acc env) R s)
    (h : wpAny (model prog w) A (pyIter it) (fun it' s' => codeAny (model prog w) A (.compLoop e d it' acc env) R s') (notedBy (model prog w) A env fun x s' => R (.error x) s') s) :
    codeAny (model prog w) A (.compStart e d it acc env) R s := by
  refine codeAny_of_tree ?_
  rw [C.undS, C.denS]
  refine wpAny_notedAt ?_
  unfold compStart
  rw [C.at']
  show wpAny _ _ (ask >>= _) _ _ s
  refine wpAny_bind (wpAny_askSetting (wpAny_ite ?_))
  split
  · first
      | exact wpAny_bind (wpAny_pure (wpAny_pure (And.intro (C.quiet _) h0)))
      | exact wpAny_pure (And.intro (C.quiet _) h0)
  · first
      | exact wpAny_bind (wpAny_rule (wpAny_bind (wpAny_standAt (wpAny_bind (wpAny_mono h (fun it' s' h' => wpAny_pure (And.intro (C.quiet _) h')) fun _ _ x => x)))))
      | (refine wpAny_bind (wpAny_rule ?_); show wpAny _ _ (standAt iter.pos >>= _) _ _ s; exact wpAny_bind (wpAny_standAt (wpAny_bind (wpAny_mono h (fun it' s' h' => wpAny_pure (And.intro (C.quiet _) h')) fun _ _ x => x))))
end
structure Ein (X : Cx) (m : Sem Unit) (σ : St) (H : Hp) (Q : St → Hp → Prop) : Prop where
  run : ∀ (pins : List (Addr × Obj)) (s : Shared), Inv X pins σ H s → wpAny (model X.prog X.w) X.A m (fun _ s' => ∃ σ' H', Inv X pins σ' H' s' ∧ Q σ' H') X.xe s
noncomputable def ClauseL (X : Cx) (tg : Expr) (ifs : List Expr) (inner : Sem Unit) (J : It) (after : St → Hp → Prop) (σ : St) (H : Hp) : Prop :=
  ∃ W : Nat → Nat → St → Hp → Prop, (∃ m, W 0 m σ H) ∧ ∀ i m σ' H', W i m σ' H' →
    (J.stop i H' ∧ after σ' H') ∨ (J.go i H' ∧ ∃ N : St → Hp → Prop, (∀ σ' H', N σ' H' → ∃ m', m' < m ∧ W (i + 1) m' σ' H') ∧ ∀ x H2, J.yld i H' x H2 → Eg X tg x σ' H2 fun σ2 H3 => Ei X ifs σ2 H3 fun b H4 =>
      if b = true then Ein X inner σ2 H4 N else N σ2 H4)
theorem clause_loop {X : Cx} (hxe : X.xe = fun _ _ => False) (hc : X.calm = true) {e : Expr} {d : Nat} {tg iter : Expr} {ifs : List Expr} {acc : Value} {inner : Sem Unit} (C : Clause e d tg iter ifs acc X.env inner) {pins : List (Addr × Obj)} {σ : St} {H : Hp} {s : Shared}
    {it : Addr} {fp : List Addr} {tn : Nat → Heap → Prop} {J : It} {after : St → Hp → Prop} {R : Result → Shared → Prop} (I : Inv X pins σ H s) (T : Turn X.prog X.w X.K tg J fp it tn) (st : tn 0 s.heap) (hf : ∀ b ∈ fp, FpOk X pins H b) (h : ClauseL X tg ifs inner J after σ H)
    (hR : ∀ σ' H' s', Inv X pins σ' H' s' → after σ' H' → R (.ok .next) s') :
    codeAny (model X.prog X.w) X.A (.compStart e d (.ref it) acc X.env) R s := by
  obtain ⟨W, ⟨m0, w0⟩, turn⟩ := h
  have stat : ∀ {H' : Hp}, (∀ b ∈ fp, H' b = none) → ∀ b ∈ fp, FpOk X pins H' b := fun hn b hb => ⟨hn b hb, (hf b hb).2⟩
  have loop : codeAny (model X.prog X.w) X.A (.compLoop e d (.ref it) acc X.env) R s := by
    refine codeAny_compLoop_any C (fun k s' => ∃ i σ' H', Inv X pins σ' H' s' ∧ tn i s'.heap ∧ (∀ b ∈ fp, H' b = none) ∧ W i k σ' H') ?_ m0 ⟨0, σ, H, I, st, fun b hb => (hf b hb).1, w0⟩
    rintro k s4 ⟨i, σ4, H4, J4, st4, fr4, w4⟩
    rcases turn i k σ4 H4 w4 with ⟨stop, qn⟩ | ⟨go, N, hN, step⟩
    · have d1 := T.done X rfl rfl rfl hc i pins s4 σ4 H4 (fun _ _ => False) J4 (stat fr4) st4 stop
      refine thnF d1 fun r s5 ⟨hr, I5⟩ => ?_
      subst hr
      exact hR _ _ _ I5 qn
    · have d1 := T.item X rfl rfl rfl hc i pins s4 σ4 H4 (fun _ _ => False) J4 (stat fr4) st4 go
      refine thnF d1 fun r s5 ⟨u, hr, h5⟩ => ?_
      subst hr
      refine thnF h5 fun _ s6 ⟨x, H6, I6, r6, y6, st6, fr6⟩ => ?_
      have I6' := I6.pinned (stat fr6) (T.obj _ _ st6)
      have again : ∀ {σ7 : St} {H7 : Hp} {s7 : Shared}, Inv X (pins ++ pinsAt fp s6.heap) σ7 H7 s7 → N σ7 H7 → ∃ m, m < k ∧ ∃ i σ' H', Inv X pins σ' H' s7 ∧ tn i s7.heap ∧ (∀ b ∈ fp, H' b = none) ∧ W i m σ' H' := fun {σ7 H7 s7} I7 n7 => by
        obtain ⟨m', hm, w7⟩ := hN σ7 H7 n7
        refine ⟨m', hm, i + 1, σ7, H7, I7.unpinned, T.keep _ _ _ st6 fun b hb o e => (I7.pin (b, o) (List.mem_append_right _ (List.mem_append_right _ (mem_pinsAt hb e)))).1, fun b hb => ?_, w7⟩
        obtain ⟨o, e, d⟩ := T.obj _ _ st6 b hb
        exact (I7.pin (b, o) (List.mem_append_right _ (List.mem_append_right _ (mem_pinsAt hb e)))).2.1
      have a1 := (step x H6 y6).run _ s6 u I6' r6
      rw [hxe] at a1
      refine thnF a1 fun _ s7 ⟨σ7, H7, I7, q7⟩ => ?_
      have a2 := q7.run _ s7 I7
      rw [hxe] at a2
      refine thnF a2 fun ok s8 ⟨H8, I8, q8⟩ => ?_
      cases ok with
      | false =>
        rw [if_neg Bool.false_ne_true] at q8 ⊢
        exact again I8 q8
      | true =>
        rw [if_pos rfl] at q8 ⊢
        have a3 := q8.run _ s8 I8
        rw [hxe] at a3
        exact thnF a3 fun _ s9 ⟨σ9, H9, I9, q9⟩ => again I9 q9
  exact codeAny_compStart_any C loop (T.self _ 0 _ _ _ st loop)
theorem comp_core_any {X : Cx} {e : Expr} {tg iter : Expr} {ifs : List Expr} {scope : Scope} {N' : List Str} {newAcc : Sem Value} {o0 : Obj} {u0 : Addr → HO} {n : Nat} {inner : Value → Env → Sem Unit} {pins : List (Addr × Obj)} {σ : St} {H2 : Hp} {s2 : Shared} {E : Value → Shared → Prop} {RR : Value → Addr → Result → Shared → Prop} {it : Addr} {fp : List Addr} {tn : Nat → Heap → Prop} {J : It} {Q : VK}
    (hnew : ∀ (Q : Value → Shared → Prop) (E : Value → Shared → Prop) (s : Shared), Q (.ref s.heap.objs.size) { s with heap := s.heap.push o0 } → wpAny (model X.prog X.w) X.A newAcc Q E s) (hobj : ∀ (H : Hp) (h : Heap), sysModules < h.objs.size → ObjOk X.prog X.w H (h.push o0) h.objs.size (u0 h.objs.size))
    (hc : X.calm = true) (ck : CompOk X.env.scope scope X.N N') (hl : N'.length = X.N.length + n) (hC : ∀ acc env, Clause e 0 tg iter ifs acc env (inner acc env))
    (I2 : Inv X pins σ H2 s2) (T : Turn X.prog X.w X.K tg J fp it tn) (st2 : tn 0 s2.heap) (f2 : ∀ b ∈ fp, FpOk X pins H2 b)
    (q : ∀ D, H2 D = none → ∀ cl C s₀ H₀ ex, ClauseL (cxComp X N' scope cl C s₀ H₀ ex) tg ifs (inner (.ref D) (compEnvC scope cl C X.env)) J (fun _ H' => Q (.ref D) H') (σ ++ List.replicate n none) (upd H2 D (u0 D)))
    (hRR : ∀ D C H' s' m, Inv X pins σ H' s' → s'.heap.Ns C m → H' C = none → C ≠ X.env.locals → X.s₀.heap.objs.size ≤ C → (∀ x c, X.env.cells.lookup x = some c → c ≠ C) → (∀ p ∈ X.pn ++ pins, p.1 ≠ C) → Q (.ref D) H' → RR (.ref D) C (.ok .next) s') :
    wpAny (model X.prog X.w) X.A newAcc (fun acc s₃ => wpAny (model X.prog X.w) X.A (newFunctionEnv scope X.env.globals (closeL scope.names X.env.cells []) [] X.env.qual none .none (some X.env)) (fun cenv s₄ =>
      codeAny (model X.prog X.w) X.A (.compStart e 0 (.ref it) acc { cenv with scope := relabel scope X.env }) (RR acc cenv.locals) s₄) E s₃) E s2 := by
  refine hnew _ _ _ (newEnv_cells (fun h₁ hns₁ old₁ hcs₁ => ?_))
  have hD : H2 s2.heap.objs.size = none := I2.hok.fresh (Nat.le_refl _)
  have q0 := q s2.heap.objs.size hD
  have fl : ∀ b ∈ fp, b < s2.heap.objs.size := fun b hb => by
    obtain ⟨o, e, _⟩ := T.obj 0 _ st2 b hb
    exact Heap.lt_size e
  have I3 : Inv X pins σ (upd H2 s2.heap.objs.size (u0 s2.heap.objs.size)) { s2 with heap := s2.heap.push o0 } :=
    I2.laid (t' := s2.toks) (fun b o e => Heap.get?_push_of_some _ e) (Nat.le_refl _) (hobj _ _ I2.big)
  generalize hs3 : ({ s2 with heap := s2.heap.push o0 } : Shared) = s3 at I3 hns₁ old₁ hcs₁ ⊢
  have hz3 : s3.heap.objs.size = s2.heap.objs.size + 1 := by rw [← hs3]; exact Heap.size_push ..
  have old2 : ∀ b o, s2.heap.get? b = some o → s3.heap.get? b = some o := fun b o e => by rw [← hs3]; exact Heap.get?_push_of_some _ e
  have old : ∀ b o, s3.heap.get? b = some o → h₁.get? b = some o := old₁
  have f3 : ∀ b ∈ fp, FpOk X pins (upd H2 s2.heap.objs.size (u0 s2.heap.objs.size)) b ∧ b < s3.heap.objs.size := fun b hb => by
    refine ⟨⟨?_, (f2 b hb).2⟩, by rw [hz3]; exact Nat.lt_succ_of_lt (fl b hb)⟩
    rw [upd_ne (Nat.ne_of_lt (fl b hb))]
    exact (f2 b hb).1
  have I4 := fun (t' : Nat) => inv_comp (N' := N') (scope := scope) (n := n) (fp := fp) (h₁ := h₁) (t' := t') I3 ck hl hns₁ old hcs₁ f3
  generalize hX : cxComp X N' scope (cellsFrom (s3.heap.objs.size + 1) scope.names (closeL scope.names X.env.cells [])) s3.heap.objs.size s3 (upd H2 s2.heap.objs.size (u0 s2.heap.objs.size)) fp = X' at I4
  have eP : X'.prog = X.prog := by rw [← hX]; rfl
  have ew : X'.w = X.w := by rw [← hX]; rfl
  have eK : X'.K = X.K := by rw [← hX]; rfl
  have eA : X'.A = X.A := by rw [← hX]; rfl
  have eE : X'.env = compEnvC scope (cellsFrom (s3.heap.objs.size + 1) scope.names (closeL scope.names X.env.cells [])) s3.heap.objs.size X.env := by rw [← hX]; rfl
  have ec : X'.calm = true := by rw [← hX]; exact hc
  have ex' : X'.xe = fun _ _ => False := by rw [← hX]; rfl
  have stat : ∀ {H' : Hp}, (∀ b ∈ fp, H' b = none) → ∀ b ∈ fp, FpOk X' [] H' b := fun hn b hb => by
    refine ⟨hn b hb, ?_, ?_, ?_, ?_, ?_⟩
    · rw [eE]; exact Nat.ne_of_lt (f3 b hb).2
    · rw [← hX]
      intro hf
      rcases List.mem_cons.mp (I3.stkSub b hf) with z | z
      · exact (f3 b hb).1.2.1 z
      · exact (f3 b hb).1.2.2.1 z
    · rw [← hX]; exact .inl hb
    · rw [eE]
      intro x c e
      rcases cells_split e with z | z
      · exact fun k => absurd (f3 b hb).2 (Nat.not_lt.mpr (by rw [← k]; exact Nat.le_of_succ_le z.2))
      · exact (f3 b hb).1.2.2.2.2.1 x c (closeL_sub _ _ _ (fun _ _ z => by simp at z) x c (PySem.mem_of_lookup z))
    · rw [← hX]; intro p hp; exact absurd hp (by simp [cxComp])
  have fin : ∀ {σ' : St} {H' : Hp} {s' : Shared}, Inv X' [] σ' H' s' → Q (.ref s2.heap.objs.size) H' → RR (.ref s2.heap.objs.size) s3.heap.objs.size (.ok .next) s' := fun {σ' H' s'} I' q' => by
    obtain ⟨m', hn', _⟩ := id I'.loc
    rw [eE] at hn'
    have hos : s'.os = s3.os := by have := I'.os; rw [← hX] at this; exact this
    have hun : Un (frs X.stack) fp (upd H2 s2.heap.objs.size (u0 s2.heap.objs.size)) H' s3.heap s'.heap := by have := I'.base; rw [← hX] at this; exact this
    have hok : HOk X.prog X.w H' s'.heap := by have := I'.hok; rw [eP, ew] at this; exact this
    have IX : Inv X pins σ H' s' := I3.call' (ch := fp) hos hun hok I'.bare fun b hb => ⟨(f3 b hb).1.2.2.2.1, (f3 b hb).1.2.1, (f3 b hb).1.2.2.2.2.1, (f3 b hb).1.2.2.2.2.2⟩
    have hfr := I'.free
    rw [eE] at hfr
    refine hRR _ _ H' s' m' IX hn' hfr (Nat.ne_of_gt I3.lt) I3.sz (fun x c e z => ?_) (fun p hp z => ?_) q'
    · obtain ⟨v, o, ho, _⟩ := I3.cell x c e
      exact absurd (Heap.lt_size ho) (by rw [z]; exact Nat.lt_irrefl _)
    · exact absurd (Heap.lt_size (I3.pin p hp).1) (by rw [z]; exact Nat.lt_irrefl _)
  have fs0 : ∀ b ∈ fp, FpOk X' [] (upd H2 s2.heap.objs.size (u0 s2.heap.objs.size)) b := stat fun b hb => (f3 b hb).1.1
  have q1 : ClauseL X' tg ifs (inner (.ref s2.heap.objs.size) X'.env) J (fun _ H' => Q (.ref s2.heap.objs.size) H') (σ ++ List.replicate n none) (upd H2 s2.heap.objs.size (u0 s2.heap.objs.size)) := by
    rw [eE, ← hX]
    exact q0 _ _ _ _ _
  have T' : Turn X'.prog X'.w X'.K tg J fp it tn := by rw [eP, ew, eK]; exact T
  have fin2 := clause_loop (s := { s3 with heap := h₁, toks := s3.toks }) ex' ec (hC (.ref s2.heap.objs.size) X'.env) (I4 s3.toks) T' (T.keep 0 _ _ st2 fun b _ o e => old b o (old2 b o e)) fs0 q1 (R := RR (.ref s2.heap.objs.size) s3.heap.objs.size) fun σ' H' s' I' a' => fin I' a'
  rw [eP, ew, eA, eE] at fin2
  exact fin2
noncomputable def emit (elt : Expr) (acc : Value) (env : Env) : Sem Unit := do let _ ← call (.builtin "list.append") [acc, ← eval elt env]
section
variable {X : Cx} {elt tg iter : Expr} {ifs : List Expr} {scope : Scope} {pos : Pos} {σ : St} {H : Hp} {acc : Value} {env : Env} {N' : List Str} {J : It}
theorem clauseL1 : Clause (.ListComp elt [⟨tg, iter, ifs, 0⟩] scope pos) 0 tg iter ifs acc env (emit elt acc env) := ⟨rfl, fun _ => rfl, fun _ _ _ => rfl, fun _ _ => rfl, fun _ _ _ => rfl, fun _ _ => rfl, fun _ => rfl⟩
theorem ein_emit {D : Addr} {Q : St → Hp → Prop} (h : Ev X elt σ H fun v H1 => ∃ ys, H1 D = some (.lst ys) ∧ ys.length < sizeLine ∧ Q σ (upd H1 D (.lst (ys ++ [v])))) : Ein X (emit elt (.ref D) X.env) σ H Q := by
  refine ⟨fun pins s I => ?_⟩
  unfold emit
  refine wpAny_bind (thn (h.run pins s I) fun v s1 ⟨x, H1, I1, r1, ys, hy, hz, q⟩ => ?_)
  refine wpAny_bind (thn (mt_append (X := X) _ s1 σ H1 (.ref D) [x] (.ref D) [v] (fun _ H' => Q σ H') I1 rfl (.cons r1 .nil) ⟨_, ys, x, rfl, rfl, hy, hz, q⟩) fun _ s2 ⟨_, H2, I2, _, q2⟩ => wpAny_pure ⟨σ, H2, I2, q2⟩)
theorem Eg.mono {v : V} {R R' : St → Hp → Prop} (h : Eg X elt v σ H R) (f : ∀ σ' H', R σ' H' → R' σ' H') : Eg X elt v σ H R' := ⟨fun pins s u I r => thn (h.run pins s u I r) fun _ _ ⟨σ', H', I', q⟩ => ⟨σ', H', I', f _ _ q⟩⟩
theorem Ei.mono {T T' : Bool → Hp → Prop} (h : Ei X ifs σ H T) (f : ∀ b H', T b H' → T' b H') : Ei X ifs σ H T' := ⟨fun pins s I => thn (h.run pins s I) fun _ _ ⟨H', I', q⟩ => ⟨H', I', f _ _ q⟩⟩
theorem comp_cl {D : Addr} {after : Hp → Prop} (h : CompL X N' scope tg ifs elt J D after σ H) (cl : List (Str × Addr)) (C : Addr) (s₀ : Shared) (H₀ : Hp) (ex : List Addr) : ClauseL (cxComp X N' scope cl C s₀ H₀ ex) tg ifs (emit elt (.ref D) (compEnvC scope cl C X.env)) J (fun _ H' => after H') σ H := by
  obtain ⟨W, w0, t⟩ := h
  refine ⟨W, w0, fun i m σ' H' w => (t i m σ' H' w).imp id fun ⟨g, N, hN, st⟩ => ⟨g, N, hN, fun x H2 y => (st x H2 y cl C s₀ H₀ ex).mono fun σ2 H3 h3 => (h3 cl C s₀ H₀ ex).mono fun b H4 h4 => ?_⟩⟩
  cases b with
  | true =>
    rw [if_pos rfl] at h4 ⊢
    exact ein_emit (X := cxComp X N' scope cl C s₀ H₀ ex) (h4 cl C s₀ H₀ ex)
  | false =>
    rw [if_neg Bool.false_ne_true] at h4 ⊢
    exact h4
theorem comp_lst {n : Nat} {pins : List (Addr × Obj)} {H2 : Hp} {s2 : Shared} {E : Value → Shared → Prop} {RR : Value → Addr → Result → Shared → Prop} {it : Addr} {fp : List Addr} {tn : Nat → Heap → Prop} {Q : VK}
    (hc : X.calm = true) (ck : CompOk X.env.scope scope X.N N') (hl : N'.length = X.N.length + n) (I2 : Inv X pins σ H2 s2) (T : Turn X.prog X.w X.K tg J fp it tn) (st2 : tn 0 s2.heap) (f2 : ∀ b ∈ fp, FpOk X pins H2 b)
    (q : ∀ D, H2 D = none → CompL X N' scope tg ifs elt J D (fun H' => Q (.ref D) H') (σ ++ List.replicate n none) (upd H2 D (.lst [])))
    (hRR : ∀ D C H' s' m, Inv X pins σ H' s' → s'.heap.Ns C m → H' C = none → C ≠ X.env.locals → X.s₀.heap.objs.size ≤ C → (∀ x c, X.env.cells.lookup x = some c → c ≠ C) → (∀ p ∈ X.pn ++ pins, p.1 ≠ C) → Q (.ref D) H' → RR (.ref D) C (.ok .next) s') :
    wpAny (model X.prog X.w) X.A (newList []) (fun acc s₃ => wpAny (model X.prog X.w) X.A (newFunctionEnv scope X.env.globals (closeL scope.names X.env.cells []) [] X.env.qual none .none (some X.env)) (fun cenv s₄ =>
      codeAny (model X.prog X.w) X.A (.compStart (.ListComp elt [⟨tg, iter, ifs, 0⟩] scope pos) 0 (.ref it) acc { cenv with scope := relabel scope X.env }) (RR acc cenv.locals) s₄) E s₃) E s2 :=
  comp_core_any (newAcc := newList []) (o0 := { cls := .type "list", dict := none, data := .seq ([] : List Value).toArray }) (u0 := fun _ => .lst []) (fun _ _ _ h => wpAny_newObj_type h (by show (0 : Nat) ≤ sizeLine; exact Nat.zero_le _)) (fun _ _ _ => ⟨Nat.zero_le _, [], 0, .nil, Heap.get?_push_size _ rfl⟩) hc ck hl (fun _ _ => clauseL1) I2 T st2 f2 (fun D hD => comp_cl (q D hD)) hRR
end
section
variable {X : Cx} {elt tg iter c : Expr} {ifs : List Expr} {scope : Scope} {pos p : Pos} {wi : TI} {σ : St} {H : Hp} {Q : VK} {T : Bool → Hp → Prop} {rest : List Stmt} {D : Ends}
theorem ei_nil (h : T true H) : Ei X [] σ H T := ⟨fun pins s I => pif_nil pins s σ H T I h⟩
theorem ei_one (h : Et X c σ H T) : Ei X [c] σ H T := ⟨fun pins s I => pif_one pt_et pins s σ H T I h⟩
theorem ev_comp (sc : Scope) (N N' : List Str) (n : Nat) (hi : PI X tg iter wi)
    (h : wi σ H fun J H1 => ∀ D, H1 D = none → CompL X N' scope tg ifs elt J D (fun H' => Q (.ref D) H') (σ ++ List.replicate n none) (upd H1 D (.lst [])))
    (hc : X.calm = true := by rfl) (hsc : X.env.scope = sc := by rfl) (hN : X.N = N := by rfl) (hk : compOk sc scope N N' = true := by decide +kernel) (hl : N'.length = N.length + n := by rfl)
    (hs : ∀ x, foldedSetIterable iter X.env x = pure x := by intro _; rfl) : Ev X (.ListComp elt [⟨tg, iter, ifs, 0⟩] scope pos) σ H Q := by
  refine ⟨fun pins s I => ?_⟩
  subst hsc hN
  have ck := CompOk.of hk
  rw [eval_ListComp]
  refine wpAny_comprehension_free (use := none) rfl hs (closure_eq fun x hx hf => I.ok.has x.1 (ck.free x hx hf)) ck.kind ck.names (thn (hi pins s σ H _ I h) fun v s1 h1 => thn h1 fun itv s2 h2 => ?_)
  obtain ⟨it, fp, tn, J, H2, e, I2, T, st2, f2, q⟩ := h2
  subst e
  refine comp_lst (RR := fun acc C => compPost (model X.prog X.w) X.A X.xe none (EP X pins σ Q) acc C) hc ck hl I2 T st2 f2 q ?_
  intro D C H' s' m IX hn hC c1 c2 c3 c4 qq
  exact ⟨m, hn, fun h' hs' => ⟨.ref D, H', IX.turned (t' := s'.toks) (fun b o hb e => hs'.extBut b o hb e) hC (Ne.symm (Ne.symm c1)) (.inr c2) c3 c4, rfl, qq⟩⟩
theorem comp_strL {N' : List Str} {x : Str} {z : Str} {A : Addr} {after : Hp → Prop} (f : Nat → V) (hz : z.cps.size < sizeLine) (hg : ∀ cl C s₀ H₀ ex v v0 H' R, R (σ ++ [some v]) H' → Eg (cxComp X N' scope cl C s₀ H₀ ex) tg v (σ ++ [v0]) H' R)
    (he : ∀ cl C s₀ H₀ ex c H' R, (∃ j : Nat, z.cps[j]? = some c) → R (f c) H' → Ev (cxComp X N' scope cl C s₀ H₀ ex) elt (σ ++ [some (.str ⟨#[c]⟩)]) H' R) (q : after (upd H A (.lst (z.cps.toList.map f)))) :
    CompL X N' scope tg [] elt (Its z) A after (σ ++ List.replicate 1 none) (upd H A (.lst [])) := by
  refine ⟨fun k m σ' H' => m = z.cps.size - k ∧ k ≤ z.cps.size ∧ (∃ v, σ' = σ ++ [v]) ∧ H' = upd H A (.lst ((z.cps.toList.take k).map f)), ⟨_, rfl, Nat.zero_le _, ⟨none, rfl⟩, by simp⟩, ?_⟩
  rintro k m σ' H' ⟨rfl, hk, ⟨v, rfl⟩, rfl⟩
  by_cases hlt : k < z.cps.size
  · refine .inr ⟨hlt, fun σ' H' => (∃ v, σ' = σ ++ [v]) ∧ H' = upd H A (.lst ((z.cps.toList.take (k + 1)).map f)), fun σ' H' hh => ⟨z.cps.size - (k + 1), by omega, rfl, hlt, hh⟩, ?_⟩
    rintro x H2 ⟨rfl, c, hc, rfl⟩
    intro cl C s₀ H₀ ex
    refine hg cl C s₀ H₀ ex _ _ _ _ ?_
    intro cl C s₀ H₀ ex
    refine ei_nil ?_
    rw [if_pos rfl]
    intro cl C s₀ H₀ ex
    refine he cl C s₀ H₀ ex c _ _ ⟨k, hc⟩ ⟨_, upd_same, ?_, ⟨_, rfl⟩, ?_⟩
    · rw [List.length_map, List.length_take]
      have : z.cps.toList.length = z.cps.size := by simp
      omega
    · rw [upd_upd]
      congr 2
      have hc' : z.cps.toList[k]? = some c := by simpa using hc
      rw [List.take_add_one, hc', List.map_append]
      rfl
  · have e : k = z.cps.size := by omega
    subst e
    refine .inl ⟨Nat.le_refl _, ?_⟩
    have e2 : z.cps.toList.take z.cps.size = z.cps.toList := List.take_of_length_le (by simp)
    rw [e2]
    exact q
end
end L2
namespace L2
open PySem PySem.Spec PyProof.Rows
structure Has (P : Program) (w : World) (K : PySem.W.Frag) (mg : Str → Option Value) (base : Heap) (k : Nat) (x : Str) (ps : List Str) (sp : Sp) : Prop where
  ex : ∃ f fd, FnOk P w K mg base CX0 k f fd ps sp ∧ Binds K fd ps [] ∧ PySem.W.keepIn K (.ref f) = true ∧ mg x = some (.ref f)
theorem Has.mono {P : Program} {w : World} {K : PySem.W.Frag} {mg : Str → Option Value} {base : Heap} {j k : Nat} {x : Str} {ps : List Str} {sp : Sp} (h : Has P w K mg base j x ps sp) (le : j ≤ k) : Has P w K mg base k x ps sp :=
  let ⟨f, fd, F, r⟩ := h.ex; ⟨f, fd, F.mono le, r⟩
theorem ev_has {X : Cx} {k : Nat} {ps : List Str} {sp : Sp} {x : Str} {e : Expr} {es : List Expr} {σ : St} {H : Hp} {Q : VK} {p pos : Pos} (G : Has X.prog X.w X.K X.mg X.base k x ps sp) (hr : Room k X.A)
    (h : Ea X (e :: es) σ H fun vs H1 => sp vs H1 Q E0) (hg : Gl X x := by rfl) (hdb : (x == ("__debug__" : Str)) = false := by decide) (hs : noStar (e :: es) = true := by rfl) : Ev X (.Call (.Name x p) (e :: es) [] pos) σ H Q :=
  let ⟨_, _, F, b, kp, m⟩ := G.ex; ev_call F hr m kp b pass0 h hg hdb hs
theorem _root_.L2.Room.u100 {k : Nat} {A : Around} (hr : Room k A) : A.units + 100 < cLine := by have := hr.un; omega
noncomputable def Df (K : PySem.W.Frag) (x : Str) (st : Stmt) : Prop := ∃ (f : Addr) (fd : FuncData), PySem.W.nsIn K mainGlobals x = some (some (.ref f)) ∧ Fun K x x st f fd
theorem df_mk {K : PySem.W.Frag} {x : Str} {st : Stmt} {f : Addr} {oc kV doc pm cdv ct : Value} {od an : Option Addr} {sl : Array (Option Value)} (a : PySem.W.nsIn K mainGlobals x = some (some (.ref f)))
    (l : K.lookup f = some ⟨oc, od, .func (PySem.W.fnOf x x (defArgs st) (defBody st) (defScope st) .none kV doc pm an cdv ct), sl⟩) (c : PySem.W.codeIn K cdv x = true) (k : PySem.W.keepIn K (.ref f) = true) : Df K x st := ⟨f, _, a, fun_mk l c k⟩
structure Bun where
  f : Addr
  cdv : Value
  A : Around
  outer : List Env
  s : Shared
  H : Hp
  E : XK
noncomputable def cxB (N : List Str) (qual : Str) (scope : Scope) (P : Program) (w : World) (K : PySem.W.Frag) (mg : Str → Option Value) (base : Heap) (b : Bun) : Cx := (cxOf CX0 P w K mg base N qual scope b.f b.cdv b.A b.outer b.s b.H b.E).nox
noncomputable def En (Q : VK) : Ends := { nx := fun _ H' => Q .non H', rt := Q }
theorem Fun.gb {P : Program} {w : World} {K : PySem.W.Frag} {mg : Str → Option Value} {base : Heap} {x qual : Str} {st : Stmt} {f : Addr} {fd : FuncData} {N ps : List Str} {k : Nat} {sp : Sp} (F : Fun K x qual st f fd) (S : FnScope N ps (defScope st)) (len : ∀ vs H Q E, sp vs H Q E → vs.length = ps.length)
    (hbody : ∀ (b : Bun) (H : Hp) (vs : List V) (Q : VK) (E : XK), Room k (b.A.deeper (envOfC qual (defScope st) b.s.heap.objs.size b.f b.cdv)) → sp vs H Q E → Run (cxB N qual (defScope st) P w K mg base b) (defBody st) (En Q) (start N vs) H) : FnOk P w K mg base CX0 (k + 1) f fd ps sp :=
  F.go S len fun cdv A outer s H vs Q E hr hsp => hbody ⟨f, cdv, A, outer, s, H, E⟩ H vs Q E hr hsp
theorem len_s {us : List Value} {k : Nat} (h : us.length = k + 1) : ∃ a r, us = a :: r ∧ r.length = k := by
  cases us with
  | nil => cases h
  | cons a r => exact ⟨a, r, rfl, Nat.succ.inj h⟩
theorem bd1 {fd : FuncData} {ps : List Str} (f : ∀ a : Value, bindArgs fd ⟨[a], []⟩ = pure (ps.zip [a])) : ∀ us : List Value, us.length = 1 → bindArgs fd ⟨us, []⟩ = pure (ps.zip us) := fun us h => by
  obtain ⟨a, r0, e0, h0⟩ := len_s h
  have z := List.length_eq_zero_iff.mp h0
  subst z e0
  exact f a
theorem bd2 {fd : FuncData} {ps : List Str} (f : ∀ a b : Value, bindArgs fd ⟨[a, b], []⟩ = pure (ps.zip [a, b])) : ∀ us : List Value, us.length = 2 → bindArgs fd ⟨us, []⟩ = pure (ps.zip us) := fun us h => by
  obtain ⟨a, r0, e0, h0⟩ := len_s h
  obtain ⟨b, r1, e1, h1⟩ := len_s h0
  have z := List.length_eq_zero_iff.mp h1
  subst z e1 e0
  exact f a b
theorem Df.has {P : Program} {w : World} {K : PySem.W.Frag} {mg : Str → Option Value} {h base : Heap} {k : Nat} {x : Str} {st : Stmt} {ps : List Str} {sp : Sp} (d : Df K x st) (X : K.In h) (G : h.Ns mainGlobals mg)
    (hb : ∀ (kV doc pm : Value) (an : Option Addr) (cdv ct : Value) (us : List Value), us.length = ps.length → bindArgs (PySem.W.fnOf x x (defArgs st) (defBody st) (defScope st) .none kV doc pm an cdv ct) ⟨us, []⟩ = pure (ps.zip us))
    (ok : ∀ {f : Addr} {fd : FuncData}, Fun K x x st f fd → FnOk P w K mg base CX0 k f fd ps sp) : Has P w K mg base k x ps sp :=
  let ⟨f, fd, a, F⟩ := d; ⟨f, fd, ok F, F.binds hb, F.kp, PySem.W.mg_of X G a⟩
theorem Df.law {P : Program} {w : World} {K : PySem.W.Frag} {mg : Str → Option Value} {h : Heap} {k : Nat} {x y : Str} {st : Stmt} {sp : Sp} {fa : Addr} (d : Df K x st) (X : K.In h) (G : h.Ns mainGlobals mg) (hfa : mg x = some (.ref fa))
    (hb : ∀ (kV doc pm : Value) (an : Option Addr) (cdv ct : Value) (s : Shared) (v : Value), BindsTo s (PySem.W.fnOf x x (defArgs st) (defBody st) (defScope st) .none kV doc pm an cdv ct) ⟨[v], []⟩ [(y, v)])
    (ok : ∀ (base : Heap) {f : Addr} {fd : FuncData}, Fun K x x st f fd → FnOk P w K mg base CX0 k f fd [y] sp) :
    ∃ fd : FuncData, (∀ (s : Shared) (v : Value), BindsTo s fd ⟨[v], []⟩ [(y, v)]) ∧ ∀ base : Heap, K.In base → base.Ns mainGlobals mg → FnOk P w K mg base CX0 k fa fd [y] sp := by
  obtain ⟨f, fd, a, F⟩ := d
  have e := hfa.symm.trans (PySem.W.mg_of X G a)
  cases e
  obtain ⟨oc, od, kV, doc, pm, an, cdv, ct, osl, rfl, lk, hcd⟩ := id F.ex
  exact ⟨_, hb kV doc pm an cdv ct, fun base _ _ => ok base F⟩
end L2
namespace SetT
open PySem
end SetT
namespace SetT
open PySem
section
variable (prog : Program) (w : World)
end
section
variable {prog : Program} {w : World} {es : Array (Int × Value)} {t : SetTable} {zs : List Str} {h h' : Heap} {a : Addr}
end
section
variable {prog : Program} {w : World} {A : Around} {E : Value → Shared → Prop} {s : Shared} {a : Addr} {zs : List Str}
end
end SetT
namespace SetT
open PySem
section
variable {prog : Program} {w : World} {A : Around} {E : Value → Shared → Prop} {s : Shared} {a : Addr} {zs : List Str}
variable {o : Obj} {es : Array (Int × Value)} {ep : Nat} {t : SetTable}
end
end SetT
namespace SetT
open PySem
open Builtin.Frozenset
section
variable {prog : Program} {w : World} {A : Around} {E : Value → Shared → Prop} {s : Shared} {a : Addr} {zs : List Str}
variable {o : Obj} {ep : Nat} {t : SetTable}
end
end SetT
namespace SetT
open PySem
open Builtin.Frozenset
section
variable {prog : Program} {w : World} {A : Around} {E : Value → Shared → Prop} {s : Shared} {a r : Addr} {za zr : List Str}
end
end SetT
namespace SetT
open PySem
open Builtin.Frozenset
section
variable {prog : Program} {w : World} {A : Around} {E : Value → Shared → Prop} {s : Shared}
variable {R : Result → Shared → Prop} {I : Addr} {fp wr : List Addr} {G : Array GenState → Array GenState → Prop} {n : Nat} {P : Nat → Value → Prop} {St : Nat → Shared → Prop}
end
end SetT
namespace SetT
open PySem
open Builtin.Frozenset
section
variable {prog : Program} {w : World} {A : Around} {E : Value → Shared → Prop} {s : Shared} {a tp it : Addr} {zs : List Str} {o : Obj} {es : Array (Int × Value)} {ep : Nat} {t : SetTable} {ws : List (Int × Value)} {i : Nat} {first : Value}
end
end SetT
namespace SetT
open PySem PySem.Spec
open Builtin.Frozenset
section
variable {prog : Program} {w : World} {A : Around} {E : Value → Shared → Prop} {s : Shared} {a tp it : Addr} {zs : List Str} {o : Obj} {es : Array (Int × Value)} {ep : Nat} {t : SetTable} {ws : List (Int × Value)} {i : Nat} {first : Value}
end
end SetT
namespace SetT
open PySem PySem.Spec PyProof.Rows
section
variable {prog : Program} {w : World} {A : Around} {E : Value → Shared → Prop} {s : Shared} {a : Addr} {zs : List Str}
end
end SetT
namespace L2
open PySem PySem.Spec PyProof.Rows SetT
section
variable {X : Cx} {pins : List (Addr × Obj)} {σ : St} {H : Hp} {s s' : Shared} {a : Addr} {zs : List Str}
end
end L2
namespace L2
open PySem PySem.Spec PyProof.Rows
section
variable {X : Cx} {o e : Expr} {σ : St} {H : Hp} {Q : VK} {ap cp : Pos}
theorem ev_append (h : Ev X o σ H fun x H1 => ∃ l, x = .ref l ∧ (∃ xs, H1 l = some (.lst xs)) ∧ Ev X e σ H1 fun y H2 => ∃ xs, H2 l = some (.lst xs) ∧ xs.length < sizeLine ∧ Q .non (upd H2 l (.lst (xs ++ [y]))))
    (hbase : attributeBase o "append" X.env (eval o X.env) = eval o X.env := by rfl)
    (hfew : ((backTo cp (starEach [e] X.env)).all (fun x => !x.1) && (backToKw cp (keywordEach [] X.env)).all (fun x => x.1.isSome) && decide ([e].length + ([] : List Keyword).length + (if ([] : List Keyword).isEmpty then 0 else 1) < 30)) = true := by rfl)
    (hline : (ap.endLine == cp.line) = true := by rfl) (hs : starEach [e] X.env = (false, eval e X.env) :: starEach [] X.env := by rfl) (hplain : (backTo cp (starEach [] X.env)).any (·.1) = false := by rfl) (hst : isStar e = false := by rfl) :
    Ev X (.Call (.Attribute o "append" ap) [e] [] cp) σ H Q := by
  refine ev_of (pe_bm PySem.F.plainAttrs_list PySem.F.slot_list_append PySem.F.type_list_append mt_append pe_ev (pa_ea (es := [e])) hbase hfew hline hs hplain) (h.mono fun x H1 ⟨l, ex, ⟨xs, hl⟩, h2⟩ => ?_)
  subst ex
  refine ⟨.inl ⟨rfl, xs, SqL.of hl⟩, ?_⟩
  exact ea_cons (h2.mono fun y H2 ⟨ys, hy, hz, q⟩ => ea_nil ⟨l, ys, y, rfl, rfl, hy, hz, q⟩) hst
end
section
variable {X : Cx} {c : Expr} {body els rest : List Stmt} {D : Ends} {σ : St} {H : Hp} {pos : Pos}
theorem Run.nx {M M' : St → Hp → Prop} {l : List Stmt} (h : Run X l { D with nx := M } σ H) (f : ∀ σ' H', M σ' H' → M' σ' H') : Run X l { D with nx := M' } σ H :=
  ⟨fun pins s I => thn (h.run pins s I) fun fl s' q => by
    cases fl with
    | next =>
      obtain ⟨σ', H', I', m⟩ := q
      exact ⟨σ', H', I', f σ' H' m⟩
    | _ => exact q⟩
end
noncomputable def EqD (X : Cx) (H : Hp) (k : Nat) (x y : V) (b : Bool) : Prop := ∀ (pins : List (Addr × Obj)) (σ : St) (s : Shared) (A : Around) (u v : Value), Inv X pins σ H s → A.units + k < cLine → RelV x u → RelV y v → SeqAt.EqAt A s u v b
noncomputable def RcD (X : Cx) (H : Hp) (k : Nat) (x y : V) (b : Bool) : Prop := ∀ (pins : List (Addr × Obj)) (σ : St) (s : Shared) (A : Around) (u v : Value), Inv X pins σ H s → A.units + k < cLine → RelV x u → RelV y v → SeqAt.RcAt A s u v b
noncomputable def RnD (X : Cx) (H : Hp) (k : Nat) (x y : V) (b : Bool) : Prop := ∀ (pins : List (Addr × Obj)) (σ : St) (s : Shared) (A : Around) (u v : Value), Inv X pins σ H s → A.units + k < cLine → RelV x u → RelV y v → SeqAt.RcNeAt A s u v (!b)
section
variable {X : Cx} {H : Hp} {k : Nat} {a b : Addr} {xs ys : List V}
theorem eqD_flat {x y : V} (fx : flatV x = true) (fy : flatV y = true) : EqD X H k x y (eqV x y) := fun _ _ _ _ _ _ _ _ rx ry => eqAt_V rx ry fx fy
theorem vals_at {us : List Value} (r : Vals xs us) {j : Nat} (h : j < us.length) : ∃ x, xs[j]? = some x ∧ RelV x us[j] := by
  have hl := r.length
  have hj : j < xs.length := by omega
  obtain ⟨u, e, q⟩ := r.get (List.getElem?_eq_getElem hj)
  rw [List.getElem?_eq_getElem h] at e
  cases e
  exact ⟨_, List.getElem?_eq_getElem hj, q⟩
theorem rcD_list (e : Nat → Bool) (ha : SqL X.K H a xs) (hb : SqL X.K H b ys) (hl : xs.length = ys.length) (he : ∀ j x y, xs[j]? = some x → ys[j]? = some y → EqD X H k x y (e j)) : RcD X H (k + 1) (.ref a) (.ref b) ((List.range xs.length).all e) := fun pins σ s A u v I hu rx ry => by
  cases rx
  cases ry
  obtain ⟨i1, r1, p1, _⟩ := I.list ha
  obtain ⟨i2, r2, p2, _⟩ := I.list hb
  have l1 := r1.length
  have l2 := r2.length
  have q := SeqAt.RcAt.lists (A := A) (e := e) p1.isList p2.isList (by simp; omega) (by omega) fun j h1 h2 => by
    obtain ⟨x, ex, qx⟩ := vals_at r1 (j := j) (by simpa using h1)
    obtain ⟨y, ey, qy⟩ := vals_at r2 (j := j) (by simpa using h2)
    exact he j x y ex ey pins σ s A.in1 _ _ I (by show A.units + 1 + k < cLine; omega) (by simpa using qx) (by simpa using qy)
  rw [List.size_toArray, ← l1] at q
  exact q
theorem rnD_list (e : Nat → Bool) (ha : SqL X.K H a xs) (hb : SqL X.K H b ys) (hl : xs.length = ys.length) (he : ∀ j x y, xs[j]? = some x → ys[j]? = some y → EqD X H k x y (e j)) : RnD X H (k + 1) (.ref a) (.ref b) ((List.range xs.length).all e) := fun pins σ s A u v I hu rx ry => by
  cases rx
  cases ry
  obtain ⟨i1, r1, p1, _⟩ := I.list ha
  obtain ⟨i2, r2, p2, _⟩ := I.list hb
  have l1 := r1.length
  have l2 := r2.length
  have q := SeqAt.RcNeAt.lists (A := A) (e := e) p1.isList p2.isList (by simp; omega) (by omega) fun j h1 h2 => by
    obtain ⟨x, ex, qx⟩ := vals_at r1 (j := j) (by simpa using h1)
    obtain ⟨y, ey, qy⟩ := vals_at r2 (j := j) (by simpa using h2)
    exact he j x y ex ey pins σ s A.in1 _ _ I (by show A.units + 1 + k < cLine; omega) (by simpa using qx) (by simpa using qy)
  rw [List.size_toArray, ← l1] at q
  exact q
theorem all_true (n : Nat) : (List.range n).all (fun _ => true) = true := by simp
theorem op_eqD (hu : X.A.units + 100 < cLine) : OpR X (compareOp .Eq) (fun x y H Q => ∃ k c, k ≤ 100 ∧ RcD X H k x y c ∧ Q (.bl c) H) := by
  intro pins s σ H x y v u Q I rx ry h
  obtain ⟨k, c, hk, hc, q⟩ := h
  exact hc pins σ s X.A v u I (by omega) rx ry X.prog X.w X.xe _ ⟨.bl c, H, I, rfl, q⟩
theorem op_neD (hu : X.A.units + 100 < cLine) : OpR X (compareOp .NotEq) (fun x y H Q => ∃ k c, k ≤ 100 ∧ RnD X H k x y c ∧ Q (.bl (!c)) H) := by
  intro pins s σ H x y v u Q I rx ry h
  obtain ⟨k, c, hk, hc, q⟩ := h
  exact hc pins σ s X.A v u I (by omega) rx ry X.prog X.w X.xe _ ⟨.bl (!c), H, I, rfl, q⟩
end
end L2
namespace L2
open PySem PySem.Spec PyProof.Rows
section
variable {X : Cx} {H : Hp} {k : Nat} {a b : Addr} {xs ys : List V}
end
section
variable {X : Cx} {o e f c : Expr} {σ : St} {H : Hp} {Q : VK} {T : Bool → Hp → Prop} {ap cp pos : Pos} {body rest : List Stmt} {D : Ends}
theorem ev_m1 {name : Str} {Ty id : String} {r : V → List V → Hp → VK → Prop} (pa : PlainAttrs Ty) (slot : Slot Ty name id) (hty : typeOf (.builtin id) = pure (.type "method_descriptor")) (hm : MtR X id r)
    (h : Ev X o σ H fun x H1 => tyV X.K Ty x H1 ∧ Ev X e σ H1 fun y H2 => r x [y] H2 Q) (hbase : attributeBase o name X.env (eval o X.env) = eval o X.env := by rfl)
    (hfew : ((backTo cp (starEach [e] X.env)).all (fun x => !x.1) && (backToKw cp (keywordEach [] X.env)).all (fun x => x.1.isSome) && decide ([e].length + ([] : List Keyword).length + (if ([] : List Keyword).isEmpty then 0 else 1) < 30)) = true := by rfl)
    (hline : (ap.endLine == cp.line) = true := by rfl) (hs : starEach [e] X.env = (false, eval e X.env) :: starEach [] X.env := by rfl) (hplain : (backTo cp (starEach [] X.env)).any (·.1) = false := by rfl) (hst : isStar e = false := by rfl) : Ev X (.Call (.Attribute o name ap) [e] [] cp) σ H Q :=
  ev_of (pe_bm pa slot hty hm pe_ev (pa_ea (es := [e])) hbase hfew hline hs hplain) (h.mono fun x H1 ⟨t, h2⟩ => ⟨t, ea_cons (h2.mono fun y H2 q => ea_nil q) hst⟩)
theorem run_ifH {els : List Stmt} (Φ : Bool → Hp → Prop) (M : St → Hp → Prop) (hc : Et X c σ H Φ) (ht : ∀ H1, Φ true H1 → Run X body { D with nx := M } σ H1) (hu : ∀ H1, Φ false H1 → Run X els { D with nx := M } σ H1)
    (hr : ∀ σ' H', M σ' H' → Run X rest D σ' H') : Run X (.If c body els pos :: rest) D σ H :=
  run_if (hc.mono fun k H1 p => by
    cases k with
    | true => rw [if_pos rfl]; exact (ht H1 p).nx hr
    | false => rw [if_neg Bool.false_ne_true]; exact (hu H1 p).nx hr)
end
end L2
namespace Sort2
open PySem PySem.Spec PyProof.Rows
section
variable {prog : Program} {w : World} {A : Around} {E : Value → Shared → Prop} {s : Shared}
end
end Sort2
namespace L2
open PySem PySem.Spec PyProof.Rows Sort2
section
variable {X : Cx} {e : Expr} {σ : St} {H : Hp} {Q : VK} {pos p kp cp : Pos} {j : Nat}
end
end L2
namespace Nt
open PySem
noncomputable abbrev Net := List (Str × List Str)
noncomputable def row (n : Net) (r : Nat) : List Str := ((n[r]?).map (·.2)).getD []
end Nt
namespace Nt
open PySem L2
noncomputable abbrev Ls (zs : List Str) : HO := .lst (zs.map V.str)
structure RowsAt (H : Hp) (R : Addr) (as : List (Addr × Addr)) (n : Net) : Prop where
  len : as.length = n.length
  lst : H R = some (.lst (as.map fun a => .ref a.1))
  tup : ∀ (i : Nat) a r, as[i]? = some a → n[i]? = some r → H a.1 = some (.tup [.str r.1, .ref a.2]) ∧ H a.2 = some (Ls r.2)
  inj : (as.map (·.2)).Nodup
theorem RowsAt.same {H H' : Hp} {R : Addr} {as : List (Addr × Addr)} {n : Net} (h : RowsAt H R as n) (s : Same H H') : RowsAt H' R as n :=
  ⟨h.len, s _ _ h.lst, fun i a r h1 h2 => ⟨s _ _ (h.tup i a r h1 h2).1, s _ _ (h.tup i a r h1 h2).2⟩, h.inj⟩
theorem RowsAt.at {H : Hp} {R : Addr} {as : List (Addr × Addr)} {n : Net} (h : RowsAt H R as n) {i : Nat} (hi : i < n.length) :
    ∃ a, as[i]? = some a ∧ atI (as.map fun a => V.ref a.1) (i : Int) = some (.ref a.1) ∧ H a.1 = some (.tup [.str n[i].1, .ref a.2]) ∧ H a.2 = some (Ls (row n i)) ∧ row n i = n[i].2 := by
  have hl := h.len
  have e : as[i]? = some as[i] := List.getElem?_eq_getElem (by omega)
  have er : row n i = n[i].2 := by unfold row; rw [List.getElem?_eq_getElem hi]; rfl
  have q := h.tup i as[i] n[i] e (List.getElem?_eq_getElem hi)
  refine ⟨as[i], e, atI_nat (by rw [List.getElem?_map, e]; rfl), q.1, ?_, er⟩
  rw [er]
  exact q.2
section
variable {X : Cx} {H : Hp} {s t : Addr} {x y : End}
end
end Nt
namespace Nt
open PySem L2
end Nt
namespace L2
open PySem PySem.Spec PyProof.Rows
end L2
namespace L2
open PySem PySem.Spec PyProof.Rows
section
variable {X : Cx} {pins : List (Addr × Obj)} {σ : St} {H : Hp} {s : Shared}
end
section
variable {X : Cx} {elt tg : Expr} {ifs : List Expr} {scope : Scope} {σ : St} {H : Hp} {N' : List Str} {A a d : Addr} {xs : List V} {kvs : List (Key × V)} {after : Hp → Prop}
theorem comp_listP (Pv : Nat → St → Hp → Prop) (h0 : Pv 0 σ H) (hl : ∀ i σ' H', i ≤ xs.length → Pv i σ' H' → SqL X.K H' a xs)
    (hs : ∀ i x σ' H', xs[i]? = some x → Pv i σ' H' → CEg X N' scope tg x σ' H' fun σ2 H3 => CEi X N' scope ifs σ2 H3 fun b H4 =>
      if b = true then CEv X N' scope elt σ2 H4 fun v H5 => ∃ ys, H5 A = some (.lst ys) ∧ ys.length < sizeLine ∧ Pv (i + 1) σ2 (upd H5 A (.lst (ys ++ [v]))) else Pv (i + 1) σ2 H4)
    (hd : ∀ σ' H', Pv xs.length σ' H' → after H') : CompL X N' scope tg ifs elt (Itl X.K a) A after σ H := by
  refine ⟨fun i m σ' H' => m = xs.length - i ∧ i ≤ xs.length ∧ Pv i σ' H', ⟨_, rfl, Nat.zero_le _, h0⟩, ?_⟩
  rintro i m σ' H' ⟨rfl, hi, p⟩
  have q := hl i σ' H' hi p
  by_cases hlt : i < xs.length
  · refine .inr ⟨⟨xs, xs[i], q, by simp [hlt]⟩, Pv (i + 1), fun σ' H' p' => ⟨xs.length - (i + 1), by omega, rfl, hlt, p'⟩, fun x H2 y => ?_⟩
    obtain ⟨e, y⟩ := y
    subst e
    exact hs i x σ' _ (y xs q) p
  · have e : i = xs.length := by omega
    subst e
    exact .inl ⟨⟨xs, q, Nat.le_refl _⟩, hd σ' H' p⟩
end
end L2
namespace PySem
end PySem
namespace PySem
namespace F
end F
section
variable {prog : Program} {w : World} {K : Type} [DecidableEq K] {knd : KeyKind prog w K} {A : Around} {R : Result → Shared → Prop}
end
end PySem
namespace L2
open PySem PySem.Spec PyProof.Rows
section
variable {X : Cx} {pins : List (Addr × Obj)} {σ : St} {H : Hp} {s : Shared}
end
end L2
namespace L2
open PySem PySem.Spec PyProof.Rows
section
variable {X : Cx} {pins : List (Addr × Obj)} {σ : St} {H : Hp} {s : Shared} {h' : Heap}
end
section
variable {X : Cx}
end
end L2
namespace L2
open PySem PySem.Spec PyProof.Rows
section
variable {X : Cx} {elt t1 i1 t2 i2 : Expr} {f1 f2 : List Expr} {scope : Scope} {pos : Pos} {σ : St} {H : Hp} {acc : Value} {env : Env}
end
end L2
namespace L2
open PySem PySem.Spec PyProof.Rows
section
variable {X : Cx} {pins : List (Addr × Obj)} {σ : St} {H : Hp} {s : Shared} {a : Addr} {y v : V} {u r : Value} {A : Around} {E : Value → Shared → Prop}
end
section
variable {X : Cx} {k v t1 i1 t2 i2 : Expr} {f1 f2 : List Expr} {scope : Scope} {pos : Pos} {σ : St} {H : Hp} {acc : Value} {env : Env}
end
end L2
namespace L2
open PySem PySem.Spec PyProof.Rows SetT
section
variable {X : Cx} {elt t1 i1 t2 i2 : Expr} {f1 f2 : List Expr} {scope : Scope} {pos : Pos} {σ : St} {H : Hp} {acc : Value} {env : Env}
end
end L2
namespace Spl
open PySem PySem.Builtin PySem.Builtin.Str PySem.StrLaws
noncomputable def gl (y : List Nat) : List (List Nat) → List Nat
  | [] => []
  | [a] => a
  | a :: b :: r => a ++ y ++ gl y (b :: r)
theorem join_gl (y : Str) : ∀ ps : List Str, (Str.join y ps).cps.toList = gl y.cps.toList (ps.map fun p => p.cps.toList)
  | [] => rfl
  | [a] => rfl
  | a :: b :: r => by
    show (a ++ y ++ Str.join y (b :: r)).cps.toList = _
    simp only [Str.cps_append, Array.toList_append]
    rw [join_gl y (b :: r)]
    rfl
theorem at_head {x y : Str} {n c k : Nat} {ys : List Nat} (hy : y.cps.toList = c :: ys) (h : At x y n k) : x.cps.toList[k]? = some c := by
  have h2 := h.2
  rw [subAt_eq, hy] at h2
  have h3 := eq_of_beq h2
  have hl : y.length = ys.length + 1 := by
    show y.cps.size = _
    rw [← Array.length_toList, hy]
    rfl
  have h4 : ((x.cps.toList.drop k).take y.length)[0]? = some c := by rw [h3]; rfl
  rw [List.getElem?_take_of_lt (by omega), List.getElem?_drop] at h4
  exact h4
theorem at_of {x y : Str} {pre post : List Nat} (h : x.cps.toList = pre ++ (y.cps.toList ++ post)) : At x y x.length pre.length := by
  have hl : x.length = x.cps.toList.length := (Array.length_toList ..).symm
  have hm : y.length = y.cps.toList.length := (Array.length_toList ..).symm
  refine ⟨?_, ?_⟩
  · rw [hl, h]
    simp only [List.length_append]
    omega
  · rw [subAt_eq, h, List.drop_left, hm, List.take_left]
    exact beq_self_eq_true _
theorem sub_of {x p : Str} {pre post : List Nat} {a : Nat} (ha : pre.length = a) (h : x.cps.toList = pre ++ (p.cps.toList ++ post)) : strSub x a (a + p.length) = p := by
  apply Str.ext'
  apply Array.toList_inj.mp
  rw [strSub_toList, h, ← ha, List.drop_left, Nat.add_sub_cancel_left]
  have hm : p.length = p.cps.toList.length := (Array.length_toList ..).symm
  rw [hm, List.take_left]
theorem parts_gl {x y : Str} {c : Nat} {ys : List Nat} (hy : y.cps.toList = c :: ys) : ∀ (ps : List Str) (cuts : List Nat) (pre : List Nat) (f : Nat), ps ≠ [] → (∀ p ∈ ps, c ∉ p.cps.toList) →
    x.cps.toList = pre ++ gl y.cps.toList (ps.map fun p => p.cps.toList) → ChainG x y x.length pre.length cuts f → (∀ k, f ≤ k → ¬ At x y x.length k) → partsFrom x y.length pre.length cuts = ps
  | [], _, _, _, h, _, _, _, _ => absurd rfl h
  | [p], cuts, pre, f, _, hc, hx, ch, hn => by
    have hx' : x.cps.toList = pre ++ (p.cps.toList ++ []) := by rw [List.append_nil]; exact hx
    have hl : x.length = pre.length + p.length := by
      show x.cps.size = pre.length + p.cps.size
      rw [← Array.length_toList, ← Array.length_toList, hx', List.append_nil, List.length_append]
    cases cuts with
    | nil =>
      show [strSub x pre.length x.length] = [p]
      rw [hl, sub_of rfl hx']
    | cons d r =>
      exfalso
      have h1 := at_head hy ch.2.1
      have h2 : pre.length ≤ d := ch.1
      rw [hx', List.append_nil, List.getElem?_append_right h2] at h1
      exact hc p (List.mem_singleton.mpr rfl) (List.mem_of_getElem? h1)
  | p :: q :: r, cuts, pre, f, _, hc, hx, ch, hn => by
    have hx' : x.cps.toList = pre ++ (p.cps.toList ++ (y.cps.toList ++ gl y.cps.toList ((q :: r).map fun p => p.cps.toList))) := by
      rw [hx]
      show pre ++ (p.cps.toList ++ y.cps.toList ++ _) = _
      rw [List.append_assoc]
      rfl
    have pl : p.length = p.cps.toList.length := (Array.length_toList ..).symm
    have yl : y.length = y.cps.toList.length := (Array.length_toList ..).symm
    have hA : At x y x.length (pre.length + p.length) := by
      have := at_of (x := x) (y := y) (pre := pre ++ p.cps.toList) (by rw [hx', List.append_assoc])
      rw [List.length_append, ← pl] at this
      exact this
    have hlow : ∀ k, pre.length ≤ k → k < pre.length + p.length → ¬ At x y x.length k := by
      intro k h1 h2 h3
      have h4 := at_head hy h3
      rw [hx', List.getElem?_append_right h1, List.getElem?_append_left (by omega)] at h4
      exact hc p (List.mem_cons_self ..) (List.mem_of_getElem? h4)
    cases cuts with
    | nil =>
      have e : f = pre.length := ch
      exact absurd hA (hn _ (by omega))
    | cons d s =>
      obtain ⟨h1, h2, h3, h4⟩ := ch
      have hd : d = pre.length + p.length := by
        rcases Nat.lt_trichotomy d (pre.length + p.length) with h | h | h
        · exact absurd h2 (hlow d h1 h)
        · exact h
        · exact absurd hA (h3 _ (by omega) h)
      subst hd
      show strSub x pre.length (pre.length + p.length) :: partsFrom x y.length (pre.length + p.length + y.length) s = _
      rw [sub_of rfl hx']
      have hpl : (pre ++ (p.cps.toList ++ y.cps.toList)).length = pre.length + p.length + y.length := by
        rw [List.length_append, List.length_append, ← pl, ← yl]
        omega
      have ih := parts_gl hy (q :: r) s (pre ++ (p.cps.toList ++ y.cps.toList)) f (fun h => nomatch h) (fun z hz => hc z (List.mem_cons_of_mem _ hz)) (by rw [hx']; simp only [List.append_assoc]) (by rw [hpl]; exact h4) hn
      rw [hpl] at ih
      rw [ih]
theorem split_join {y : Str} {c : Nat} {ys : List Nat} (hy : y.cps.toList = c :: ys) (hk : PySem.Builtin.Str.strKind y = 1) (ps : List Str) (h0 : ps ≠ []) (hc : ∀ p ∈ ps, c ∉ p.cps.toList) : Txt.split (Str.join y ps) y = ps := by
  have h1y : 1 ≤ y.length := by
    show 1 ≤ y.cps.size
    rw [← Array.length_toList, hy]
    exact Nat.succ_le_succ (Nat.zero_le _)
  obtain ⟨f, ch, hn⟩ := occ_tight (Str.join y ps) y h1y
  have key := parts_gl hy ps _ [] f h0 hc (join_gl y ps) ch hn
  have hsub : ∀ x : Str, strSub x 0 x.length = x := sub_whole
  unfold Txt.split
  by_cases a : (decide ((Str.join y ps).length < y.length) || decide (PySem.Builtin.Str.strKind (Str.join y ps) < PySem.Builtin.Str.strKind y)) = true
  · rw [if_pos a]
    have ha : (Str.join y ps).length < y.length := by
      rcases Bool.or_eq_true _ _ ▸ a with h | h
      · exact of_decide_eq_true h
      · have h' := of_decide_eq_true h
        rw [hk] at h'
        have : 1 ≤ PySem.Builtin.Str.strKind (Str.join y ps) := by
          unfold PySem.Builtin.Str.strKind
          split
          · exact Nat.le_refl _
          · split <;> decide
        omega
    match ps, h0, ha with
    | [p], _, _ => rfl
    | p :: q :: r, _, ha =>
      exfalso
      have : (Str.join y (p :: q :: r)).length = p.length + y.length + (Str.join y (q :: r)).length := by
        show (p ++ y ++ Str.join y (q :: r)).length = _
        rw [Str.length_append, Str.length_append]
      omega
  · rw [if_neg a]
    by_cases b : (occurrences (Str.join y ps) y 0 (Str.join y ps).length ((Str.join y ps).length + 1)).isEmpty = true
    · rw [if_pos b]
      rw [List.isEmpty_iff.mp b] at key
      have : [strSub (Str.join y ps) 0 (Str.join y ps).length] = ps := key
      rw [hsub] at this
      exact this
    · rw [if_neg b, partsBetween_eq]
      exact key
end Spl
namespace L2
open PySem PySem.Builtin PySem.Builtin.Str
section
variable {X : Cx} {σ : St} {H : Hp} {Q : VK}
theorem vals_txt : ∀ {ts : List Str} {its : List Value}, Vals (ts.map V.str) its → ∃ l : List (Str × Tok), its = strValues l ∧ l.map (·.1) = ts
  | [], its, r => by
    have := r.zero
    subst this
    exact ⟨[], rfl, rfl⟩
  | z :: ts, its, r => by
    cases r with
    | cons rx rs =>
      obtain ⟨t, rfl⟩ := rx
      obtain ⟨l, rfl, rfl⟩ := vals_txt rs
      exact ⟨(z, t) :: l, rfl, rfl⟩
theorem txt_vals : ∀ (l : List (Str × Tok)), Vals ((l.map (·.1)).map V.str) (strValues l)
  | [] => .nil
  | (z, t) :: l => .cons ⟨t, rfl⟩ (txt_vals l)
noncomputable def rSplit : V → List V → Hp → VK → Prop := fun x xs H Q => ∃ z y : Str, x = .str z ∧ xs = [.str y] ∧ 1 ≤ y.length ∧ z.length + 2 ≤ sizeLine ∧ ∀ l, H l = none → Q (.ref l) (upd H l (.lst ((Txt.split z y).map V.str)))
theorem mt_split : MtR X "str.split" rSplit := by
  intro pins s σ H x xs v us Q I rx rv h
  obtain ⟨z, y, rfl, rfl, hy, hz, q⟩ := h
  obtain ⟨t, rfl⟩ := rx
  obtain ⟨u, rfl, ru⟩ := rv.one
  obtain ⟨t2, rfl⟩ := ru
  have hw := PyProof.Rows.split_weight z y hy
  have fin : ∀ (l : List (Str × Tok)) (k : Nat), l.map (·.1) = Txt.split z y → EP X pins σ Q (.ref s.heap.objs.size) { s with heap := s.heap.push { cls := .type "list", data := .seq (strValues l).toArray }, toks := k } := by
    intro l k e
    refine ⟨.ref s.heap.objs.size, _, I.lnew (t' := k) (ys := (Txt.split z y).map V.str) (by rw [← e]; exact txt_vals l) (by rw [List.length_map]; omega), rfl, q _ I.fresh⟩
  have hy0 : (y.length == 0) = false := by
    cases e : y.length == 0 with
    | false => rfl
    | true => have := eq_of_beq e; omega
  by_cases c1 : (decide (z.length < y.length) || decide (PySem.Builtin.Str.strKind z < PySem.Builtin.Str.strKind y)) = true
  · have e1 : Txt.split z y = [z] := if_pos c1
    exact call_meets F.slot_str_split (typeIs_str _ _ _) F.entry_str_split (F.args_str_split_2 _ _) (meets_str_split_cannot_occur z y t t2 c1) (fin [(z, t)] s.toks e1.symm)
  · by_cases c2 : (occurrences z y 0 z.length (z.length + 1)).isEmpty = true
    · have e1 : Txt.split z y = [z] := (if_neg c1).trans (if_pos c2)
      exact call_meets F.slot_str_split (typeIs_str _ _ _) F.entry_str_split (F.args_str_split_2 _ _) (meets_str_split_not_found z y t t2 (Bool.eq_false_iff.mpr c1) hy0 c2) (fin [(z, t)] s.toks e1.symm)
    · have e1 : Txt.split z y = partsBetween z (occurrences z y 0 z.length (z.length + 1)) y.length := (if_neg c1).trans (if_neg c2)
      have hq := fin (numbered s.toks (Txt.split z y))
      refine call_meets F.slot_str_split (typeIs_str _ _ _) F.entry_str_split (F.args_str_split_2 _ _) (meets_str_split_sep z y t t2 (Bool.eq_false_iff.mpr c1) hy0 (Bool.eq_false_iff.mpr c2) (by omega) (by rw [← e1]; omega)) ?_
      rw [← e1, strsFrom_eq]
      exact hq _ (numbered_texts _ _)
noncomputable def rJoin (K : PySem.W.Frag) : V → List V → Hp → VK → Prop := fun x xs H Q => ∃ (z : Str) (p : Addr) (ts : List Str), x = .str z ∧ xs = [.ref p] ∧ SqL K H p (ts.map V.str) ∧ (ts.map (·.length)).sum + ts.length ≤ 100000 ∧ z.length ≤ 16 ∧ Q (.str (Str.join z ts)) H
theorem mt_join : MtR X "str.join" (rJoin X.K) := by
  intro pins s σ H x xs v us Q I rx rv h
  obtain ⟨z, p, ts, rfl, rfl, hp, hw, hz, q⟩ := h
  obtain ⟨t, rfl⟩ := rx
  obtain ⟨u, rfl, ru⟩ := rv.one
  cases ru
  obtain ⟨its, ri, pl, _⟩ := I.list hp
  obtain ⟨l, rfl, hl⟩ := vals_txt ri
  refine SC.join (l := l) pl.isList hl (PyProof.Rows.joinOk_of_weight (by omega) hz) fun t' k => ?_
  refine ⟨.str (Str.join z ts), _, I.tok k, ⟨t', ?_⟩, q⟩
  show Value.str (glued z ts) t' = _
  rw [StrLaws.glued_eq_join]
theorem mt_ends : MtR X "str.endswith" (fun x xs H Q => ∃ z y : Str, x = .str z ∧ xs = [.str y] ∧ Q (.bl (Txt.endswith z y)) H) := by
  intro pins s σ H x xs v us Q I rx rv h
  obtain ⟨z, y, rfl, rfl, q⟩ := h
  obtain ⟨t, rfl⟩ := rx
  obtain ⟨u, rfl, ru⟩ := rv.one
  obtain ⟨t2, rfl⟩ := ru
  exact SC.endswith ⟨.bl (Txt.endswith z y), H, I, rfl, q⟩
theorem draw_rest {P : Program} {w : World} {A : Around} {E : Value → Shared → Prop} {s : Shared} {l : Addr} {v0 : Value} {vs : List Value} {R : List Value → Shared → Prop} (hl : s.heap.IsList l (v0 :: vs).toArray) (hh : A.handled = none) (hz : vs.length ≤ 10000)
    (h : ∀ (h' : Heap) (tk : Nat), (∀ b o, s.heap.get? b = some o → h'.get? b = some o) → R [v0, .ref h'.objs.size] { s with heap := h'.push { cls := .type "list", data := .seq vs.toArray }, toks := tk }) :
    wpAny (model P w) A (unpackItems (.ref l) 2 (some 1)) R E s := by
  have ll : l < s.heap.objs.size := let ⟨_, ho, _⟩ := hl; Heap.lt_size ho
  have ne : l ≠ s.heap.objs.size := Nat.ne_of_lt ll
  have sz : (v0 :: vs).toArray.size = vs.length + 1 := rfl
  unfold unpackItems notIterableAtAll
  refine wpAny_bind (wpAny_bind (wpAny_specialOf hl.typeIs slot_list_iter.lookup (wpAny_pure ?_)))
  rw [if_neg Bool.false_ne_true]
  refine wpAny_bind (wpAny_holding (wpAny_pyIter_list hl (wpAny_bind (wpAny_holding (PySem.W.kun_draw ne 1 0 _ _ ⟨_, Heap.get?_push_size _ rfl, rfl, rfl⟩ (hl.push _) (by rw [sz]; omega) fun ha ia sa => ?_)))))
  have la : ha.IsList l (v0 :: vs).toArray := (hl.push _).extBut sa.extBut ne
  have ia2 := ia
  obtain ⟨_, oi, _⟩ := ia2
  have la2 := la
  obtain ⟨_, ol, _⟩ := la2
  rw [if_neg (by show ¬ (1 < 1); omega)]
  refine wpAny_bind (wpAny_holding (PySem.W.kun_collect (s := { s with heap := ha }) (T := "list_iterator") (.inr (.inr (.inl rfl))) (Walks.list (A := A.in1) hh s.heap.objs.size l ne (v0 :: vs).toArray) (fun _ _ st => st.1.typeIs) (k := 1) (by rw [sz]; omega) ⟨ia, la⟩ (Heap.lt_size oi) (Heap.lt_size ol) (fun hb tk kb => ?_) (by rw [sz, sizeLine_eq]; omega)))
  have ed : (v0 :: vs).toArray.toList.drop 1 = vs := rfl
  rw [ed]
  show wpAny _ _ (if vs.length < 0 then _ else _) _ _ _
  rw [if_neg (Nat.not_lt_zero _)]
  show wpAny _ _ (newList (vs.take (vs.length - 0)) >>= fun d => pure (List.take 1 (v0 :: vs) ++ [d] ++ vs.drop (vs.length - 0))) _ _ _
  rw [Nat.sub_zero, List.take_length, List.drop_length]
  refine wpAny_bind (wpAny_newList (wpAny_pure ?_) (by rw [sizeLine_eq]; omega))
  exact h hb tk fun b o e => kb b o (Nat.ne_of_lt (Heap.lt_size e)) (sa.extBut b o (Nat.ne_of_lt (Heap.lt_size e)) (Heap.get?_push_of_some _ e))
theorem eg_star {e1 e2 : Expr} {k : Nat} {p2 pos : Pos} {l : Addr} {x : V} {xs : List V} {R : St → Hp → Prop} (hc : X.calm = true) (hl : SqL X.K H l (x :: xs)) (hz : xs.length ≤ 10000)
    (h : ∀ D, H D = none → Eg X e1 x σ (upd H D (.lst xs)) fun σ1 H1 => Eg X e2 (.ref D) σ1 H1 R)
    (hn : (assignEach [e1, .Starred e2 p2] X.env).length = 2 := by rfl) (hst : (assignEach [e1, .Starred e2 p2] X.env).findIdx? (·.1) = some 1 := by rfl)
    (hs : (assignEach [e1, .Starred e2 p2] X.env).map (·.2) = [assign e1 X.env, assign e2 X.env] := by rfl) : Eg X (.Tuple [e1, .Starred e2 p2] k pos) (.ref l) σ H R := by
  refine ⟨fun pins s u I r => ?_⟩
  cases r
  obtain ⟨its, rv, pl, _⟩ := I.list hl
  cases rv with
  | cons r0 rs =>
    show wpAny _ _ (do standAt pos; unpack (.ref l) (assignEach [e1, .Starred e2 p2] X.env)) _ _ _
    refine wpAny_bind (wpAny_standAt ?_)
    unfold unpack
    rw [hn, hst, hs]
    refine wpAny_bind (wpAny_holding (draw_rest pl.isList (I.ok.hd hc) (by rw [← rs.length]; exact hz) fun h' tk kp => ?_))
    have I1 : Inv X pins σ H { s with heap := h', toks := tk } := I.kept kp
    have I2 := I1.lnew (t' := tk) rs (by rw [sizeLine_eq]; omega)
    refine PyProof.Rows.assignInOrder_cons (thn ((h _ I1.fresh).run pins _ _ I2 r0) fun _ s3 ⟨σ3, H3, I3, q3⟩ => ?_)
    refine PyProof.Rows.assignInOrder_cons (thn (q3.run pins _ _ I3 rfl) fun _ s4 ⟨σ4, H4, I4, q4⟩ => ?_)
    exact wpAny_pure ⟨σ4, H4, I4, q4⟩
end
end L2
namespace PySem
section
variable {P : Program} {w : World} {A : Around} {E : Value → Shared → Prop} {s : Shared}
end
end PySem
namespace L2
open PySem PySem.Spec PyProof.Rows
section
variable {X : Cx} {pins : List (Addr × Obj)} {σ : St} {H : Hp} {s : Shared}
end
section
variable {X : Cx}
end
section
variable {X : Cx} {tg : Expr} {ifs : List Expr} {inner : Sem Unit} {σ : St} {H : Hp} {d : Addr} {o : Obj} {kvs : List (List Key × V)} {after : St → Hp → Prop}
end
end L2
namespace L2
open PySem PySem.Spec PyProof.Rows SetT
section
variable {X : Cx} {σ : St} {H : Hp} {Q : VK}
end
section
variable {prog : Program} {w : World} {A : Around} {E : Value → Shared → Prop} {s : Shared}
end
section
variable {X : Cx} {σ : St} {H : Hp} {Q : VK}
end
end L2
namespace Sort3
open PySem PySem.W PyProof.Rows
section
variable {lt : Nat → Nat → Bool} {cmp : Nat → Nat → (Bool → Shared → Prop) → Shared → Prop} {J : Shared → Prop} {n : Nat}
end
end Sort3
namespace Sort3
open PySem PySem.W PyProof.Rows
section
variable {prog : Program} {w : World} {A : Around} {E : Value → Shared → Prop} {s : Shared}
end
end Sort3
namespace L2
open PySem PySem.Spec PyProof.Rows Sort3
section
variable {X : Cx} {σ : St} {H : Hp}
theorem eg_triple {e1 e2 e3 : Expr} {k : Nat} {pos : Pos} {t : Addr} {x y z : V} {R : St → Hp → Prop} (hc : X.calm = true) (ht : SqT X.K H t [x, y, z]) (h : Eg X e1 x σ H fun σ1 H1 => Eg X e2 y σ1 H1 fun σ2 H2 => Eg X e3 z σ2 H2 R)
    (hn : (assignEach [e1, e2, e3] X.env).length = 3 := by rfl) (hst : (assignEach [e1, e2, e3] X.env).findIdx? (·.1) = none := by rfl)
    (hs1 : (assignEach [e1, e2, e3] X.env).map (·.2) = assign e1 X.env :: (assignEach [e2, e3] X.env).map (·.2) := by rfl) (hs2 : (assignEach [e2, e3] X.env).map (·.2) = assign e2 X.env :: (assignEach [e3] X.env).map (·.2) := by rfl) (hs3 : (assignEach [e3] X.env).map (·.2) = assign e3 X.env :: (assignEach [] X.env).map (·.2) := by rfl) :
    Eg X (.Tuple [e1, e2, e3] k pos) (.ref t) σ H R :=
  eg_of (pg_tup (t := gCons (fun v σ H Q => Eg X e1 v σ H Q) (gCons (fun v σ H Q => Eg X e2 v σ H Q) (gCons (fun v σ H Q => Eg X e3 v σ H Q) gNil))) hc (pgs_cons pg_eg (pgs_cons pg_eg (pgs_cons pg_eg pgs_nil hs3) hs2) hs1) hn hst)
    ⟨t, _, rfl, ht, rfl, _, _, rfl, h.mono fun σ1 H1 h1 => ⟨_, _, rfl, h1.mono fun σ2 H2 h2 => ⟨_, _, rfl, h2.mono fun σ3 H3 q => ⟨rfl, q⟩⟩⟩⟩
end
end L2
namespace L2
open PySem PySem.Spec PyProof.Rows
section
variable {X : Cx} {σ : St} {H : Hp} {Q : VK}
end
end L2
namespace L2
open PySem PySem.Spec PyProof.Rows SetT
section
variable {prog : Program} {w : World} {A : Around} {E : Value → Shared → Prop} {s : Shared} {T : String} {r d : Addr} {n : Nat} {P : Nat → Value → Prop} {OK : Heap → Prop}
end
section
variable {X : Cx}
end
end L2
namespace L2
open PySem PySem.Spec PyProof.Rows
section
end
section
variable {X : Cx}
end
end L2
namespace L2
open PySem PySem.Spec PyProof.Rows
section
variable {X : Cx}
end
end L2
namespace L2
open PySem PySem.Spec PyProof.Rows
section
variable {X : Cx} {σ : St} {H : Hp} {D : Ends} {body : List Stmt}
end
end L2
namespace L2
open PySem PySem.Spec PyProof.Rows
section
variable {X : Cx} {σ : St} {H : Hp} {D : Ends} {body rest : List Stmt} {a b : Expr}
end
end L2
namespace SetT
open PySem SetTable
end SetT
namespace SetT
open PySem SetTable
section
variable {t : SetTable} {es : Array (Int × Value)} {Z : List Ze}
end
end SetT
namespace SetT
open PySem SetTable
section
variable {prog : Program} {w : World} {K : Type} [DecidableEq K]
variable {A : Around} {E : Value → Shared → Prop} {s : Shared} {a b : Addr} {knd : HeapKind prog w K} {k : K} {Y : List (Nat × K × Addr)}
end
end SetT
namespace SetT
open PySem SetTable
section
variable {prog : Program} {w : World} {K : Type} [DecidableEq K]
variable {A : Around} {E : Value → Shared → Prop} {s : Shared} {a b : Addr} {knd : HeapKind prog w K} {k : K} {Y : List (Nat × K × Addr)}
end
section
variable {prog : Program} {w : World} {K : Type} [DecidableEq K] {knd : KeyKind prog w K}
end
end SetT
namespace L2
open PySem PySem.Spec PyProof.Rows SetT
open Classical
section
variable {prog : Program} {w : World} {A : Around} {E : Value → Shared → Prop} {s : Shared} {a b : Addr} {Y : List Yt} {k : List Key}
end
section
variable {X : Cx} {σ : St} {H : Hp} {Q : VK} {pins : List (Addr × Obj)} {s : Shared} {a b : Addr} {Y : List Yt}
end
end L2
namespace L2
open PySem PySem.Spec PyProof.Rows
section
variable {X : Cx} {σ : St} {H : Hp} {Q : VK}
end
section
variable {X : Cx} {elt tg : Expr} {ifs : List Expr} {scope : Scope} {σ : St} {H : Hp} {N' : List Str} {A a : Addr} {xs : List V} {after : Hp → Prop}
end
end L2
namespace T8
open PySem L2
noncomputable def top (i : Nat) : Stmt := PySem.Challenge.pw_threewebs_k81_texts_judged.main.body.getD i (.Pass ⟨0, 0, 0, 0⟩)
noncomputable abbrev sIs : Stmt := top 19
noncomputable abbrev sRead : Stmt := top 21
noncomputable abbrev sRRow : Stmt := top 22
noncomputable abbrev sCell : Stmt := top 24
noncomputable abbrev sBig : Stmt := top 25
noncomputable abbrev s_l_same : Stmt := top 26
noncomputable abbrev s_l_which : Stmt := top 27
noncomputable abbrev sDigit : Stmt := top 28
noncomputable abbrev sWord : Stmt := top 29
noncomputable abbrev sSign : Stmt := top 30
noncomputable abbrev sText : Stmt := top 31
noncomputable abbrev sOdd : Stmt := top 32
noncomputable abbrev s_l_is_good : Stmt := top 33
noncomputable abbrev sDue : Stmt := top 34
noncomputable abbrev s_l_asked : Stmt := top 35
noncomputable abbrev sLaw : Stmt := top 36
noncomputable abbrev lets : Str := "abcdefghijklmnopqrstuvwxyz0123456789"
structure Txt (mg : Str → Option Value) : Prop where
  isi : mg "isinstance" = none
  tstr : mg "str" = none
  ttuple : mg "tuple" = none
  tlist : mg "list" = none
  len : mg "len" = none
  all : mg "all" = none
  range : mg "range" = none
  vale : mg "ValueError" = none
  signs : ∃ u, mg "SIGNS" = some u ∧ RelV (.str lets) u
  most : ∃ u, mg "LONGEST" = some u ∧ RelV (.int 8) u
end T8
namespace T8
open PySem L2 Nt Sort2
theorem small {n : Nat} (h : n ≤ 100000) : n ≤ sizeLine := by rw [sizeLine_eq]; omega
theorem small' {n : Nat} (h : n ≤ 100000) : n < sizeLine := by rw [sizeLine_eq]; omega
theorem same_new {H : Hp} {p : Addr} (h : H p = none) (o : HO) : Same H (upd H p o) := fun b u q => by rw [upd_ne (ne_of_none q h)]; exact q
theorem same_mut {H1 H2 : Hp} {r : Addr} {o : HO} (s : Same H1 H2) (h : H1 r = none) : Same H1 (upd H2 r o) := fun b u q => by
  rw [upd_ne (ne_of_none q h)]
  exact s _ _ q
theorem len_app (x y : Str) : (x ++ y).length = x.length + y.length := by
  show (x.cps ++ y.cps).size = x.cps.size + y.cps.size
  exact Array.size_append ..
noncomputable def spCell (K : PySem.W.Frag) : Sp := fun vs H Q _ => ∃ (a : Addr) (ns : List Int) (k : Int), vs = [.ref a, .int k] ∧ SqL K H a (ns.map V.int) ∧ 0 ≤ k ∧ ∀ i, Q (.int i) H
noncomputable def spBig (K : PySem.W.Frag) : Sp := fun vs H Q _ => ∃ (a : Addr) (ns : List Int) (k : Int), vs = [.ref a, .int k] ∧ SqL K H a (ns.map V.int) ∧ 0 ≤ k ∧ ∀ i H', Same H H' → Q (.int i) H'
section
variable {P : Program} {w : World} {K : PySem.W.Frag} {mg : Str → Option Value} {base : Heap}
theorem scCell : FnScope ["_law_script", "_law_k"] ["_law_script", "_law_k"] (defScope sCell) := ⟨rfl, rfl, rfl, by decide +kernel, rfl, by decide +kernel, by decide +kernel⟩
theorem at_ints {ns : List Int} {k : Int} (h0 : 0 ≤ k) (h1 : k < (ns.length : Int)) : ∃ v : Int, atI (ns.map V.int) k = some (.int v) := by
  have hj : k.toNat < ns.length := by omega
  have q := atI_nat (xs := ns.map V.int) (j := k.toNat) (v := .int ns[k.toNat]) (by simp [hj])
  rw [show ((k.toNat : Nat) : Int) = k by omega] at q
  exact ⟨_, q⟩
theorem ok_cell {f : Addr} {fd : FuncData} (F : Fun K "_law_cell_at" "_law_cell_at" sCell f fd) (T : Txt mg) : FnOk P w K mg base CX0 1 f fd ["_law_script", "_law_k"] (spCell K) := by
  refine F.gb scCell (fun vs H Q E h => ?_) (fun b0 H vs Q E hr h => ?_)
  · obtain ⟨a, ns, k, rfl, _⟩ := h
    rfl
  obtain ⟨a, ns, k, rfl, hS, h0, q⟩ := h
  show Run _ _ _ [some (.ref a), some (.int k)] H
  refine run_if (et_cmp op_lt (ev_v 1 (ev_blt call_len_seq T.len boot_len (ea_cons (ev_v 0 (ea_nil ⟨a, _, rfl, .inl hS, _, _, rfl, rfl, _, rfl, ?_⟩))))))
  refine ite2 (fun c => ?_) (fun c => ?_)
  · have c' := of_decide_eq_true c
    obtain ⟨v, hv⟩ := at_ints (ns := ns) h0 (by rw [List.length_map] at c'; exact c')
    exact run_ret (ev_ix ix_list (ev_v 0 (ev_v 1 ⟨a, _, _, .int v, rfl, rfl, hS, hv, q v⟩)))
  · exact run_nil (run_ret (ev_int (q 0)))
noncomputable abbrev bys : List V := [.int 48271, .int 69621, .int 16807, .int 39373, .int 21401, .int 60493, .int 87721, .int 31337]
noncomputable abbrev prs : List V := [.int 99991, .int 99989, .int 99971, .int 99961, .int 99929, .int 99923, .int 99907, .int 99901]
theorem eight {i : Int} (h0 : 0 ≤ i) (h1 : i < 8) : i = 0 ∨ i = 1 ∨ i = 2 ∨ i = 3 ∨ i = 4 ∨ i = 5 ∨ i = 6 ∨ i = 7 := by omega
theorem at_bys {i : Int} (h0 : 0 ≤ i) (h1 : i < 8) : ∃ m : Int, atI bys i = some (.int m) ∧ 0 < m ∧ m < 100000 := by
  rcases eight h0 h1 with rfl | rfl | rfl | rfl | rfl | rfl | rfl | rfl <;> exact ⟨_, rfl, by decide, by decide⟩
theorem at_prs {i : Int} (h0 : 0 ≤ i) (h1 : i < 8) : ∃ m : Int, atI prs i = some (.int m) ∧ 0 < m ∧ m < 100000 := by
  rcases eight h0 h1 with rfl | rfl | rfl | rfl | rfl | rfl | rfl | rfl <;> exact ⟨_, rfl, by decide, by decide⟩
theorem scBig : FnScope ["_law_script", "_law_at", "_law_by", "_law_prime", "_law_cell", "_law_big_here", "_law_k", "_law_one"] ["_law_script", "_law_at"] (defScope sBig) := ⟨rfl, rfl, rfl, by decide +kernel, rfl, by decide +kernel, by decide +kernel⟩
theorem ok_big {f : Addr} {fd : FuncData} (F : Fun K "_law_big" "_law_big" sBig f fd) (T : Txt mg) (G : Has P w K mg base 1 "_law_cell_at" ["_law_script", "_law_k"] (spCell K)) :
    FnOk P w K mg base CX0 2 f fd ["_law_script", "_law_at"] (spBig K) := by
  refine F.gb scBig (fun vs H Q E h => ?_) (fun b0 H vs Q E hr h => ?_)
  · obtain ⟨a, ns, k, rfl, _⟩ := h
    rfl
  obtain ⟨a, ns, k, rfl, hS, h0, q⟩ := h
  have nd := scBig.nd
  show Run _ _ _ [some (.ref a), some (.int k), none, none, none, none, none, none] H
  refine run_set 2 nd (ev_tup (ea_cons (ev_int (ea_cons (ev_int (ea_cons (ev_int (ea_cons (ev_int (ea_cons (ev_int (ea_cons (ev_int (ea_cons (ev_int (ea_cons (ev_int (ea_nil ⟨(by show 8 ≤ sizeLine; decide), fun p hp => ?_⟩))))))))))))))))))
  refine run_set 3 nd (ev_tup (ea_cons (ev_int (ea_cons (ev_int (ea_cons (ev_int (ea_cons (ev_int (ea_cons (ev_int (ea_cons (ev_int (ea_cons (ev_int (ea_cons (ev_int (ea_nil ⟨(by show 8 ≤ sizeLine; decide), fun p2 hp2 => ?_⟩))))))))))))))))))
  have npp : p ≠ p2 := by
    intro e
    rw [← e, upd_same] at hp2
    cases hp2
  have s1 : Same H (upd H p (.tup bys)) := same_new hp _
  have s2 : Same H (upd (upd H p (.tup bys)) p2 (.tup prs)) := s1.trans (same_new hp2 _)
  have e1 : (upd (upd H p (.tup bys)) p2 (.tup prs)) p = some (.tup bys) := by rw [upd_ne npp, upd_same]
  have e2 : (upd (upd H p (.tup bys)) p2 (.tup prs)) p2 = some (.tup prs) := upd_same
  generalize upd (upd H p (.tup bys)) p2 (.tup prs) = H2 at s2 e1 e2 ⊢
  refine run_set 4 nd (ev_has G hr (ea_cons (ev_v 0 (ea_cons (ev_v 1 (ea_nil ⟨a, ns, k, rfl, s2.seq hS, h0, fun b => ?_⟩))))))
  show Run _ _ _ [some (.ref a), some (.int k), some (.ref p), some (.ref p2), some (.int b), none, none, none] H2
  refine run_ifJ True True (fun R qq => ?_) (fun _ => ?_) (fun _ => run_nil ?_)
  · refine et_bool (ew_and (et_cmp op_eq (ev_op op_mod (ev_v 4 (ev_int ⟨_, _, rfl, rfl, (by show (0 : Int) < 2; decide), ev_int ⟨rfl, _, rfl, ?_⟩⟩)))))
    refine ite2 (fun c => ?_) (fun c => qq false (fun z => nomatch z) fun _ => trivial)
    exact ew_and1 (et_cmp op_gt (ev_v 4 (ev_op op_pow (ev_int (ev_int ⟨_, _, rfl, rfl, ⟨by decide, by decide, by decide⟩, _, _, rfl, rfl, _, rfl, qq _ (fun _ => trivial) fun _ => trivial⟩)))))
  · exact run_ret (ev_op op_fdiv (ev_v 4 (ev_int ⟨_, _, rfl, rfl, ⟨by decide, by decide⟩, q _ _ s2⟩)))
  refine run_set 5 nd (ev_int ?_)
  refine run_forR1 T.range (ev_int ⟨60, rfl, by decide, by decide, loop_range (n := 60) (fun _ σ H3 => H3 = H2 ∧ ∃ (x : Int) (u v : Option V), σ = [some (.ref a), some (.int k), some (.ref p), some (.ref p2), some (.int b), some (.int x), u, v]) ⟨rfl, 0, _, _, rfl⟩ ?_ ?_⟩)
  · rintro i σ H3 hi ⟨rfl, x, u, v, rfl⟩
    have i9 : 0 ≤ (0 + (i : Int)) % 9 := Int.emod_nonneg _ (by decide)
    obtain ⟨m1, f1, g1, g2⟩ := at_bys (i := (0 + (i : Int)) % 8) (Int.emod_nonneg _ (by decide)) (Int.emod_lt_of_pos _ (by decide))
    obtain ⟨m2, f2, g3, g4⟩ := at_prs (i := (0 + (i : Int)) % 8) (Int.emod_nonneg _ (by decide)) (Int.emod_lt_of_pos _ (by decide))
    refine eg_name 6 nd ?_
    refine run_set 7 nd (ev_op op_add (ev_op op_add (ev_op op_mod (ev_has G hr (ea_cons (ev_v 0 (ea_cons (ev_op op_add (ev_v 1 (ev_op op_mod (ev_v 6 (ev_int ?_))))))))))))
    refine ⟨_, _, rfl, rfl, (by show (0 : Int) < 9; decide), _, _, rfl, rfl, ea_nil ⟨a, ns, _, rfl, s2.seq hS, ?_, fun c => ?_⟩⟩
    · show 0 ≤ k + (0 + (i : Int)) % 9
      omega
    refine ev_op op_pow (ev_int (ev_int ⟨_, _, rfl, rfl, ⟨by decide, by decide, by decide⟩, _, _, rfl, rfl, (by show (0 : Int) < 10 ^ (18 : Int).toNat; decide), ev_int ⟨_, _, rfl, rfl, ?_⟩⟩))
    refine ev_op op_mul (ev_v 6 (ev_v 6 ?_))
    refine ⟨_, _, rfl, rfl, .inl ⟨by omega, by omega⟩, _, _, rfl, rfl, ?_⟩
    refine run_set 5 nd (ev_op op_add (ev_op op_mul (ev_v 5 (ev_int ⟨_, _, rfl, rfl, .inr ⟨by decide, by decide⟩, ?_⟩))))
    refine ev_op op_mod (ev_op op_mod (ev_op op_mul (ev_v 7 (ev_ix ix_tup (ev_v 2 (ev_op op_mod (ev_v 6 (ev_int ⟨_, _, rfl, rfl, (by show (0 : Int) < 8; decide), p, _, _, _, rfl, rfl, SqT.of e1, f1, _, _, rfl, rfl, .inr ⟨by omega, by omega⟩, ?_⟩))))))))
    refine ev_ix ix_tup (ev_v 3 (ev_op op_mod (ev_v 6 (ev_int ⟨_, _, rfl, rfl, (by show (0 : Int) < 8; decide), p2, _, _, _, rfl, rfl, SqT.of e2, f2, _, _, rfl, rfl, g3, ev_int ⟨_, _, rfl, rfl, (by show (0 : Int) < 7919; decide), _, _, rfl, rfl, ?_⟩⟩))))
    exact run_nil ⟨rfl, _, _, _, rfl⟩
  · rintro σ H3 ⟨rfl, x, u, v, rfl⟩
    exact run_ret (ev_v 5 (q x _ s2))
end
end T8
namespace T8
open PySem L2 Nt Sort2
noncomputable def okc (c : Nat) : Bool := decide (c ∈ lets.cps.toList)
noncomputable def isNm (z : Str) : Bool := decide (1 ≤ z.length ∧ z.length ≤ 8) && z.cps.toList.all okc
noncomputable def spIs (K : PySem.W.Frag) : Sp := fun vs H Q _ => ∃ v, vs = [v] ∧
  ((∃ z, v = .str z ∧ z.length ≤ 100000 ∧ ∀ H', Same H H' → Q (.bl (isNm z)) H') ∨ ∃ t, TyOf K H v t ∧ PySem.W.kitOne K t (.type "str") = some false ∧ Q (.bl false) H)
theorem kit_str (K : PySem.W.Frag) : PySem.W.kitOne K (.type "str") (.type "str") = some true := by rfl
section
variable {P : Program} {w : World} {K : PySem.W.Frag} {mg : Str → Option Value} {base : Heap}
theorem scIs : FnScope ["thing"] ["thing"] (defScope sIs) := ⟨rfl, rfl, rfl, by decide +kernel, rfl, by decide +kernel, by decide +kernel⟩
theorem ok_is {f : Addr} {fd : FuncData} (F : Fun K "is_name" "is_name" sIs f fd) (T : Txt mg) : FnOk P w K mg base CX0 1 f fd ["thing"] (spIs K) := by
  refine F.gb scIs (fun vs H Q E h => ?_) (fun b0 H vs Q E hr h => ?_)
  · obtain ⟨v, rfl, _⟩ := h
    rfl
  obtain ⟨us, hs, rs⟩ := T.signs
  obtain ⟨um, hm, rm⟩ := T.most
  obtain ⟨v, rfl, h⟩ := h
  show Run _ _ _ [some v] H
  refine run_if (et_not (et_val (ev_blt call_isi T.isi PyProof.Rows.boot_isinstance (ea_cons (ev_v 0 (ea_cons (ev_bltn (.ty "str") T.tstr PyProof.Rows.boot_str rfl (ea_nil ?_))))))))
  rcases h with ⟨z, rfl, hz, q⟩ | ⟨t, ty, e, q⟩
  · refine ⟨_, _, _, true, rfl, .str z, kit_str K, true, rfl, iteF (run_nil ?_)⟩
    refine run_if (et_bool (ew_or (et_cmp op_lt (ev_blt call_len_str T.len boot_len (ea_cons (ev_v 0 (ea_nil ⟨z, rfl, small hz, ev_int ⟨_, _, rfl, rfl, _, rfl, ?_⟩⟩)))))))
    refine ite2 (fun c => ?_) (fun c => ?_)
    · have c' := of_decide_eq_true c
      have e : isNm z = false := by
        unfold isNm
        rw [decide_eq_false (by omega)]; rfl
      refine iteT (run_ret (ev_bl ?_))
      have := q H (Same.refl H)
      rw [e] at this
      exact this
    · have c' : ¬ ((z.length : Int) < 1) := fun h => c (decide_eq_true h)
      refine ew_or1 (et_cmp op_gt (ev_blt call_len_str T.len boot_len (ea_cons (ev_v 0 (ea_nil ⟨z, rfl, small hz, ev_glob hm rm ⟨_, _, rfl, rfl, _, rfl, ?_⟩⟩)))))
      refine ite2 (fun d => ?_) (fun d => ?_)
      · have d' := of_decide_eq_true d
        have e : isNm z = false := by
          unfold isNm
          rw [decide_eq_false (by omega)]; rfl
        refine run_ret (ev_bl ?_)
        have := q H (Same.refl H)
        rw [e] at this
        exact this
      · have d' : ¬ ((8 : Int) < (z.length : Int)) := fun h => d (decide_eq_true h)
        refine run_nil (run_ret (ev_blt (call_allB rfl) T.all PyProof.Rows.boot_all (ea_cons (ev_comp (defScope sIs) ["thing"] ["thing", "sign"] 1 (pi_str pe_ev) ?_))))
        refine ev_v 0 ⟨z, rfl, fun D hD => ?_⟩
        refine comp_strL (x := "sign") (σ := [some (.str z)]) (fun c => .bl (okc c)) (small' (n := z.cps.size) (by have : z.cps.size = z.length := rfl; omega)) (fun _ _ _ _ _ v v0 H' R hR => eg_name 1 (show (["thing", "sign"] : List Str).Nodup by decide +kernel) hR) (fun _ _ _ _ _ c H' R _ hR => ?_) ?_
        · refine ev_cmp op_in_str (ev_v 1 (ev_glob hs rs ⟨_, _, rfl, rfl, ?_⟩))
          rw [StrLaws.found_one]
          exact hR
        · refine ea_nil ⟨D, z.cps.toList.map okc, rfl, SqL.of (by rw [upd_same, List.map_map]; rfl), ?_⟩
          have e : isNm z = (z.cps.toList.map okc).all id := by
            unfold isNm
            rw [decide_eq_true (by omega), Bool.true_and, List.all_map]; rfl
          have := q _ (same_new hD (.lst (z.cps.toList.map fun c => V.bl (okc c))))
          rw [e] at this
          exact this
  · exact ⟨_, t, _, false, rfl, ty, e, false, rfl, iteT (run_ret (ev_bl q))⟩
end
end T8
namespace T8
open PySem L2 Nt PySem.Builtin PySem.Builtin.Str PySem.StrLaws
theorem pieces (c : Nat) : ∀ l : List Nat, ∃ p ps, (∀ q ∈ p :: ps, c ∉ q) ∧ l = Spl.gl [c] (p :: ps)
  | [] => ⟨[], [], fun q hq => by rw [List.mem_singleton.mp hq]; exact List.not_mem_nil, rfl⟩
  | a :: l => by
    obtain ⟨p, ps, h, e⟩ := pieces c l
    by_cases ha : a = c
    · refine ⟨[], p :: ps, fun q hq => ?_, by rw [ha, e]; rfl⟩
      rcases List.mem_cons.mp hq with rfl | hq
      · exact List.not_mem_nil
      · exact h q hq
    · refine ⟨a :: p, ps, fun q hq => ?_, ?_⟩
      · rcases List.mem_cons.mp hq with rfl | hq
        · intro hm
          rcases List.mem_cons.mp hm with z | z
          · exact ha z.symm
          · exact h p (List.mem_cons_self ..) z
        · exact h q (List.mem_cons_of_mem _ hq)
      · rw [e]
        cases ps <;> rfl
theorem str_of {x y : Str} (h : x.cps.toList = y.cps.toList) : x = y := Str.ext' (Array.toList_inj.mp h)
theorem blanks (z : Str) : ∃ h ts, (∀ p ∈ h :: ts, 32 ∉ p.cps.toList) ∧ z = Str.join " " (h :: ts) := by
  obtain ⟨p, ps, hc, e⟩ := pieces 32 z.cps.toList
  refine ⟨⟨p.toArray⟩, ps.map fun q => ⟨q.toArray⟩, fun q hq => ?_, str_of ?_⟩
  · rcases List.mem_cons.mp hq with rfl | hq
    · exact hc p (List.mem_cons_self ..)
    · obtain ⟨r, hr, rfl⟩ := List.mem_map.mp hq
      exact hc r (List.mem_cons_of_mem _ hr)
  · rw [e, Spl.join_gl, List.map_cons, List.map_map]
    have : (fun p : Str => p.cps.toList) ∘ (fun q : List Nat => (⟨q.toArray⟩ : Str)) = _root_.id := by funext q; rfl
    rw [this, List.map_id]
    rfl
theorem split_blank {t : Str} {ps : List Str} (h : ∀ p ∈ t :: ps, 32 ∉ p.cps.toList) : Txt.split (Str.join " " (t :: ps)) " " = t :: ps :=
  Spl.split_join (c := 32) (ys := []) (by rfl) (by decide +kernel) _ (fun z => nomatch z) h
noncomputable def rowOf (p : Str) : Option (Str × List Str) := match Txt.split p " " with
  | [] => none
  | h :: ts => if (Txt.endswith h ":" && isNm (Txt.slice h none (some (-1))) && ts.all isNm) = true then some (Txt.slice h none (some (-1)), ts) else none
theorem app_list (x y : Str) : (x ++ y).cps.toList = x.cps.toList ++ y.cps.toList := by rw [Str.cps_append, Array.toList_append]
theorem slice_point (p : Str) : Txt.slice (p ++ ":") none (some (-1)) = p := by
  have hl : (p ++ ":").length = p.length + 1 := by rw [len_app]; rfl
  have e := StrLaws.sliceText_to_neg (x := p ++ ":") (j := -1) (by decide) (by rw [hl]; omega)
  have e2 : Txt.slice (p ++ ":") none (some (-1)) = StrLaws.sliceText (p ++ ":") none (some (-1)) := rfl
  rw [e2, e]
  apply str_of
  show (((p ++ ":").cps.toList.drop 0).take (-1 + ((p ++ ":").length : Int) - 0).toNat) = p.cps.toList
  rw [hl, List.drop_zero, Str.cps_append, Array.toList_append]
  have : (-1 + ((p.length + 1 : Nat) : Int) - 0).toNat = p.cps.toList.length := by
    have : p.cps.toList.length = p.length := Array.length_toList ..
    omega
  rw [this, List.take_left]
theorem ends_colon (p : Str) : Txt.endswith (p ++ ":") ":" = true := by
  unfold Txt.endswith
  have hl : (p ++ ":").length = p.length + 1 := by rw [len_app]; rfl
  have h1 : (":" : Str).length = 1 := rfl
  rw [hl, h1, StrLaws.subAt_eq, Str.cps_append, Array.toList_append, Bool.and_eq_true]
  refine ⟨decide_eq_true (by omega), ?_⟩
  have : p.length + 1 - 1 = p.cps.toList.length := by rw [Array.length_toList]; rfl
  rw [this, List.drop_left]
  decide +kernel
theorem colon_of {h : Str} (e : Txt.endswith h ":" = true) : ∃ p : Str, h = p ++ ":" := by
  unfold Txt.endswith at e
  have h1 : (":" : Str).length = 1 := rfl
  rw [h1, StrLaws.subAt_eq, Bool.and_eq_true] at e
  have e1 := of_decide_eq_true e.1
  have e2 := eq_of_beq e.2
  have hl : h.cps.toList.length = h.length := Array.length_toList ..
  refine ⟨⟨(h.cps.toList.take (h.length - 1)).toArray⟩, str_of ?_⟩
  rw [app_list]
  show h.cps.toList = h.cps.toList.take (h.length - 1) ++ (":" : Str).cps.toList
  rw [← e2, List.take_of_length_le (l := h.cps.toList.drop (h.length - 1)) (by rw [List.length_drop, h1]; omega), List.take_append_drop]
theorem nm_free {z : Str} (h : isNm z = true) {c : Nat} (hc : okc c = false) : c ∉ z.cps.toList := by
  intro hm
  unfold isNm at h
  rw [Bool.and_eq_true] at h
  have := List.all_eq_true.mp h.2 c hm
  rw [hc] at this
  cases this
theorem nm_blank {z : Str} (h : isNm z = true) : 32 ∉ z.cps.toList := nm_free h (by decide +kernel)
theorem nm_colon {z : Str} (h : isNm z = true) : 58 ∉ z.cps.toList := nm_free h (by decide +kernel)
noncomputable def rowText (a : Str) (ts : List Str) : Str := Str.join " " ((a ++ ":") :: ts)
theorem row_pieces {a : Str} {ts : List Str} (ha : isNm a = true) (ht : ts.all isNm = true) : ∀ p ∈ (a ++ ":") :: ts, 32 ∉ p.cps.toList := fun p hp => by
  rcases List.mem_cons.mp hp with rfl | hp
  · rw [app_list]
    intro hm
    rcases List.mem_append.mp hm with hm | hm
    · exact nm_blank ha hm
    · revert hm; decide +kernel
  · exact nm_blank (List.all_eq_true.mp ht p hp)
theorem rowOf_text {a : Str} {ts : List Str} (ha : isNm a = true) (ht : ts.all isNm = true) : rowOf (rowText a ts) = some (a, ts) := by
  unfold rowOf rowText
  rw [split_blank (row_pieces ha ht)]
  show (if _ then _ else _) = _
  rw [ends_colon, slice_point, ha, ht]
  rfl
theorem of_rowOf {p a : Str} {ts : List Str} (h : rowOf p = some (a, ts)) : p = rowText a ts ∧ isNm a = true ∧ ts.all isNm = true := by
  obtain ⟨hd, us, hc, e⟩ := blanks p
  unfold rowOf at h
  rw [e, split_blank hc] at h
  have h : (if (Txt.endswith hd ":" && isNm (Txt.slice hd none (some (-1))) && us.all isNm) = true then some (Txt.slice hd none (some (-1)), us) else none) = some (a, ts) := h
  by_cases hk : (Txt.endswith hd ":" && isNm (Txt.slice hd none (some (-1))) && us.all isNm) = true
  · rw [if_pos hk] at h
    rw [Bool.and_eq_true, Bool.and_eq_true] at hk
    obtain ⟨⟨k1, k2⟩, k3⟩ := hk
    obtain ⟨q, rfl⟩ := colon_of k1
    rw [slice_point] at h k2
    cases h
    exact ⟨e, k2, k3⟩
  · rw [if_neg hk] at h
    cases h
theorem part_at {a r : Str} (h : 58 ∉ a.cps.toList) : Txt.partition (a ++ ":" ++ r) ":" = (a, (":" : Str), r) := by
  have hx : (a ++ ":" ++ r).cps.toList = a.cps.toList ++ ((":" : Str).cps.toList ++ r.cps.toList) := by rw [app_list, app_list, List.append_assoc]
  have la : a.cps.toList.length = a.length := Array.length_toList ..
  have at0 := Spl.at_of hx
  have hL : (a ++ ":" ++ r).length = a.length + 1 + r.length := by rw [len_app, len_app]; rfl
  unfold Txt.partition
  rcases StrLaws.occ_head (a ++ ":" ++ r) ":" 1 (by decide) with ⟨_, hn⟩ | ⟨i, rr, e, hi, hm⟩
  · exact absurd at0 (hn _)
  · rw [e]
    have hle : i ≤ a.cps.toList.length := Nat.le_of_not_lt fun z => hm _ z at0
    have hge : ¬ i < a.cps.toList.length := fun z => by
      have := Spl.at_head (c := 58) (ys := []) (by rfl) hi
      rw [hx, List.getElem?_append_left z] at this
      exact h (List.mem_of_getElem? this)
    have hia : i = a.length := by omega
    subst hia
    show (strSub (a ++ ":" ++ r) 0 a.length, (":" : Str), strSub (a ++ ":" ++ r) (a.length + 1) (a ++ ":" ++ r).length) = _
    have e1 := Spl.sub_of (x := a ++ ":" ++ r) (p := a) (pre := []) (a := 0) rfl hx
    rw [Nat.zero_add] at e1
    have e2 := Spl.sub_of (x := a ++ ":" ++ r) (p := r) (pre := a.cps.toList ++ (":" : Str).cps.toList) (post := []) (a := a.length + 1) (by rw [List.length_append, la]; rfl) (by rw [hx, List.append_nil, List.append_assoc])
    rw [e1, hL, e2]
theorem part_found {p : Str} (h : (Txt.partition p ":").2.1 ≠ "") : p = (Txt.partition p ":").1 ++ ":" ++ (Txt.partition p ":").2.2 := by
  unfold Txt.partition at h ⊢
  rcases StrLaws.occ_head p ":" 1 (by decide) with ⟨e, hn⟩ | ⟨i, rr, e, hi, hm⟩
  · rw [e] at h
    exact absurd rfl h
  · rw [e]
    show p = strSub p 0 i ++ ":" ++ strSub p (i + 1) p.length
    have hc := Spl.at_head (c := 58) (ys := []) (by rfl) hi
    have hl : p.cps.toList.length = p.length := Array.length_toList ..
    obtain ⟨hil, hie⟩ := List.getElem?_eq_some_iff.mp hc
    apply str_of
    rw [app_list, app_list, strSub_toList, strSub_toList, List.drop_zero, Nat.sub_zero, List.take_of_length_le (l := p.cps.toList.drop (i + 1)) (by rw [List.length_drop]; omega), List.append_assoc]
    have : p.cps.toList.drop i = 58 :: p.cps.toList.drop (i + 1) := by rw [List.drop_eq_getElem_cons hil, hie]
    show p.cps.toList = p.cps.toList.take i ++ (58 :: p.cps.toList.drop (i + 1))
    rw [← this, List.take_append_drop]
theorem empty_app (x : Str) : ("" : Str) ++ x = x := str_of (by rw [app_list]; rfl)
theorem app_empty (x : Str) : x ++ ("" : Str) = x := str_of (by rw [app_list]; exact List.append_nil _)
theorem app_assoc (x y z : Str) : x ++ y ++ z = x ++ (y ++ z) := str_of (by rw [app_list, app_list, app_list, app_list, List.append_assoc])
theorem row_parts (a : Str) (ts : List Str) : rowText a ts = a ++ ":" ++ Str.join " " ("" :: ts) := by
  cases ts with
  | nil => exact (app_empty _).symm
  | cons t ts =>
    show (a ++ ":") ++ " " ++ Str.join " " (t :: ts) = a ++ ":" ++ (("" : Str) ++ " " ++ Str.join " " (t :: ts))
    rw [empty_app, app_assoc (a ++ ":")]
theorem row_some {p a : Str} {ts : List Str} (h : rowOf p = some (a, ts)) : Txt.partition p ":" = (a, (":" : Str), Str.join " " ("" :: ts)) ∧ Txt.split (Txt.partition p ":").2.2 " " = ("" : Str) :: ts := by
  obtain ⟨rfl, ha, ht⟩ := of_rowOf h
  have e := part_at (a := a) (r := Str.join " " ("" :: ts)) (nm_colon ha)
  rw [row_parts, e]
  refine ⟨rfl, split_blank fun p hp => ?_⟩
  rcases List.mem_cons.mp hp with rfl | hp
  · exact List.not_mem_nil
  · exact nm_blank (List.all_eq_true.mp ht p hp)
theorem split_ne (z : Str) : ∃ h ts, Txt.split z " " = h :: ts ∧ z = Str.join " " (h :: ts) := by
  obtain ⟨h, ts, hc, e⟩ := blanks z
  exact ⟨h, ts, by rw [e]; exact split_blank hc, e⟩
theorem row_law {p : Str} {ts : List Str} (h1 : (Txt.partition p ":").2.1 ≠ "") (h2 : isNm (Txt.partition p ":").1 = true) (h3 : Txt.split (Txt.partition p ":").2.2 " " = ("" : Str) :: ts) (h4 : ts.all isNm = true) : rowOf p = some ((Txt.partition p ":").1, ts) := by
  have e := part_found h1
  obtain ⟨h, us, e1, e2⟩ := split_ne (Txt.partition p ":").2.2
  rw [e1] at h3
  cases h3
  have e3 : p = rowText (Txt.partition p ":").1 ts := by
    rw [row_parts, ← e2]
    exact e
  have := rowOf_text h2 h4
  rw [← e3] at this
  exact this
theorem row_none {p : Str} (h : ∀ a ts, rowOf p ≠ some (a, ts)) : rowOf p = none := by
  cases e : rowOf p with
  | none => rfl
  | some x => exact absurd e (h x.1 x.2)
end T8
namespace T8
open PySem L2 Nt Sort2
theorem lets_len : lets.cps.toList.length = 36 := by decide +kernel
theorem atI_lt {α : Type} {xs : List α} {i : Int} (h0 : 0 ≤ i) (h1 : i < xs.length) : ∃ c, c ∈ xs ∧ atI xs i = some c := by
  have hj : i.toNat < xs.length := by omega
  have q := atI_nat (xs := xs) (j := i.toNat) (v := xs[i.toNat]) (by simp [hj])
  rw [show ((i.toNat : Nat) : Int) = i by omega] at q
  exact ⟨_, List.getElem_mem hj, q⟩
theorem eg_setL {X : Cx} {o i : Expr} {pos : Pos} {v : V} {σ : St} {H : Hp} {R : St → Hp → Prop} (h : Ev X o σ H fun x H1 => Ev X i σ H1 fun y H2 => rSetL x y v H2 fun H3 => R σ H3)
    (ha : ∀ v, assign (.Subscript o i pos) X.env v = (do
      let ov ← holding [v] (eval o X.env)
      let iv ← holding [v, ov] (eval i X.env)
      standAt pos
      holding [v, ov, iv] (setItem ov iv v)
      release [v, ov, iv] []) := by intro _; rfl) : Eg X (.Subscript o i pos) v σ H R := eg_of (pg_sub pe_ev pe_ev set_list ha) h
noncomputable def spDigit : Sp := fun vs H Q _ => ∃ (R : Addr) (b m : Int), vs = [.ref R, .int m] ∧ H R = some (.lst [.int b]) ∧ 0 < m ∧ m < 1000 ∧ Q (.int (b % m)) (upd H R (.lst [.int (b / m)]))
noncomputable def spWord : Sp := fun vs H Q _ => ∃ (R : Addr) (b : Int), vs = [.ref R] ∧ H R = some (.lst [.int b]) ∧ ∀ (z : Str) (b' : Int), isNm z = true → Q (.str z) (upd H R (.lst [.int b']))
section
variable {P : Program} {w : World} {K : PySem.W.Frag} {mg : Str → Option Value} {base : Heap}
noncomputable abbrev NDg : List Str := ["_law_rest", "_law_many", "_law_digit_here"]
theorem scDigit : FnScope NDg ["_law_rest", "_law_many"] (defScope sDigit) := ⟨rfl, rfl, rfl, by decide +kernel, rfl, by decide +kernel, by decide +kernel⟩
theorem ok_digit {f : Addr} {fd : FuncData} (F : Fun K "_law_digit" "_law_digit" sDigit f fd) (T : Txt mg) : FnOk P w K mg base CX0 1 f fd ["_law_rest", "_law_many"] spDigit := by
  refine F.gb scDigit (fun vs H Q E h => ?_) (fun b0 H vs Q E hr h => ?_)
  · obtain ⟨R, b, m, rfl, _⟩ := h
    rfl
  obtain ⟨R, b, m, rfl, hR, h0, h1, q⟩ := h
  have nd := scDigit.nd
  show Run _ _ _ [some (.ref R), some (.int m), none] H
  refine run_set 2 nd (ev_op op_mod (ev_ix ix_list (ev_v 0 (ev_int ⟨R, _, _, .int b, rfl, rfl, SqL.of hR, rfl, ev_v 1 ⟨_, _, rfl, rfl, h0, ?_⟩⟩))))
  refine run_asg (ev_op op_fdiv (ev_ix ix_list (ev_v 0 (ev_int ⟨R, _, _, .int b, rfl, rfl, SqL.of hR, rfl, ev_v 1 ⟨_, _, rfl, rfl, ⟨h0, by omega⟩, ?_⟩⟩))))
  refine eg_setL (ev_v 0 (ev_int ⟨R, [.int b], 0, 0, rfl, rfl, hR, rfl, ?_⟩))
  exact run_ret (ev_v 2 q)
noncomputable abbrev NWd : List Str := ["_law_rest", "_law_signs", "_law_word_here", "_law_k"]
theorem scWord : FnScope NWd ["_law_rest"] (defScope sWord) := ⟨rfl, rfl, rfl, by decide +kernel, rfl, by decide +kernel, by decide +kernel⟩
theorem ok_word {f : Addr} {fd : FuncData} (F : Fun K "_law_word" "_law_word" sWord f fd) (T : Txt mg)
    (G : Has P w K mg base 1 "_law_digit" ["_law_rest", "_law_many"] spDigit) :
    FnOk P w K mg base CX0 2 f fd ["_law_rest"] spWord := by
  refine F.gb scWord (fun vs H Q E h => ?_) (fun b0 H vs Q E hr h => ?_)
  · obtain ⟨R, b, rfl, _⟩ := h
    rfl
  obtain ⟨R, b, rfl, hR, q⟩ := h
  have nd := scWord.nd
  have b0 : 0 ≤ b % 8 := Int.emod_nonneg _ (by decide)
  have b1 : b % 8 < 8 := Int.emod_lt_of_pos _ (by decide)
  show Run _ _ _ [some (.ref R), none, none, none] H
  refine run_set 1 nd (ev_str (run_set 2 nd (ev_str ?_)))
  refine run_forR1 T.range (ev_op op_add (ev_int (ev_has G hr (ea_cons (ev_v 0 (ea_cons (ev_int (ea_nil ⟨R, b, 8, rfl, hR, by decide, by decide, _, _, rfl, rfl, 1 + b % 8, rfl, by omega, by omega, ?_⟩))))))))
  refine loop_range (n := (1 + b % 8).toNat) (fun i σ H3 => ∃ (z : Str) (b' : Int) (u : Option V), z.length = i ∧ z.cps.toList.all okc = true ∧ H3 = upd H R (.lst [.int b']) ∧ σ = [some (.ref R), some (.str lets), some (.str z), u]) ⟨"", _, _, rfl, rfl, rfl, rfl⟩ ?_ ?_
  · rintro i σ H3 hi ⟨z, b', u, hz, ha, rfl, rfl⟩
    refine eg_name 3 nd ?_
    obtain ⟨c, hcm, hc⟩ := atI_lt (xs := lets.cps.toList) (i := b' % 36) (Int.emod_nonneg _ (by decide)) (by rw [lets_len]; exact Int.emod_lt_of_pos _ (by decide))
    refine run_set 2 nd (ev_op op_add_str (ev_v 2 (ev_ix ix_str (ev_v 1 (ev_has G hr (ea_cons (ev_v 0 (ea_cons (ev_int (ea_nil ⟨R, b', 36, rfl, upd_same, by decide, by decide, ?_⟩))))))))))
    refine ⟨lets, _, c, rfl, rfl, by decide +kernel, hc, z, _, rfl, rfl, small (by show z.length + 1 ≤ 100000; omega), run_nil ⟨_, b' / 36, _, ?_, ?_, upd_upd, rfl⟩⟩
    · rw [len_app, hz]
      rfl
    · show (z.cps ++ #[c]).toList.all okc = true
      rw [Array.toList_append, List.all_append, ha]
      show (true && (okc c && true)) = true
      have : okc c = true := decide_eq_true hcm
      rw [this]
      rfl
  · rintro σ H3 ⟨z, b', u, hz, ha, rfl, rfl⟩
    refine run_ret (ev_v 2 (q z b' ?_))
    unfold isNm
    rw [ha, Bool.and_true]
    exact decide_eq_true (by omega)
end
end T8
namespace T8
open PySem L2 Nt Sort2
theorem free_back {H H' : Hp} {l : Addr} (s : Same H H') (h : H' l = none) : H l = none := by
  cases e : H l with
  | none => rfl
  | some v => rw [s _ _ e] at h; cases h
noncomputable def SameB (R : Addr) (H H' : Hp) : Prop := ∀ b o, b ≠ R → H b = some o → H' b = some o
theorem SameB.refl (R : Addr) (H : Hp) : SameB R H H := fun _ _ _ h => h
theorem SameB.trans {R : Addr} {H H1 H2 : Hp} (a : SameB R H H1) (b : SameB R H1 H2) : SameB R H H2 := fun c o n h => b c o n (a c o n h)
theorem SameB.of {R : Addr} {H H1 : Hp} (s : Same H H1) : SameB R H H1 := fun c o _ h => s c o h
theorem SameB.mut {R : Addr} {H H1 : Hp} {o : HO} (s : SameB R H H1) : SameB R H (upd H1 R o) := fun c u n h => by rw [upd_ne n]; exact s c u n h
theorem SameB.put {R D : Addr} {H H1 : Hp} {o : HO} (s : SameB R H H1) (h : H D = none) : SameB R H (upd H1 D o) := fun c u n q => by rw [upd_ne (ne_of_none q h)]; exact s c u n q
noncomputable def spSign : Sp := fun vs H Q _ => ∃ (R : Addr) (b : Int), vs = [.ref R] ∧ H R = some (.lst [.int b]) ∧ ∀ (c : Nat) (b' : Int), Q (.str ⟨#[c]⟩) (upd H R (.lst [.int b']))
noncomputable def spText : Sp := fun vs H Q _ => ∃ (R : Addr) (b : Int), vs = [.ref R] ∧ H R = some (.lst [.int b]) ∧ ∀ (z : Str) (b' : Int) (H' : Hp), z.length ≤ 300 → SameB R H H' → H' R = some (.lst [.int b']) → Q (.str z) H'
noncomputable def spOdd : Sp := fun vs H Q _ => ∃ (R : Addr) (b : Int) (t : Str), vs = [.str t, .ref R] ∧ H R = some (.lst [.int b]) ∧ t.length ≤ 300 ∧ ∀ (z : Str) (H' : Hp), z.length ≤ 900 → Q (.str z) H'
section
variable {X : Cx} {elt tg : Expr} {ifs : List Expr} {scope : Scope} {σ : St} {H : Hp} {N' : List Str} {A : Addr} {after : Hp → Prop}
theorem comp_rangeP {lo : Int} {n : Nat} (Pv : Nat → St → Hp → Prop) (h0 : Pv 0 σ H)
    (hs : ∀ i σ' H', i < n → Pv i σ' H' → CEg X N' scope tg (.int (lo + i)) σ' H' fun σ2 H3 => CEi X N' scope ifs σ2 H3 fun b H4 =>
      if b = true then CEv X N' scope elt σ2 H4 fun v H5 => ∃ ys, H5 A = some (.lst ys) ∧ ys.length < sizeLine ∧ Pv (i + 1) σ2 (upd H5 A (.lst (ys ++ [v]))) else Pv (i + 1) σ2 H4)
    (hd : ∀ σ' H', Pv n σ' H' → after H') : CompL X N' scope tg ifs elt (Itr lo n) A after σ H := by
  refine ⟨fun i m σ' H' => m = n - i ∧ i ≤ n ∧ Pv i σ' H', ⟨_, rfl, Nat.zero_le _, h0⟩, ?_⟩
  rintro i m σ' H' ⟨rfl, hi, p⟩
  by_cases hlt : i < n
  · refine .inr ⟨hlt, Pv (i + 1), fun σ' H' p' => ⟨n - (i + 1), by omega, rfl, hlt, p'⟩, fun x H2 y => ?_⟩
    obtain ⟨e, y⟩ := y
    subst e y
    exact hs i σ' _ hlt p
  · have e : i = n := by omega
    subst e
    exact .inl ⟨Nat.le_refl _, hd σ' H' p⟩
end
theorem sum_le (m : Nat) : ∀ (ps : List Str), (∀ p ∈ ps, p.length ≤ m) → (ps.map (·.length)).sum ≤ ps.length * m
  | [], _ => Nat.zero_le _
  | a :: r, h => by
    have ih := sum_le m r fun p hp => h p (List.mem_cons_of_mem _ hp)
    have ha := h a (List.mem_cons_self ..)
    simp only [List.map_cons, List.sum_cons, List.length_cons, Nat.add_mul, Nat.one_mul]
    omega
theorem join_len (y : Str) : ∀ (ps : List Str) (m : Nat), (∀ p ∈ ps, p.length ≤ m) → (Str.join y ps).length ≤ ps.length * (m + y.length)
  | [], _, _ => Nat.zero_le _
  | [a], m, h => by
    have := h a (List.mem_singleton.mpr rfl)
    show a.length ≤ 1 * (m + y.length)
    omega
  | a :: b :: r, m, h => by
    have ih := join_len y (b :: r) m fun p hp => h p (List.mem_cons_of_mem _ hp)
    have ha := h a (List.mem_cons_self ..)
    show (a ++ y ++ Str.join y (b :: r)).length ≤ _
    rw [len_app, len_app]
    have : (a :: b :: r).length * (m + y.length) = (b :: r).length * (m + y.length) + (m + y.length) := by
      show ((b :: r).length + 1) * (m + y.length) = _
      rw [Nat.add_mul, Nat.one_mul]
    omega
theorem nm_len {z : Str} (h : isNm z = true) : 1 ≤ z.length ∧ z.length ≤ 8 := by
  unfold isNm at h
  rw [Bool.and_eq_true] at h
  exact of_decide_eq_true h.1
section
variable {P : Program} {w : World} {K : PySem.W.Frag} {mg : Str → Option Value} {base : Heap}
noncomputable abbrev some1 : Str := " !\"#$&'()*+,-./0123456789:;<=>?@ABCDEFGHIJKLMNOPQRSTUVWXYZ[\\]^_`"
noncomputable abbrev some2 : Str := "abcdefghijklmnopqrstuvwxyz{|}~"
noncomputable abbrev NSg : List Str := ["_law_rest", "_law_some"]
theorem scSign : FnScope NSg ["_law_rest"] (defScope sSign) := ⟨rfl, rfl, rfl, by decide +kernel, rfl, by decide +kernel, by decide +kernel⟩
theorem some_len : (some1 ++ some2).length = 94 := by decide +kernel
theorem one_len (c : Nat) : (⟨#[c]⟩ : Str).length = 1 := rfl
theorem ok_sign {f : Addr} {fd : FuncData} (F : Fun K "_law_sign" "_law_sign" sSign f fd) (T : Txt mg) (GD : Has P w K mg base 1 "_law_digit" ["_law_rest", "_law_many"] spDigit) : FnOk P w K mg base CX0 2 f fd ["_law_rest"] spSign := by
  refine F.gb scSign (fun vs H Q E h => ?_) (fun b0 H vs Q E hr h => ?_)
  · obtain ⟨R, b, rfl, _⟩ := h
    rfl
  obtain ⟨R, b, rfl, hR, q⟩ := h
  have nd := scSign.nd
  show Run _ _ _ [some (.ref R), none] H
  refine run_set 1 nd (ev_str (run_set 1 nd (ev_op op_add_str (ev_v 1 (ev_str ⟨some1, some2, rfl, rfl, by decide +kernel, ?_⟩)))))
  show Run _ _ _ [some (.ref R), some (.str (some1 ++ some2))] H
  have sl := some_len
  generalize some1 ++ some2 = S at sl ⊢
  refine run_if (et_cmp op_eq (ev_has GD hr (ea_cons (ev_v 0 (ea_cons (ev_int (ea_nil ⟨R, b, 2, rfl, hR, by decide, by decide, ev_int ⟨rfl, _, rfl, ?_⟩⟩)))))))
  refine ite2 (fun _ => ?_) (fun _ => run_nil ?_)
  · obtain ⟨c, hcm, hc⟩ := atI_lt (xs := (" ;:Aa0" : Str).cps.toList) (i := (b / 2) % 6) (Int.emod_nonneg _ (by decide)) (by show _ < (6 : Int); exact Int.emod_lt_of_pos _ (by decide))
    refine run_ret (ev_ix ix_str (ev_str (ev_has GD hr (ea_cons (ev_v 0 (ea_cons (ev_int (ea_nil ⟨R, b / 2, 6, rfl, upd_same, by decide, by decide, ?_⟩))))))))
    refine ⟨_, _, c, rfl, rfl, by decide +kernel, hc, ?_⟩
    rw [upd_upd]
    exact q c _
  · have hl : S.cps.toList.length = 94 := by rw [Array.length_toList]; exact sl
    obtain ⟨c, hcm, hc⟩ := atI_lt (xs := S.cps.toList) (i := (b / 2) % 94) (Int.emod_nonneg _ (by decide)) (by rw [hl]; exact Int.emod_lt_of_pos _ (by decide))
    refine run_ret (ev_ix ix_str (ev_v 1 (ev_has GD hr (ea_cons (ev_v 0 (ea_cons (ev_blt call_len_str T.len boot_len (ea_cons (ev_v 1 (ea_nil ⟨S, rfl, small (by rw [sl]; decide), ea_nil ⟨R, b / 2, 94, ?_, upd_same, by decide, by decide, ?_⟩⟩))))))))))
    · rw [sl]
      rfl
    · refine ⟨S, _, c, rfl, rfl, by rw [sl]; decide, hc, ?_⟩
      rw [upd_upd]
      exact q c _
noncomputable abbrev NTx : List Str := ["_law_rest", "_law_parts", "_law_k"]
noncomputable abbrev NTx' : List Str := ["_law_rest", "_law_parts", "_law_k", "_law_j"]
theorem scText : FnScope NTx ["_law_rest"] (defScope sText) := ⟨rfl, rfl, rfl, by decide +kernel, rfl, by decide +kernel, by decide +kernel⟩
theorem nd_tx : NTx'.Nodup := by decide +kernel
theorem ok_text {f : Addr} {fd : FuncData} (F : Fun K "_law_text" "_law_text" sText f fd) (T : Txt mg) (GD : Has P w K mg base 2 "_law_digit" ["_law_rest", "_law_many"] spDigit) (GW : Has P w K mg base 2 "_law_word" ["_law_rest"] spWord) : FnOk P w K mg base CX0 3 f fd ["_law_rest"] spText := by
  refine F.gb scText (fun vs H Q E h => ?_) (fun b0 H vs Q E hr h => ?_)
  · obtain ⟨R, b, rfl, _⟩ := h
    rfl
  obtain ⟨R, b, rfl, hR, q⟩ := h
  have nd := scText.nd
  have c0 : 0 ≤ b % 4 := Int.emod_nonneg _ (by decide)
  have c1 : b % 4 < 4 := Int.emod_lt_of_pos _ (by decide)
  show Run _ _ _ [some (.ref R), none, none] H
  refine run_set 1 nd (ev_lst (ea_nil ⟨(by show 0 ≤ sizeLine; decide), fun L hL => ?_⟩))
  have nRL : R ≠ L := ne_of_none hR hL
  refine run_forR1 T.range (ev_op op_add (ev_int (ev_has GD hr (ea_cons (ev_v 0 (ea_cons (ev_int (ea_nil ⟨R, b, 4, rfl, by rw [upd_ne nRL]; exact hR, by decide, by decide, _, _, rfl, rfl, 1 + b % 4, rfl, by omega, by omega, ?_⟩))))))))
  refine loop_range (n := (1 + b % 4).toNat) (fun i σ H' => ∃ (zs : List Str) (b' : Int) (u : Option V), zs.length = i ∧ (∀ z ∈ zs, z.length ≤ 60) ∧ SameB R H H' ∧ H' R = some (.lst [.int b']) ∧ H' L = some (Ls zs) ∧ σ = [some (.ref R), some (.ref L), u]) ⟨[], _, _, rfl, fun z hz => (nomatch hz), (SameB.of (same_new hL _)).mut, upd_same, by rw [upd_ne (Ne.symm nRL)]; exact upd_same, rfl⟩ ?_ ?_
  · rintro i σ H1 hi ⟨zs, b1, u, hz, hl, sm, e1, eL, rfl⟩
    refine eg_name 2 nd ?_
    show Run _ _ _ [some (.ref R), some (.ref L), some (.int _)] H1
    refine run_expr (ev_append (ev_v 1 ⟨L, rfl, ⟨_, eL⟩, ?_⟩))
    refine ev_op op_add_str (ev_op op_add_str (ev_has GW hr (ea_cons (ev_v 0 (ea_nil ⟨R, b1, rfl, e1, fun x b2 hx => ?_⟩)))))
    have lx := (nm_len hx).2
    refine ev_str ⟨x, ":", rfl, rfl, small (by show x.length + 1 ≤ 100000; omega), ?_⟩
    refine ev_m1 PySem.F.plainAttrs_str PySem.F.slot_str_join PySem.F.type_str_join mt_join (ev_str ⟨rfl, ?_⟩)
    have c2 : 0 ≤ b2 % 5 := Int.emod_nonneg _ (by decide)
    have c3 : b2 % 5 < 5 := Int.emod_lt_of_pos _ (by decide)
    refine ev_comp (defScope sText) NTx NTx' 1 (pi_range1 rfl T.range (ta := tEa _ _) pa_ea (star_one _ [] _ rfl)) ?_
    show Ea _ _ _ _ _
    refine ea_cons (ev_has GD hr (ea_cons (ev_v 0 (ea_cons (ev_int (ea_nil ⟨R, b2, 5, rfl, upd_same, by decide, by decide, ea_nil ⟨_, rfl, by omega, by omega, fun D hD => ?_⟩⟩))))))
    rw [upd_upd] at hD ⊢
    have nRD : R ≠ D := fun z => by rw [← z, upd_same] at hD; cases hD
    have hD1 : H1 D = none := by rw [upd_ne (Ne.symm nRD)] at hD; exact hD
    have nLD : L ≠ D := ne_of_none eL hD1
    refine comp_rangeP (fun j σ' H' => (∃ v, σ' = [some (.ref R), some (.ref L), some (.int (0 + (i : Int)))] ++ [v]) ∧ ∃ (ws : List Str) (b' : Int), ws.length = j ∧ (∀ z ∈ ws, z.length ≤ 9) ∧ SameB R H1 H' ∧ H' R = some (.lst [.int b']) ∧ H' D = some (Ls ws)) ⟨⟨none, rfl⟩, [], _, rfl, fun z hz => (nomatch hz), ((SameB.refl R H1).mut).put hD1, by rw [upd_ne nRD]; exact upd_same, upd_same⟩ ?_ ?_
    · rintro j σ' H' hj ⟨⟨v, rfl⟩, ws, b3, hw, hwl, s3, e3, eD⟩
      intro cl C' s₀ H₀ ex
      refine eg_name 3 nd_tx ?_
      intro cl C' s₀ H₀ ex
      refine ei_nil (iteT ?_)
      intro cl C' s₀ H₀ ex
      refine ev_op op_add_str (ev_str (ev_has GW hr (ea_cons (ev_v 0 (ea_nil ⟨R, b3, rfl, e3, fun y b4 hy => ?_⟩)))))
      have ly := (nm_len hy).2
      refine ⟨" ", y, rfl, rfl, small (by show 1 + y.length ≤ 100000; omega), ws.map V.str, by rw [upd_ne (Ne.symm nRD)]; exact eD, ?_, ⟨_, rfl⟩, ws ++ [" " ++ y], b4, by rw [List.length_append, hw]; rfl, fun z hz => ?_, (s3.mut).put hD1, by rw [upd_ne nRD]; exact upd_same, by rw [upd_same]; show _ = some (HO.lst ((ws ++ [" " ++ y]).map V.str)); rw [List.map_append]; rfl⟩
      · rw [List.length_map]
        exact small' (by omega)
      · rcases List.mem_append.mp hz with h | h
        · exact hwl z h
        · rw [List.mem_singleton.mp h, len_app]
          show 1 + y.length ≤ 9
          omega
    · rintro σ' H' ⟨_, ws, b3, hw, hwl, s3, e3, eD⟩
      have s9 := sum_le 9 ws hwl
      have jl := join_len "" ws 9 hwl
      have jl : (Str.join "" ws).length ≤ ws.length * 9 := jl
      have hw4 : ws.length ≤ 4 := by omega
      refine ⟨"", D, ws, rfl, rfl, SqL.of eD, by omega, by decide, ?_⟩
      have xl : (x ++ ":").length ≤ 9 := by rw [len_app]; show x.length + 1 ≤ 9; omega
      refine ⟨x ++ ":", Str.join "" ws, rfl, rfl, small (by omega), zs.map V.str, s3 _ _ (Ne.symm nRL) eL, ?_, run_nil ?_⟩
      · rw [List.length_map]
        exact small' (by omega)
      refine ⟨zs ++ [x ++ ":" ++ Str.join "" ws], b3, _, by rw [List.length_append, hz]; rfl, fun z hz => ?_, (sm.trans s3).put hL, by rw [upd_ne nRL]; exact e3, by rw [upd_same]; show _ = some (HO.lst ((zs ++ [_]).map V.str)); rw [List.map_append]; rfl, rfl⟩
      rcases List.mem_append.mp hz with h | h
      · exact hl z h
      · rw [List.mem_singleton.mp h, len_app]
        omega
  · rintro σ H1 ⟨zs, b1, u, hz, hl, sm, e1, eL, rfl⟩
    have s9 := sum_le 60 zs hl
    have jl := join_len "; " zs 60 hl
    have jl : (Str.join "; " zs).length ≤ zs.length * 62 := jl
    have h4 : zs.length ≤ 4 := by omega
    exact run_ret (ev_m1 PySem.F.plainAttrs_str PySem.F.slot_str_join PySem.F.type_str_join mt_join (ev_str ⟨rfl, ev_v 1 ⟨"; ", L, zs, rfl, rfl, SqL.of eL, by omega, by decide, q _ b1 H1 (by omega) sm e1⟩⟩))
end
end T8
namespace L2
open PySem PySem.Spec PyProof.Rows
section
variable {X : Cx} {σ : St} {H : Hp}
end
end L2
namespace L2
open PySem PySem.Spec PyProof.Rows
structure Xo (h : Heap) (e T : Addr) (C fl : Value) : Prop where
  ex : ∃ oe vs, h.get? e = some oe ∧ oe.cls = C ∧ oe.dict = none ∧ oe.data = .fields vs ∧ vs[1]? = some (.ref T) ∧ vs[2]? = some .none
  ne : T ≠ e
  tr : ∃ oT ts, h.get? T = some oT ∧ oT.data = .fields ts ∧ ts[3]? = some fl
structure Kp (fs bad : List Addr) (h h' : Heap) : Prop where
  keep : ∀ b o, h.get? b = some o → b ∉ fs → b ∉ bad → h'.get? b = some o
  slot : ∀ b o, h.get? b = some o → b ∈ fs → ∃ sl, h'.get? b = some { o with slots := sl }
theorem dict_mapFields (o : Obj) (f : Array Value → Array Value) : (o.mapFields f).dict = o.dict := by
  obtain ⟨c, d, dt, sl⟩ := o
  cases dt <;> rfl
section
variable {M : Model} {A : Around} {E : Value → Shared → Prop} {s : Shared}
theorem lay_trace {base : Heap} {env : Env} {outer : List Env} {L e : Addr} {oe : Obj} {vs : Array Value} {head : Value} {nx : Bool} {Q : Unit → Shared → Prop} (hfr : A.frames = some (env :: outer)) (hl : s.heap.FunFrames base (env :: outer)) (hf : env.frame = some L)
    (he : s.heap.get? e = some oe) (hd : oe.data = .fields vs) (hdi : oe.dict = none) (h1 : 1 < vs.size) (h2 : vs[2]? = some .none)
    (h : ∀ h' T, s.heap.get? T = none → Xo h' e T oe.cls .none → Kp (frs (env :: outer)) [e] s.heap h' → Q () { s with heap := h' }) :
    wpAny M A (do let a ← frameOf env; let pl ← entryPlaceOf L nx; let b ← EntryCells.newEntry head a .none (rawInt L) .none pl; setField (.ref e) 1 b) (fun _ s' => wpAny M A (setFlight (.ref e) none) Q E s') E s := by
  have nef : e ∉ frs (env :: outer) := fun hm => by
    obtain ⟨_, o, ho, hn⟩ := hl.mem hm
    rw [he] at ho
    cases ho
    exact hn vs hd
  refine wpAny_bind (wpAny_frameOf_fun hfr hl hf fun ha sa => ?_)
  refine wpAny_bind (wpAny_entryPlaceOf fun pl ip => ?_)
  unfold EntryCells.newEntry newFields
  refine wpAny_bind (wpAny_newObj_type ?_ (ip.sizeOk5 _ _ _ _ _))
  generalize hT : ({ cls := .type "traceback", dict := none, data := .fields ([head, .ref L, .none, rawInt L, .none] ++ (if pl.isEmpty then List.replicate 6 Value.none else pl)).toArray } : Obj) = oT
  have ea : ha.get? e = some oe := (sa.2.1 e nef).trans he
  have eb : (ha.push oT).get? e = some oe := Heap.get?_push_of_some _ ea
  have tb : (ha.push oT).get? ha.objs.size = some oT := Heap.get?_push_size ha (by rw [← hT]; rfl)
  have hTe : ha.objs.size ≠ e := Nat.ne_of_gt (Heap.lt_size ea)
  refine wpAny_setField eb hd h1 ?_
  have dc := Obj.data_mapFields hd (·.setIfInBounds 1 (Value.ref ha.objs.size))
  have ec := Heap.get?_update_self (Obj.mapFields (·.setIfInBounds 1 (Value.ref ha.objs.size))) eb (Obj.isFreed_of_fields dc)
  have tc : ((ha.push oT).update e (Obj.mapFields (·.setIfInBounds 1 (Value.ref ha.objs.size)))).get? ha.objs.size = some oT := (Heap.get?_update_other _ _ (Ne.symm hTe)).trans tb
  unfold setFlight
  refine wpAny_bind (wpAny_field ec dc (x := .ref ha.objs.size) (by simp [h1]) ?_)
  rw [if_pos (show (Value.ref ha.objs.size != Value.none) = true from by simp)]
  have dT : oT.data = .fields ([head, .ref L, .none, rawInt L, .none] ++ (if pl.isEmpty then List.replicate 6 Value.none else pl)).toArray := by rw [← hT]
  have sz : 3 < ([head, .ref L, .none, rawInt L, .none] ++ (if pl.isEmpty then List.replicate 6 Value.none else pl)).toArray.size := by
    simp only [List.size_toArray, List.length_append, List.length_cons, List.length_nil]
    omega
  refine wpAny_setField tc dT sz (h _ ha.objs.size (by
    cases hq : s.heap.get? ha.objs.size with
    | none => rfl
    | some o =>
      obtain ⟨sl, z⟩ := sa.2.2 _ o hq
      exact absurd (Heap.lt_size z) (Nat.lt_irrefl _)) ?_ ?_)
  · have dd := Obj.data_mapFields dT (·.setIfInBounds 3 ((none : Option Addr).elim Value.none fun f => rawInt f))
    refine ⟨⟨_, _, (Heap.get?_update_other _ _ hTe).trans ec, Obj.cls_mapFields _ _, by rw [dict_mapFields]; exact hdi, dc, by simp [h1], by rw [Array.getElem?_setIfInBounds_ne (by decide)]; exact h2⟩, hTe, ⟨_, _, Heap.get?_update_self _ tc (Obj.isFreed_of_fields dd), dd, ?_⟩⟩
    rw [Array.getElem?_setIfInBounds_self_of_lt sz]
    rfl
  · have kp : ∀ b o, b ≠ e → ha.get? b = some o → (((ha.push oT).update e (Obj.mapFields (·.setIfInBounds 1 (Value.ref ha.objs.size)))).update ha.objs.size (Obj.mapFields (·.setIfInBounds 3 ((none : Option Addr).elim Value.none fun f => rawInt f)))).get? b = some o := fun b o hb q => by
      rw [Heap.get?_update_other _ _ (Nat.ne_of_gt (Heap.lt_size q)), Heap.get?_update_other _ _ (Ne.symm hb)]
      exact Heap.get?_push_of_some _ q
    refine ⟨fun b o q nf nb => kp b o (fun z => nb (by simp [z])) ((sa.2.1 b nf).trans q), fun b o q hb => ?_⟩
    obtain ⟨sl, z⟩ := sa.2.2 b o q
    exact ⟨sl, kp b _ (fun y => nef (y ▸ hb)) z⟩
theorem note_new {base : Heap} {env : Env} {outer : List Env} {L e : Addr} {oe : Obj} {vs : Array Value} {Q : Unit → Shared → Prop} (hfr : A.frames = some (env :: outer)) (hl : s.heap.FunFrames base (env :: outer)) (hf : env.frame = some L)
    (he : s.heap.get? e = some oe) (hd : oe.data = .fields vs) (hdi : oe.dict = none) (h1 : vs[1]? = some .none) (h2 : vs[2]? = some .none)
    (h : ∀ h' T, s.heap.get? T = none → Xo h' e T oe.cls .none → Kp (frs (env :: outer)) [e] s.heap h' → Q () { s with heap := h' }) :
    wpAny M A (noteFrame (.ref e) env) (fun _ s' => wpAny M A (setFlight (.ref e) none) Q E s') E s := by
  unfold noteFrame
  simp only [hf]
  refine wpAny_bind (wpAny_field he hd h1 ?_)
  rw [if_neg (by decide)]
  exact lay_trace hfr hl hf he hd hdi (Array.getElem?_eq_some_iff.mp h1).1 h2 h
theorem note_on {base : Heap} {env : Env} {outer : List Env} {L e T : Addr} {C : Value} {Q : Unit → Shared → Prop} (hfr : A.frames = some (env :: outer)) (hl : s.heap.FunFrames base (env :: outer)) (hf : env.frame = some L) (x : Xo s.heap e T C .none)
    (h : ∀ h' T', s.heap.get? T' = none → Xo h' e T' C .none → Kp (frs (env :: outer)) [e, T] s.heap h' → Q () { s with heap := h' }) :
    wpAny M A (noteFrame (.ref e) env) (fun _ s' => wpAny M A (setFlight (.ref e) none) Q E s') E s := by
  obtain ⟨⟨oe, vs, he, hc, hdi, hd, h1, h2⟩, hne, ⟨oT, ts, hT, dT, h3⟩⟩ := x
  subst hc
  unfold noteFrame
  simp only [hf]
  refine wpAny_bind (wpAny_field he hd h1 ?_)
  rw [if_pos (show (Value.ref T != Value.none) = true from by simp)]
  refine wpAny_bind (wpAny_field hT dT h3 ?_)
  rw [if_neg (show ¬ ((Value.none == rawInt L) = true) from by simp [rawInt])]
  refine wpAny_bind (wpAny_setField hT dT (Array.getElem?_eq_some_iff.mp h3).1 ?_)
  have nT : ∀ b, b ≠ T → (s.heap.update T (Obj.mapFields (·.setIfInBounds 3 Value.none))).get? b = s.heap.get? b := fun b hb => Heap.get?_update_other _ _ (Ne.symm hb)
  have rcd : ∀ b o, s.heap.get? b = some o → (∀ vs, o.data ≠ .fields vs) → b ≠ T := fun b o q hn z => by
    rw [z, hT] at q
    cases q
    exact hn ts dT
  have nf : T ∉ frs (env :: outer) := fun hm => by
    obtain ⟨_, o, ho, hn⟩ := hl.mem hm
    exact rcd T o ho hn rfl
  refine lay_trace hfr (hl.of_keeps fun b o q hn => ⟨o, (nT b (rcd b o q hn)).trans q, rfl⟩) hf ((nT e (Ne.symm hne)).trans he) hd hdi (Array.getElem?_eq_some_iff.mp h1).1 h2 fun h' T' z x k => h h' T' ?_ x ⟨fun b o q n1 n2 => ?_, fun b o q hb => ?_⟩
  · cases hq : s.heap.get? T' with
    | none => rfl
    | some o =>
      by_cases y : T' = T
      · have := Heap.get?_update_self (Obj.mapFields (·.setIfInBounds 3 Value.none)) hT (Obj.isFreed_of_fields (Obj.data_mapFields dT _))
        rw [y] at z
        exact absurd (this.symm.trans z) (by simp)
      · have := (nT T' y).trans hq
        exact absurd (this.symm.trans z) (by simp)
  · have n3 : b ≠ T := fun y => n2 (by simp [y])
    exact k.keep b o ((nT b n3).trans q) n1 (fun y => n2 (by simp at y; simp [y]))
  · exact k.slot b o ((nT b fun y => nf (y ▸ hb)).trans q) hb
theorem land_again {e T : Addr} {C : Value} {Q : Unit → Shared → Prop} (x : Xo s.heap e T C .none) (h : ∀ h', Xo h' e T C .none → (∀ b o, b ≠ T → s.heap.get? b = some o → h'.get? b = some o) → Q () { s with heap := h' }) : wpAny M A (setFlight (.ref e) none) Q E s := by
  obtain ⟨⟨oe, vs, he, hc, hdi, hd, h1, h2⟩, hne, ⟨oT, ts, hT, dT, h3⟩⟩ := x
  unfold setFlight
  refine wpAny_bind (wpAny_field he hd h1 ?_)
  rw [if_pos (show (Value.ref T != Value.none) = true from by simp)]
  have sz := (Array.getElem?_eq_some_iff.mp h3).1
  have dd := Obj.data_mapFields dT (·.setIfInBounds 3 ((none : Option Addr).elim Value.none fun f => rawInt f))
  refine wpAny_setField hT dT sz (h _ ⟨⟨oe, vs, (Heap.get?_update_other _ _ hne).trans he, hc, hdi, hd, h1, h2⟩, hne, ⟨_, _, Heap.get?_update_self _ hT (Obj.isFreed_of_fields dd), dd, ?_⟩⟩ fun b o hb q => (Heap.get?_update_other _ _ (Ne.symm hb)).trans q)
  rw [Array.getElem?_setIfInBounds_self_of_lt sz]
  rfl
end
end L2
namespace L2
open PySem PySem.Spec PyProof.Rows
theorem kp_un {fs f2 bad : List Addr} {H H' : Hp} {h h1 h2 : Heap} (u : Un fs [] H H' h h1) (k : Kp f2 bad h1 h2) (hf : ∀ b o, h.get? b = some o → b ∈ f2 → b ∈ fs) (hb : ∀ b ∈ bad, h.get? b = none) : Un fs [] H H' h h2 := by
  have nb : ∀ b o, h.get? b = some o → b ∉ bad := fun b o q z => by rw [hb b z] at q; cases q
  refine ⟨fun b o q n nf _ => k.keep b o (u.keep b o q n nf (by simp)) (fun z => nf (hf b o q z)) (nb b o q), fun b o q n hm _ => ?_, u.free, fun b o q _ => ?_, u.tups, u.frzs, u.tbls⟩
  · obtain ⟨sl, z⟩ := u.slot b o q n hm (by simp)
    by_cases y : b ∈ f2
    · obtain ⟨sl', z'⟩ := k.slot b _ z y
      exact ⟨sl', z'⟩
    · exact ⟨sl, k.keep b _ z y (nb b o q)⟩
  · obtain ⟨o', z⟩ := u.there b o q (by simp)
    by_cases y : b ∈ f2
    · obtain ⟨sl', z'⟩ := k.slot b _ z y
      exact ⟨_, z'⟩
    · exact ⟨o', k.keep b _ z y (nb b o q)⟩
theorem kp_hok {P : Program} {w : World} {f2 bad : List Addr} {H : Hp} {h1 h2 : Heap} (x : HOk P w H h1) (k : Kp f2 bad h1 h2) (hf : ∀ b ∈ f2, H b = none) (hb : ∀ b ∈ bad, H b = none) : HOk P w H h2 := fun a o e => by
  refine (x a o e).stay (fun b u hh q => k.keep b u q (fun z => ?_) (fun z => ?_)) (fun _ q => q) fun _ _ q => q
  · have := hf b z
    rcases hh with y | y
    · rw [y, e] at this; cases this
    · rw [y] at this; cases this
  · have := hb b z
    rcases hh with y | y
    · rw [y, e] at this; cases this
    · rw [y] at this; cases this
theorem obj_ex {P : Program} {w : World} {H : Hp} {h : Heap} {a : Addr} {o : HO} (x : ObjOk P w H h a o) : ∃ u, h.get? a = some u := by
  cases o with
  | lst xs => obtain ⟨_, _, _, _, q⟩ := x; exact ⟨_, q⟩
  | tup xs => obtain ⟨_, _, _, u, q, _⟩ := x; exact ⟨_, q⟩
  | dK kvs => obtain ⟨_, _, _, _, u, _, _, q, _⟩ := x; exact ⟨_, q⟩
  | dT kvs => obtain ⟨_, _, _, _, u, _, _, q, _⟩ := x; exact ⟨_, q⟩
  | set S n => obtain ⟨u, _, _, _, q, _⟩ := x; exact ⟨_, q⟩
  | ins C dx fs => obtain ⟨_, _, _, q, _⟩ := x; exact ⟨_, q⟩
  | own y => exact x
  | xd fs => obtain ⟨_, ⟨_, _, _, q, _⟩, _⟩ := x; exact ⟨_, q⟩
  | rng lo hi => obtain ⟨_, _, _, q⟩ := x; exact ⟨_, q⟩
  | frz ob u => obtain ⟨q, _⟩ := x; exact ⟨_, q⟩
  | tbl ps => exact ⟨_, x⟩
  | met f y => exact ⟨_, x⟩
  | ext φ => obtain ⟨_, q, _⟩ := x; exact q
noncomputable def XF (P : Program) (w : World) : CXT := fun outer H s E e s' => ∃ (ea T : Addr) (C : Value) (H' : Hp), e = .ref ea ∧ E C none H' ∧ s'.os = s.os ∧ AllBare s'.gens ∧ Un (frs outer) [] H H' s.heap s'.heap ∧ HOk P w H' s'.heap ∧ Xo s'.heap ea T C .none ∧
  s.heap.get? ea = none ∧ s.heap.get? T = none ∧ H' ea = none ∧ H' T = none
section
variable {P : Program} {w : World} {K : PySem.W.Frag} {mg : Str → Option Value} {base : Heap} {N : List Str} {qual : Str} {scope : Scope} {f : Addr} {cd : Value} {A : Around} {outer : List Env} {s : Shared} {H : Hp} {E : XK}
theorem frs_env : frs (envOfC qual scope s.heap.objs.size f cd :: outer) = s.heap.objs.size :: frs outer := rfl
theorem not_yet {b : Addr} {fs ex : List Addr} {Ha Hb : Hp} {h h1 : Heap} (u : Un fs ex Ha Hb h h1) (hx : b ∉ ex) (n : h1.get? b = none) : h.get? b = none := by
  cases q : h.get? b with
  | none => rfl
  | some o => obtain ⟨o', z⟩ := u.there b o q hx; rw [n] at z; cases z
theorem no_track {P : Program} {w : World} {Ha : Hp} {h1 : Heap} {b : Addr} (x : HOk P w Ha h1) (n : h1.get? b = none) : Ha b = none := by
  cases q : Ha b with
  | none => rfl
  | some o =>
    exfalso
    obtain ⟨u, z⟩ := obj_ex (x b o q)
    rw [n] at z; cases z
end
noncomputable abbrev vmro : List Value := [.type "ValueError", .type "Exception", .type "BaseException", .type "object"]
noncomputable def XC (K : PySem.W.Frag) (C : Addr) : Prop := PySem.W.excIn K C vmro "ValueError.__new__" = true
theorem XC.obj {K : PySem.W.Frag} {h : Heap} {C : Addr} (q : XC K C) (X : K.In h) : ∃ bm N nm qn bs hdct sn sub ab col dd k0 k1 k2 k3 k5 mN, h.get? C = some (excClassObj nm qn C N bs bm hdct sn sub ab col dd k0 k1 k2 k3 k5 "ValueError.__new__") ∧ h.Ns N mN ∧ mN "__init__" = none ∧ OwnTail h vmro bm := by
  unfold XC PySem.W.excIn at q
  split at q
  · rename_i dd cd sl ho
    split at q
    · rename_i D bm k0 k1 k2 k3 n k5 hm hs
      simp only [Bool.and_eq_true, beq_iff_eq, Bool.not_eq_true'] at q
      obtain ⟨⟨⟨⟨⟨eD, en⟩, hdel⟩, ht⟩, hok⟩, hni⟩ := q
      obtain ⟨nm, bs, mro, ns, qn, hd, sn, sub, ab, col, del⟩ := cd
      dsimp only at hm hdel hok hni
      subst eD en hm hdel
      have esl : sl = #[k0, k1, k2, k3, some (.builtin "ValueError.__new__"), k5] := by
        cases sl
        simp only at hs
        rw [hs]
      subst esl
      exact ⟨bm, ns, nm, qn, bs, hd, sn, sub, ab, col, dd, k0, k1, k2, k3, k5, _, X _ _ ho, .of_isNs (PySem.W.isNs_of_in X hok), PySem.W.nsMap_none_of_in X hok hni, PySem.W.tail_of_in X ht⟩
    · cases q
  · cases q
section
variable {X : Cx} {σ : St} {H : Hp} {D : Ends} {rest : List Stmt}
noncomputable def Rz (X : Cx) (E : St → XK) : Prop := ∀ (pins : List (Addr × Obj)) (σ : St) (H : Hp) (s : Shared) (h' : Heap) (e C : Addr) (args : List Value), Inv X pins σ H s → Heap.MadeExcOf s.heap h' e (.ref C) args → E σ (.ref C) none H → X.xe (.ref e) { s with heap := h' }
theorem run_raise {E : St → XK} (hz : Rz X E) {x : Str} {C : Addr} {a : Expr} {np cp pos : Pos} (hm : X.mg x = some (.ref C)) (hC : XC X.K C) (hc : X.calm = true) (h : Ea X [a] σ H fun vs H1 => vs.length ≤ sizeLine ∧ E σ (.ref C) none H1) (hg : Gl X x := by rfl) (hdb : (x == ("__debug__" : Str)) = false := by decide)
    (he : starEach [a] X.env = (false, eval a X.env) :: starEach [] X.env := by rfl) : Run X (.Raise (some (.Call (.Name x np) [a] [] cp)) none pos :: rest) D σ H := by
  refine run_cons (t := fun D σ H => Ea X [a] σ H fun vs H1 => vs.length ≤ sizeLine ∧ E σ (.ref C) none H1) ?_ h
  intro pins s σ H D I h
  obtain ⟨bm, N, nm, qn, bs, hdct, sn, sub, ab, col, dd, k0, k1, k2, k3, k5, mN, oC, oN, oi, oT⟩ := hC.obj I.ok.mod.kin
  refine wpAny_Raise_call_subT (C := C) (nm := nm) (q := qn) (N := N) (bs := bs) (bm := bm) (hdct := hdct) (sn := sn) (sub := sub) (ab := ab) (col := col) (dd := dd) (k0 := k0) (k1 := k1) (k2 := k2) (k3 := k3) (k5 := k5) PySem.F.excBase_ValueError (mN := mN) (oT.hasType PySem.F.excBase_ValueError.hasBase) (I.ok.hd hc) (by rw [he]; rfl) oi (ld_glob I hg hm ⟨rfl, ?_⟩ hdb)
  have q := h.run cp pins s I
  rw [he] at q ⊢
  refine Calls.evalArgs_plain (thn q fun us s2 ⟨vs, H2, I2, r, z2, q2⟩ => ⟨rfl, by rw [← r.length]; exact z2, I2.bk _ _ oC, oN.keeps I2.bk, oT.keeps I2.bk, fun h' e hx => hz pins σ H2 s2 h' e C us I2 hx q2⟩)
end
section
variable {P : Program} {w : World} {K : PySem.W.Frag} {mg : Str → Option Value} {base : Heap} {N : List Str} {qual : Str} {scope : Scope} {f : Addr} {cd : Value} {A : Around} {outer : List Env} {s : Shared} {H : Hp} {E : XK}
theorem kp_all {h h' : Heap} (k : ∀ b o, h.get? b = some o → h'.get? b = some o) : Kp [] [] h h' := ⟨fun b o q _ _ => k b o q, fun b o q z => absurd z (by simp)⟩
theorem rz_fn : Rz (cxOf (XF P w) P w K mg base N qual scope f cd A outer s H E) (fun _ => E) := by
  intro pins σ H1 s1 h' e C args I hx hE
  obtain ⟨t, he, _, _⟩ := hx.there
  show wpAny (model P w) (A.deeper (envOfC qual scope s.heap.objs.size f cd)) (leaving (envOfC qual scope s.heap.objs.size f cd) (.ref e)) _ _ _
  unfold leaving
  have n0 : H1 e = none := no_track I.hok hx.new
  have k1 := kp_all hx.keeps
  refine wpAny_bind (note_new (s := { s1 with heap := h' }) (base := base) (outer := outer) I.ok.frames (I.stack.of_keeps fun b o q _ => ⟨o, hx.keeps b o q, rfl⟩) rfl he rfl rfl rfl rfl fun h2 T z x k => ?_)
  have hok1 : HOk P w H1 h' := I.hok.kept hx.keeps
  have un1 : Un (frs outer) [] H H1 s.heap h' := kp_un (H := H) (h := s.heap) I.base k1 (fun b o q hb => absurd hb (by simp)) fun b hb => absurd hb (by simp)
  have nT : s1.heap.get? T = none := by
    cases q : s1.heap.get? T with
    | none => rfl
    | some o => have := hx.keeps _ _ q; exact absurd (this.symm.trans z) (by simp)
  have ns : s.heap.get? e = none := not_yet (ex := []) (Hb := H1) I.base (by simp) hx.new
  refine ⟨e, T, .ref C, H1, rfl, hE, I.os, I.bare, kp_un un1 k (fun b o q hb => ?_) (fun b hb => ?_), kp_hok hok1 k (fun b hb => I.stkFree b hb) (fun b hb => ?_), x, ns, not_yet (ex := []) (Hb := H1) I.base (by simp) nT, n0, no_track I.hok nT⟩
  · rw [frs_env] at hb
    rcases List.mem_cons.mp hb with y | y
    · exact absurd (Heap.lt_size q) (by rw [y]; exact Nat.lt_irrefl _)
    · exact y
  · rw [List.mem_singleton.mp hb]; exact ns
  · rw [List.mem_singleton.mp hb]; exact n0
noncomputable def cxX (N : List Str) (qual : Str) (scope : Scope) (P : Program) (w : World) (K : PySem.W.Frag) (mg : Str → Option Value) (base : Heap) (b : Bun) : Cx := cxOf (XF P w) P w K mg base N qual scope b.f b.cdv b.A b.outer b.s b.H b.E
theorem Fun.gx {x : Str} {st : Stmt} {fd : FuncData} {ps : List Str} {k : Nat} {sp : Sp} (F : Fun K x qual st f fd) (S : FnScope N ps (defScope st)) (len : ∀ vs H Q E, sp vs H Q E → vs.length = ps.length)
    (hbody : ∀ (b : Bun) (H : Hp) (vs : List V) (Q : VK), Room k (b.A.deeper (envOfC qual (defScope st) b.s.heap.objs.size b.f b.cdv)) → sp vs H Q b.E → Run (cxX N qual (defScope st) P w K mg base b) (defBody st) (En Q) (start N vs) H) : FnOk P w K mg base (XF P w) (k + 1) f fd ps sp := by
  obtain ⟨oc, od, kV, doc, pm, an, cdv, ct, osl, rfl, lk, hcd⟩ := F.ex
  refine fn_of lk hcd S len fun A outer s H vs Q E hr hsp => ?_
  exact ⟨_, pss_run, hbody ⟨f, cdv, A, outer, s, H, E⟩ H vs Q hr hsp⟩
theorem rzX {b : Bun} : Rz (cxX N qual scope P w K mg base b) (fun _ => b.E) := rz_fn
end
structure HasX (P : Program) (w : World) (K : PySem.W.Frag) (mg : Str → Option Value) (base : Heap) (k : Nat) (x : Str) (ps : List Str) (sp : Sp) : Prop where
  ex : ∃ f fd, FnOk P w K mg base (XF P w) k f fd ps sp ∧ Binds K fd ps [] ∧ PySem.W.keepIn K (.ref f) = true ∧ mg x = some (.ref f)
theorem HasX.mono {P : Program} {w : World} {K : PySem.W.Frag} {mg : Str → Option Value} {base : Heap} {j k : Nat} {x : Str} {ps : List Str} {sp : Sp} (h : HasX P w K mg base j x ps sp) (le : j ≤ k) : HasX P w K mg base k x ps sp :=
  let ⟨f, fd, F, r⟩ := h.ex; ⟨f, fd, F.mono le, r⟩
theorem ev_hasX {X : Cx} {k : Nat} {ps : List Str} {sp : Sp} {x : Str} {e : Expr} {es : List Expr} {σ : St} {H : Hp} {Q : VK} {E : XK} {p pos : Pos} (G : HasX X.prog X.w X.K X.mg X.base k x ps sp) (hr : Room k X.A) (hx : Passes (XF X.prog X.w) X E)
    (h : Ea X (e :: es) σ H fun vs H1 => sp vs H1 Q E) (hg : Gl X x := by rfl) (hdb : (x == ("__debug__" : Str)) = false := by decide) (hs : noStar (e :: es) = true := by rfl) : Ev X (.Call (.Name x p) (e :: es) [] pos) σ H Q :=
  let ⟨_, _, F, b, kp, m⟩ := G.ex; ev_call F hr m kp b hx h hg hdb hs
theorem Df.hasX {P : Program} {w : World} {K : PySem.W.Frag} {mg : Str → Option Value} {h base : Heap} {k : Nat} {x : Str} {st : Stmt} {ps : List Str} {sp : Sp} (d : Df K x st) (X : K.In h) (G : h.Ns mainGlobals mg)
    (hb : ∀ (kV doc pm : Value) (an : Option Addr) (cdv ct : Value) (us : List Value), us.length = ps.length → bindArgs (PySem.W.fnOf x x (defArgs st) (defBody st) (defScope st) .none kV doc pm an cdv ct) ⟨us, []⟩ = pure (ps.zip us))
    (ok : ∀ {f : Addr} {fd : FuncData}, Fun K x x st f fd → FnOk P w K mg base (XF P w) k f fd ps sp) : HasX P w K mg base k x ps sp :=
  let ⟨f, fd, a, F⟩ := d; ⟨f, fd, ok F, F.binds hb, F.kp, PySem.W.mg_of X G a⟩
noncomputable def PassS (CX : CXT) (X : Cx) (σ : St) (E : XK) : Prop := ∀ (pins : List (Addr × Obj)) (H : Hp) (s : Shared) (e : Value) (s' : Shared), Inv X pins σ H s → CX X.stack H s E e s' → X.xe e s'
section
variable {X : Cx} {CX : CXT} {k : Nat} {f : Addr} {fd : FuncData} {ps : List Str} {sp : Sp} {E : XK} {x : Str} {p pos : Pos} {e : Expr} {es : List Expr} {σ : St} {H : Hp} {Q : VK}
theorem ev_callS (F : FnOk X.prog X.w X.K X.mg X.base CX k f fd ps sp) (hr : Room k X.A) (hm : X.mg x = some (.ref f)) (hk : PySem.W.keepIn X.K (.ref f) = true) (hb : Binds X.K fd ps []) (hx : PassS CX X σ E) (h : Ea X (e :: es) σ H fun vs H1 => sp vs H1 Q E)
    (hg : Gl X x := by rfl) (hdb : (x == ("__debug__" : Str)) = false := by decide) (he : starEach (e :: es) X.env = (false, eval e X.env) :: starEach es X.env := by rfl) (hpl : (backTo pos (starEach es X.env)).any (·.1) = false := by rfl) : Ev X (.Call (.Name x p) (e :: es) [] pos) σ H Q := by
  refine ⟨fun pins s I => wpAny_Call_Name_kw (ld_glob I hg hm ?_ hdb)⟩
  refine PySem.W.callWith_K (h₀ := X.base) I.ok.mod.kin hk (thn (h.run pos pins s I) fun us s1 ⟨vs, H1, I1, r, q⟩ => ⟨I1.kIn, ?_⟩) he hpl
  have hl : us.length = ps.length := by rw [← r.length]; exact F.len _ _ _ _ q
  have hl2 : (us ++ []).length = ps.length := by rw [List.append_nil]; exact hl
  have hb2 := hb s1 us I1.kIn hl2
  rw [List.append_nil] at hb2
  refine wpAny_call (codeAny_mono (F.run X.A X.stack s1 H1 ⟨us, []⟩ us vs Q E hr I1.env0 hb2 r q) fun r s' hq => ?_)
  cases r with
  | error y => exact hx pins H1 s1 y s' I1 hq
  | ok fl =>
    cases fl with
    | ret u => exact I1.after hq
    | next => exact False.elim hq
    | brk => exact False.elim hq
    | cont => exact False.elim hq
theorem ev_hasS (G : HasX X.prog X.w X.K X.mg X.base k x ps sp) (hr : Room k X.A) (hx : PassS (XF X.prog X.w) X σ E) (h : Ea X (e :: es) σ H fun vs H1 => sp vs H1 Q E)
    (hg : Gl X x := by rfl) (hdb : (x == ("__debug__" : Str)) = false := by decide) (he : starEach (e :: es) X.env = (false, eval e X.env) :: starEach es X.env := by rfl) (hpl : (backTo pos (starEach es X.env)).any (·.1) = false := by rfl) : Ev X (.Call (.Name x p) (e :: es) [] pos) σ H Q :=
  let ⟨_, _, F, b, kp, m⟩ := G.ex; ev_callS F hr m kp b hx h hg hdb he hpl
end
end L2
namespace L2
open PySem PySem.Spec PyProof.Rows
noncomputable abbrev XO (oe : Obj) : HO := .frz oe (.own 0)
structure IsX (oe : Obj) (C : Value) : Prop where
  cls : oe.cls = C
  dict : oe.dict = none
  data : ∃ vs, oe.data = .fields vs ∧ vs[2]? = some .none
noncomputable abbrev Cx.pinsOn (X : Cx) (p : List (Addr × Obj)) : Cx := { X with pn := X.pn ++ p }
structure Apt (X : Cx) (pins : List (Addr × Obj)) (b : Addr) : Prop where
  l : b ≠ X.env.locals
  c : ∀ x c, X.env.cells.lookup x = some c → c ≠ b
  p : ∀ q ∈ X.pn ++ pins, q.1 ≠ b
  f : b ∉ X.fs
  s : X.s₀.heap.get? b = none
section
variable {X : Cx} {pins : List (Addr × Obj)} {σ : St} {H : Hp} {s : Shared} {b : Addr}
theorem apt_of (I : Inv X pins σ H s) (hex : X.ex = []) (n : s.heap.get? b = none) : Apt X pins b := by
  refine ⟨fun z => ?_, fun x c e z => ?_, fun q hq z => ?_, fun z => ?_, not_yet I.base (by rw [hex]; simp) n⟩
  · obtain ⟨m, ⟨o, _, _, ho, _⟩, _⟩ := I.loc
    rw [← z, n] at ho; cases ho
  · obtain ⟨v, o, ho, _⟩ := I.cell x c e
    rw [z, n] at ho; cases ho
  · have := (I.pin q hq).1
    rw [z, n] at this; cases this
  · obtain ⟨_, o, ho, _⟩ := I.funs.mem z
    rw [n] at ho; cases ho
theorem Inv.kp {bad : List Addr} {h' : Heap} {t' : Nat} (I : Inv X pins σ H s) (hex : X.ex = []) (k : Kp (frs X.stack) bad s.heap h') (ha : ∀ b ∈ bad, Apt X pins b) (hn : ∀ b ∈ bad, H b = none) : Inv X pins σ H { s with heap := h', toks := t' } := by
  have kc : ∀ x c, X.env.cells.lookup x = some c → ∀ v, s.heap.IsCell c v → h'.IsCell c v := fun x c e v ⟨o, ho, hd⟩ => by
    by_cases y : c ∈ frs X.stack
    · obtain ⟨sl, z⟩ := k.slot c o ho y
      exact ⟨_, z, hd⟩
    · exact ⟨o, k.keep c o ho y (fun w => (ha c w).c x c e rfl), hd⟩
  have kl : ∀ m, s.heap.Ns X.env.locals m → h'.Ns X.env.locals m := fun m hm => by
    obtain ⟨o, es, ep, ho, r⟩ := hm
    by_cases y : X.env.locals ∈ frs X.stack
    · obtain ⟨sl, z⟩ := k.slot _ o ho y
      exact ⟨_, es, ep, z, r⟩
    · exact ⟨o, es, ep, k.keep _ o ho y (fun w => (ha _ w).l rfl), r⟩
  refine ⟨I.ok, I.os, I.bare, ?_, ?_, fun x c e => ?_, I.free, I.freeC, fun p hp => ?_, kp_hok I.hok k (fun b hb => I.stkFree b hb) hn, I.len⟩
  · have u := I.base
    rw [hex] at u ⊢
    refine kp_un u k (fun b o q hb => ?_) fun b hb => (ha b hb).s
    rcases List.mem_cons.mp (I.stkSub b hb) with y | y
    · exact absurd (Nat.lt_of_lt_of_le (Heap.lt_size q) I.ok.above) (by rw [y]; exact Nat.lt_irrefl _)
    · exact y
  · obtain ⟨m, hm, hl⟩ := I.loc
    refine ⟨m, kl m hm, fun i x v e1 e2 e3 => ?_⟩
    obtain ⟨u, r, q⟩ := hl i x v e1 e2 e3
    refine ⟨u, r, ?_⟩
    rcases q with q | ⟨y, c, e, z⟩
    · exact .inl q
    · exact .inr ⟨y, c, e, kc x c e _ z⟩
  · obtain ⟨v, z⟩ := I.cell x c e
    exact ⟨v, kc x c e v z⟩
  · obtain ⟨e, n, ne, nf, d⟩ := I.pin p hp
    refine ⟨k.keep _ _ e (fun y => ?_) (fun w => (ha _ w).p p hp rfl), n, ne, nf, d⟩
    rcases List.mem_cons.mp (I.stkSub _ y) with z | z
    · exact ne z
    · exact nf z
theorem Inv.track {o : HO} (I : Inv X pins σ H s) (hex : X.ex = []) (a : Apt X pins b) (n : H b = none) (ho : ObjOk X.prog X.w (upd H b o) s.heap b o) : Inv X pins σ (upd H b o) s := by
  have u := I.base
  have ne : ∀ c o', H c = some o' → c ≠ b := fun c o' q z => by rw [z, n] at q; cases q
  refine ⟨I.ok, I.os, I.bare, ⟨u.keep, u.slot, fun c o' q n' hx => ?_, u.there, fun c xs q => ?_, fun c o' v q => ?_, fun c ps q => ?_⟩, I.loc, I.cell, by rw [upd_ne (Ne.symm a.l)]; exact I.free, fun x c e => by rw [upd_ne (a.c x c e)]; exact I.freeC x c e, fun p hp => ?_, fun c o' q => ?_, I.len⟩
  · have : c ≠ b := fun z => by rw [z, a.s] at q; cases q
    rw [upd_ne this]
    exact u.free c o' q n' hx
  · have q' := u.tups c xs q
    rw [upd_ne (ne _ _ q')]; exact q'
  · have q' := u.frzs c o' v q
    rw [upd_ne (ne _ _ q')]; exact q'
  · obtain ⟨m, q'⟩ := u.tbls c ps q
    exact ⟨m, by rw [upd_ne (ne _ _ q')]; exact q'⟩
  · obtain ⟨e, n', r⟩ := I.pin p hp
    exact ⟨e, by rw [upd_ne (a.p p hp)]; exact n', r⟩
  · by_cases y : c = b
    · subst y
      rw [upd_same] at q
      cases q
      exact ho
    · rw [upd_ne y] at q
      exact (I.hok c o' q).stay (fun _ _ _ z => z) (fun d z => by rw [upd_ne (ne _ _ z)]; exact z) fun d xs z => by rw [upd_ne (ne _ _ z)]; exact z
end
noncomputable def Cgt (X : Cx) (Φ : Value → St → Hp → Prop) (e : Value) (s' : Shared) : Prop := ∃ (pins : List (Addr × Obj)) (σ : St) (H : Hp) (ea T : Addr) (C : Value), e = .ref ea ∧ Inv X pins σ H s' ∧ Xo s'.heap ea T C .none ∧ Apt X pins ea ∧ Apt X pins T ∧ H ea = none ∧ H T = none ∧ Φ C σ H
noncomputable abbrev tryCx (X : Cx) (p : List (Addr × Obj)) (Φ : Value → St → Hp → Prop) : Cx := (X.pinsOn p).wish (Cgt (X.pinsOn p) Φ)
theorem passT {X : Cx} {p : List (Addr × Obj)} {Φ : Value → St → Hp → Prop} {σ : St} (hex : X.ex = []) : PassS (XF X.prog X.w) (tryCx X p Φ) σ (fun C _ H' => Φ C σ H') := by
  rintro pins H s e s' I ⟨ea, T, C, H', rfl, hE, os, bare, un, hok, x, n1, n2, n3, n4⟩
  have I2 := I.call' (ch := []) os un hok bare (fun b z => absurd z (by simp))
  have J : Inv (X.pinsOn p) pins σ H s := I.unwish
  exact ⟨pins, σ, H', ea, T, C, rfl, I2.unwish, x, apt_of J hex n1, apt_of J hex n2, n3, n4, hE⟩
noncomputable abbrev hdCx (X : Cx) (p : List (Addr × Obj)) (ea : Addr) : Cx := { X with A := X.A.mark (some (.ref ea)), calm := false, pn := X.pn ++ p, xe := fun _ _ => False }
theorem Inv.hd {X : Cx} {p pins : List (Addr × Obj)} {σ : St} {H : Hp} {s : Shared} {ea : Addr} (I : Inv (X.pinsOn p) pins σ H s) : Inv (hdCx X p ea) pins σ H s :=
  ⟨⟨I.ok.mod, I.ok.kind, I.ok.glob, I.ok.blt, I.ok.above, I.ok.inj, I.ok.has, I.ok.cab, (fun z => (nomatch z)), I.ok.frames, I.ok.stk, I.ok.exf, I.ok.bs, I.ok.bsz, I.ok.noex, I.ok.exfs, I.ok.funs, I.ok.frf⟩, I.os, I.bare, I.base, I.loc, I.cell, I.free, I.freeC, I.pin, I.hok, I.len⟩
theorem Inv.unhd {X : Cx} {p pins pins0 : List (Addr × Obj)} {σ : St} {H : Hp} {s : Shared} {ea : Addr} (I : Inv (hdCx X p ea) pins σ H s) (hc : X.calm = true → X.A.handled = none) : Inv (X.pinsOn p) pins σ H s :=
  ⟨⟨I.ok.mod, I.ok.kind, I.ok.glob, I.ok.blt, I.ok.above, I.ok.inj, I.ok.has, I.ok.cab, hc, I.ok.frames, I.ok.stk, I.ok.exf, I.ok.bs, I.ok.bsz, I.ok.noex, I.ok.exfs, I.ok.funs, I.ok.frf⟩, I.os, I.bare, I.base, I.loc, I.cell, I.free, I.freeC, I.pin, I.hok, I.len⟩
theorem Inv.pinsIn {X : Cx} {p pins : List (Addr × Obj)} {σ : St} {H : Hp} {s : Shared} (I : Inv X p σ H s) : Inv (X.pinsOn p) [] σ H s :=
  ⟨⟨I.ok.mod, I.ok.kind, I.ok.glob, I.ok.blt, I.ok.above, I.ok.inj, I.ok.has, I.ok.cab, I.ok.hd, I.ok.frames, I.ok.stk, I.ok.exf, I.ok.bs, I.ok.bsz, I.ok.noex, I.ok.exfs, I.ok.funs, I.ok.frf⟩, I.os, I.bare, I.base, I.loc, I.cell, I.free, I.freeC, fun q hq => I.pin q (by simpa using hq), I.hok, I.len⟩
theorem Inv.pinsOut {X : Cx} {p pins : List (Addr × Obj)} {σ : St} {H : Hp} {s : Shared} (I : Inv (X.pinsOn p) pins σ H s) : Inv X p σ H s :=
  ⟨⟨I.ok.mod, I.ok.kind, I.ok.glob, I.ok.blt, I.ok.above, I.ok.inj, I.ok.has, I.ok.cab, I.ok.hd, I.ok.frames, I.ok.stk, I.ok.exf, I.ok.bs, I.ok.bsz, I.ok.noex, I.ok.exfs, I.ok.funs, I.ok.frf⟩, I.os, I.bare, I.base, I.loc, I.cell, I.free, I.freeC, fun q hq => I.pin q (List.mem_append_left _ hq), I.hok, I.len⟩
noncomputable def mroHas (K : PySem.W.Frag) (C S : Addr) : Bool := match K.lookup C with
  | some ⟨_, _, .cls cd, _⟩ => cd.mro.contains (.ref S)
  | _ => false
theorem mro_in {K : PySem.W.Frag} {h : Heap} {C S : Addr} (X : K.In h) (q : mroHas K C S = true) {nm qn : Str} {N : Addr} {bs bm : List Value} {hdct : Bool} {sn : List Str} {sub : List Value} {ab : Bool} {col : Option Bool} {dd : Option Addr} {k0 k1 k2 k3 k5 : Option Value} {nid : String}
    (oC : h.get? C = some (excClassObj nm qn C N bs bm hdct sn sub ab col dd k0 k1 k2 k3 k5 nid)) : (Value.ref C :: bm).contains (.ref S) = true := by
  unfold mroHas at q
  split at q
  · rename_i ho
    have := (X _ _ ho).symm.trans oC
    cases this
    exact q
  · cases q
section
variable {M : Model} {A : Around} {E : Value → Shared → Prop} {K : PySem.W.Frag} {s : Shared}
theorem exc_match {e C S : Addr} {oe : Obj} {Q : Bool → Shared → Prop} (X : K.In s.heap) (hC : XC K C) (hS : XC K S) (hm : mroHas K C S = true) (he : s.heap.get? e = some oe) (hc : oe.cls = .ref C) (h : Q true s) : wpAny M A (excMatches (.ref e) (.ref S)) Q E s := by
  obtain ⟨bm, N, nm, qn, bs, hdct, sn, sub, ab, col, dd, k0, k1, k2, k3, k5, mN, oC, oN, oi, oT⟩ := hC.obj X
  obtain ⟨bm', N', nm', qn', bs', hdct', sn', sub', ab', col', dd', k0', k1', k2', k3', k5', mN', oS, oN', oi', oT'⟩ := hS.obj X
  have c1 := mro_in X hm oC
  have c2 : (Value.ref S :: bm').contains (.type "BaseException") = true := by rw [List.contains_cons, oT'.hasType PySem.F.excBase_ValueError.hasBase, Bool.or_true]
  have f := tc_notTuple
  obtain ⟨hh, g, d, tk, os⟩ := s
  unfold excMatches
  repeat (first | (with_reducible refine wpAny_loadPart_at he ?_; rw [hc]) | with_reducible refine wpAny_loadPart_at oS ?_ | (with_reducible refine wpAny_isSubtype_exc oS ?_; rw [c2]) | (with_reducible refine wpAny_isSubtype_exc oC ?_; rw [c1]) | wp_step)
  exact h
end
end L2
namespace L2
open PySem PySem.Spec PyProof.Rows
section
variable {X : Cx} {pins : List (Addr × Obj)} {σ : St} {H : Hp} {s : Shared}
theorem Inv.name_gone {M : Model} {A : Around} {E : Value → Shared → Prop} {Q : Unit → Shared → Prop} {i : Nat} {n : Str} {pos : Pos} (I : Inv X pins σ H s) (hN : X.N.Nodup) (hi : X.N[i]? = some n) (hl : X.env.scope.names.lookup n = some .local)
    (h : ∀ s', Inv X pins (σ.set i none) H s' → Q () s') : wpAny M A (do bindName X.env n .none; unbindBehindTheSuite X.env n pos) Q E s := by
  obtain ⟨m, hn, hloc⟩ := id I.loc
  have hcls : (X.env.scope.kind == .class || (X.env.scope.kind == .module && X.env.locals != X.env.globals)) = false := by rw [I.ok.kind]; rfl
  have hiσ : i < σ.length := by rw [I.len]; exact (List.getElem?_eq_some_iff.mp hi).1
  obtain ⟨oL, _, _, hoL, _⟩ := id hn
  refine wpAny_nameGoes_keeps hl hn hcls fun h' v hn' hs => h _ ?_
  have low : ∀ b o, X.s₀.heap.get? b = some o → b ≠ X.env.locals := fun b o q => Nat.ne_of_lt (Nat.lt_of_lt_of_le (Heap.lt_size q) I.ok.above)
  refine ⟨I.ok, I.os, I.bare, ⟨fun b o q n' hb hx => (hs.2 b (low b o q)).trans (I.base.keep b o q n' hb hx), fun b o q n' hb hx => ?_, I.base.free, fun b o q hx => ?_, I.base.tups, I.base.frzs, I.base.tbls⟩, ⟨_, hn', fun j y v' e1 e2 e3 => ?_⟩, fun y c q => ?_, I.free, I.freeC, fun p hp => ?_, fun b u q => ?_, by rw [List.length_set]; exact I.len⟩
  · obtain ⟨sl, z⟩ := I.base.slot b o q n' hb hx
    exact ⟨sl, (hs.2 b (low b o q)).trans z⟩
  · obtain ⟨o', z⟩ := I.base.there b o q hx
    exact ⟨o', (hs.2 b (low b o q)).trans z⟩
  · by_cases hj : j = i
    · subst hj
      rw [List.getElem?_set_self hiσ] at e2
      cases e2
    · rw [List.getElem?_set_ne (Ne.symm hj)] at e2
      obtain ⟨u, r, q⟩ := hloc j y v' e1 e2 e3
      refine ⟨u, r, ?_⟩
      rcases q with ⟨k, z⟩ | ⟨k, c, z, w⟩
      · have : y ≠ n := fun z => hj (nodup_ix hN e1 (z ▸ hi))
        exact .inl ⟨k, by simp [this, z]⟩
      · exact .inr ⟨k, c, z, w.sameBut hs (I.cne y c z)⟩
  · obtain ⟨v2, z⟩ := I.cell y c q
    exact ⟨v2, z.sameBut hs (I.cne y c q)⟩
  · obtain ⟨e, n', ne, nf, d⟩ := I.pin p hp
    exact ⟨(hs.2 p.1 ne).trans e, n', ne, nf, d⟩
  · refine (I.hok b u q).stay (fun c w' hc z => (hs.2 c ?_).trans z) (fun _ z => z) fun _ _ z => z
    rintro rfl
    rcases hc with hc | hc
    · rw [← hc, I.free] at q; cases q
    · rw [I.free] at hc; cases hc
end
noncomputable def exEnds (X : Cx) (D : Ends) (rest : List Stmt) (i : Nat) : Ends := { nx := fun σ H => Run X rest D (σ.set i none) H, rt := D.rt, bk := fun σ H => D.bk (σ.set i none) H, ct := fun σ H => D.ct (σ.set i none) H }
theorem run_try {X : Cx} {σ : St} {H : Hp} {D : Ends} {rest body suite : List Stmt} {b₀ : Stmt} {x n : Str} {S : Addr} {np hp pos : Pos} (i : Nat) (Φ : Value → St → Hp → Prop) (hm : X.mg x = some (.ref S)) (hS : XC X.K S) (hN : X.N.Nodup)
    (hb : ∀ p, Run (tryCx X p Φ) body { D with nx := fun σ' H' => Run X rest D σ' H' } σ H)
    (hh : ∀ C σ' H', Φ C σ' H' → ∃ Ca, C = .ref Ca ∧ XC X.K Ca ∧ mroHas X.K Ca S = true ∧ ∀ p ea oe, IsX oe C → H' ea = none → Run (hdCx X p ea) (b₀ :: suite) (exEnds X D rest i) (σ'.set i (some (.ref ea))) (upd H' ea (XO oe)))
    (hi : X.N[i]? = some n := by rfl) (hl : X.env.scope.names.lookup n = some .local := by rfl) (hex : X.ex = [] := by rfl) (hst : X.stack = X.env :: X.outer := by rfl) (hfr : X.env.frame = some X.env.locals := by rfl)
    (hfn : X.fn n = true ∨ X.env.scope.names.lookup n = some .local := by first | exact .inl rfl | exact .inr rfl) (hg : Gl X x := by rfl) (hdb : (x == ("__debug__" : Str)) = false := by decide) :
    Run X (.Try body [.ExceptHandler (some (.Name x np)) (some n) (b₀ :: suite) hp] [] [] pos :: rest) D σ H := by
  refine run_cons (t := fun D' σ H => ∀ p, Run (tryCx X p Φ) body { D with nx := fun σ' H' => Run X rest D σ' H' } σ H ∧ D' = { D with nx := fun σ' H' => Run X rest D σ' H' }) ?_ fun p => ⟨hb p, rfl⟩
  intro p0 s σ H D' I h
  obtain ⟨hb, rfl⟩ := h p0
  refine wpAny_Try_except (wpAny_mono (hb.run [] s ((I.pinsIn (pins := [])).wish _)) (fun f s1 q => ?_) fun e s1 q => ?_)
  · have out : ∀ {pp : List (Addr × Obj)} {σ' : St} {H' : Hp}, Inv (tryCx X p0 Φ) pp σ' H' s1 → Inv X p0 σ' H' s1 := fun J => (J.unwish).pinsOut
    cases f with
    | next =>
      obtain ⟨σ', H', J, q⟩ := q
      exact pss_nil p0 s1 σ' H' _ (out J) q
    | brk => obtain ⟨σ', H', J, q⟩ := q; exact ⟨σ', H', out J, q⟩
    | cont => obtain ⟨σ', H', J, q⟩ := q; exact ⟨σ', H', out J, q⟩
    | ret u => obtain ⟨v, σ', H', J, r, q⟩ := q; exact ⟨v, σ', H', out J, r, q⟩
  · obtain ⟨pp, σ', H', ea, T, C, rfl, J, x1, a1, a2, n1, n2, hΦ⟩ := q
    obtain ⟨Ca, rfl, hC, hmro, hrun⟩ := hh C σ' H' hΦ
    have fr : (X.pinsOn p0).A.frames = some (X.env :: X.outer) := by rw [← hst]; exact J.ok.frames
    have stk : s1.heap.FunFrames X.base (X.env :: X.outer) := by rw [← hst]; exact J.stack
    refine note_on fr stk hfr x1 fun h2 T' z x2 k => ?_
    have k' : Kp (frs (X.pinsOn p0).stack) [ea, T] s1.heap h2 := by
      show Kp (frs X.stack) [ea, T] s1.heap h2
      rw [hst]; exact k
    have J2 : Inv (X.pinsOn p0) pp σ' H' { s1 with heap := h2 } := J.kp (t' := s1.toks) hex k' (fun b hb => by
      rcases List.mem_cons.mp hb with y | y
      · rw [y]; exact a1
      · rw [List.mem_singleton.mp y]; exact a2) (fun b hb => by
      rcases List.mem_cons.mp hb with y | y
      · rw [y]; exact n1
      · rw [List.mem_singleton.mp y]; exact n2)
    have a3 := apt_of J hex z
    have n3 : H' T' = none := no_track J.hok z
    have J3 : Inv (hdCx X p0 ea) pp σ' H' { s1 with heap := h2 } := J2.hd
    obtain ⟨⟨oe, vs, he, hc, hdi, hd, h1, h2'⟩, hne, htr⟩ := id x2
    refine wpAny_handleBy_cons (codeAny_handlers_test (ld_glob J3 hg hm ?_ hdb)) (by intro q; cases q)
    refine exc_match J3.kIn hC hS hmro he hc ?_
    refine codeAny_handlers_suite_as (land_again x2 fun h3 x3 k3 => ?_)
    have J4 : Inv (hdCx X p0 ea) pp σ' H' { s1 with heap := h3 } := J3.kp (s := { s1 with heap := h2 }) (t' := s1.toks) (bad := [T']) hex ⟨fun b o q _ nb => k3 b o (fun y => nb (by simp [y])) q, fun b o q hb => ⟨o.slots, k3 b o (fun y => by
      obtain ⟨_, o', ho', hn'⟩ := J3.stack.mem hb
      obtain ⟨oT, ts, hT, dT, _⟩ := htr
      rw [y] at ho'
      have := ho'.symm.trans hT
      cases this
      exact hn' _ dT) q⟩⟩ (fun b hb => by rw [List.mem_singleton.mp hb]; exact ⟨a3.l, a3.c, a3.p, a3.f, a3.s⟩) (fun b hb => by rw [List.mem_singleton.mp hb]; exact n3)
    obtain ⟨⟨oe3, vs3, he3, hc3, hdi3, hd3, h13, h23⟩, _, _⟩ := x3
    have J5 : Inv (hdCx X p0 ea) pp σ' (upd H' ea (XO oe3)) { s1 with heap := h3 } := J4.track hex ⟨a1.l, a1.c, a1.p, a1.f, a1.s⟩ n1 ⟨he3, ⟨_, he3⟩⟩
    refine store_ok (X := hdCx X p0 ea) J5 hN hi (Or.inl hl) (v := .ref ea) rfl (fun s4 J6 => ?_) hfn
    refine wpAny_mono ((hrun p0 ea oe3 ⟨hc3, hdi3, vs3, hd3, h23⟩ n1).run pp s4 J6) (fun f s5 q => ?_) fun _ _ z => z.elim
    have out : ∀ {σ2 : St} {H2 : Hp} {s6 : Shared}, Inv (hdCx X p0 ea) pp σ2 H2 s6 → Inv X p0 σ2 H2 s6 := fun J => ((J.unhd (pins0 := []) J2.ok.hd).pinsOut)
    cases f with
    | next =>
      obtain ⟨σ2, H2, J7, q⟩ := q
      exact J7.name_gone hN hi hl fun s6 J8 => ⟨_, H2, out J8, q⟩
    | brk =>
      obtain ⟨σ2, H2, J7, q⟩ := q
      exact J7.name_gone hN hi hl fun s6 J8 => ⟨_, H2, out J8, q⟩
    | cont =>
      obtain ⟨σ2, H2, J7, q⟩ := q
      exact J7.name_gone hN hi hl fun s6 J8 => ⟨_, H2, out J8, q⟩
    | ret u =>
      obtain ⟨v, σ2, H2, J7, r, q⟩ := q
      exact J7.name_gone hN hi hl fun s6 J8 => ⟨v, _, H2, out J8, r, q⟩
end L2
namespace L2
open PySem PySem.Spec PyProof.Rows PySem.W
section
variable {prog : Program} {w : World} {A : Around} {E : Value → Shared → Prop} {s : Shared} {K : Frag} {a C : Addr} {o : Obj}
noncomputable def xLook (K : Frag) (C : Addr) : Bool := findIn K (.ref C) "__getattribute__" == some (some (.builtin "BaseException.__getattribute__")) && findIn K (.ref C) "__getattr__" == some none && findIn K (.ref C) "__class__" == some (some (.builtin "object.__class__")) &&
  mroIn K C (.type "object") == some true && mroIn K C (.type "BaseException") == some true && (clsIn K C).isSome
theorem cls_attr {Q : Option Value → Shared → Prop} (X : K.In s.heap) (I : InstAt s.heap a o C none) (q : xLook K C = true) (hq : Q (some (.ref C)) { s with toks := s.toks + 1 }) : wpAny (model prog w) A (getAttr? (.ref a) "__class__") Q E s := by
  unfold xLook at q
  simp only [Bool.and_eq_true, beq_iff_eq] at q
  obtain ⟨⟨⟨⟨⟨h1, h2⟩, h3⟩, h4⟩, h5⟩, _⟩ := q
  obtain ⟨hh, g, d, t, os⟩ := s
  have L0 := I.type (M := model prog w)
  have L1 := looks_findIn (M := model prog w) X h1
  have L2 := looks_findIn (M := model prog w) X h2
  have L3 := looks_findIn (M := model prog w) X h3
  have L5 := looks_mroIn (M := model prog w) X h5
  unfold getAttr? getAttrBy? getAttrBy
  refine wpAny_bind (wpAny_mkText (wpAny_bind (wpAny_attempt (wpAny_holding (wpAny_bind (L0.at (wpAny_bind (L1.at ?_))))))))
  show wpAny _ _ (getAttrByItsOwn _ _ _ _ _ _) _ _ _
  unfold getAttrByItsOwn hookBefore callGetattribute boundAndCalled
  have f3 := F.attr_ValueError.ga.bind (.ref a)
  refine wpAny_bind ?_
  show wpAny _ _ (typeLookup (.ref C) "__getattr__") _ _ _
  refine L2.at ?_
  refine wpAny_bind (wpAny_attempt (wpAny_holding ?_))
  rw [if_neg (by decide)]
  rw [f3]
  refine wpAny_bind (wpAny_pure ?_)
  refine wpAny_call (codeAny_call_builtin F.attr_ValueError.ga.plain F.entry_bexc_ga ?_)
  have hk : builtinKind "BaseException.__getattribute__" = some .slot := by decide +kernel
  have hsp : splitId "BaseException.__getattribute__" = some ("BaseException", "__getattribute__") := by decide +kernel
  have ha := F.args_bexc_ga (.ref a) (.str "__class__" t)
  simp only [checkBuiltinCall, hk, hsp]
  refine wpAny_bind ?_
  unfold isInstance
  have LB : Looks (model prog w) hh (isSubtype (.ref C) (.type "BaseException")) true := L5
  repeat lk
  have hid : (toString "getset_descriptor" ++ toString "." ++ toString (Str.ofString "__get__").toString : String) = "getset_descriptor.__get__" := by decide +kernel
  rw [hid]
  refine wpAny_run (c := .call (.builtin "getset_descriptor.__get__") ⟨[.builtin "object.__class__", .ref a, .ref C], []⟩) (h := none) ?_
  refine class_get (s := ⟨hh, g, d, t + 1, os⟩) (K := K) X I h4 ?_
  repeat lk
  exact hq
theorem kitx_exc (q : xLook K C = true) : KitX K (.ref a) (.ref C) (fun h => ∃ o, InstAt h a o C none) where
  ty := fun _ _ _ ⟨_, I⟩ => I.type
  it := fun _ _ X _ => by
    unfold xLook at q
    rw [Bool.and_eq_true] at q
    have z := q.2
    unfold clsIn at z
    split at z
    · rename_i ho
      intro A' Q' E' s' k r
      unfold isType loadHead
      exact wpAny_bind (wpAny_loadPart (k _ _ (X _ _ ho)) (wpAny_pure r))
    · cases z
  ne := fun h tp dd its n sl X htp => by
    unfold xLook at q
    rw [Bool.and_eq_true] at q
    have z := q.2
    refine Bool.eq_false_iff.mpr fun y => ?_
    have e : C = tp := Value.ref.inj (beq_iff_eq.mp y)
    subst e
    unfold clsIn at z
    split at z
    · rename_i ho
      cases (X _ _ ho).symm.trans htp
    · cases z
  ca := fun X ⟨_, I⟩ k => cls_attr X I q k
end
end L2
namespace L2
open PySem PySem.Spec PyProof.Rows
theorem inst_of {h : Heap} {ea C : Addr} {oe : Obj} (he : h.get? ea = some oe) (x : IsX oe (.ref C)) : PySem.W.InstAt h ea oe C none := by
  obtain ⟨vs, hd, _⟩ := x.data
  refine ⟨he, x.cls, ?_, ?_⟩
  · unfold PySem.W.notCls
    rw [hd]
  · rw [x.dict]; exact True.intro
theorem call_isiX {X : Cx} : CallR X (.builtin "isinstance") (fun xs H Q => ∃ ea C oe c v b, xs = [.ref ea, v] ∧ (∀ u, RelV v u → u = c) ∧ H ea = some (XO oe) ∧ IsX oe (.ref C) ∧ xLook X.K C = true ∧ PySem.W.kitOne X.K (.ref C) c = some b ∧ Q (.bl b) H) := by
  intro pins s σ H xs us Q I r h
  obtain ⟨ea, C, oe, c, v, b, rfl, hv, hH, ix, hl, e, q⟩ := h
  obtain ⟨u, w', rfl, ru, rw'⟩ := vals2 r
  cases (show u = Value.ref ea from ru)
  cases hv _ rw'
  have he : s.heap.get? ea = some oe := (show ObjOk X.prog X.w H s.heap ea (XO oe) from I.hok ea _ hH).1
  exact PySem.W.kia_one (kitx_exc hl) I.kIn ⟨oe, inst_of he ix⟩ e (fun z => nomatch z) fun tk => ⟨.bl b, H, I.tok tk, rfl, q⟩
theorem entry_unchain : entryFor table "proto.unchain" = some Builtin.«proto.unchain» := entryFor_of_tree (by kernel_rfl)
section
variable {prog : Program} {w : World} {A : Around} {E : Value → Shared → Prop} {s : Shared}
theorem raise_over {α : Type} {a ea : Addr} {oa oe : Obj} {vs us : Array Value} {Q : α → Shared → Prop} (hh : A.handled = some (.ref ea)) (ha : s.heap.get? a = some oa) (hda : oa.data = .fields us) (h2 : 2 < us.size) (hne : ea ≠ a) (he : s.heap.get? ea = some oe) (hde : oe.data = .fields vs) (h0 : vs[2]? = some .none)
    (h : E (.ref a) { s with heap := s.heap.update a (Obj.mapFields (·.setIfInBounds 2 (.ref ea))) }) : wpAny (model prog w) A (raiseNew (.ref a) : Sem α) Q E s := by
  unfold raiseNew
  refine wpAny_bind (wpAny_handled ?_)
  rw [hh]
  simp only
  have nn : (Value.ref ea != Value.ref a) = true := by
    rw [bne_iff_ne]
    exact fun q => hne (Value.ref.inj q)
  rw [if_pos nn]
  refine wpAny_bind (wpAny_holding (wpAny_runValue (codeAny_builtin entry_unchain ?_)))
  unfold Builtin.«proto.unchain»
  simp only
  refine wpAny_bind (wpAny_field he hde h0 ?_)
  rw [if_pos (by decide)]
  refine wpAny_bind (wpAny_pure ?_)
  refine wpAny_pure ?_
  show wpAny (model prog w) A (updateField a 2 (Value.ref ea) >>= fun _ => (throw (Value.ref a) : Sem α)) Q E s
  refine wpAny_bind ?_
  have q : wpAny (model prog w) A (setField (.ref a) 2 (.ref ea)) (fun _ s' => wpAny (model prog w) A (throw (Value.ref a) : Sem α) Q E s') E s := wpAny_setField ha hda h2 (wpAny_throw h)
  exact q
theorem next_endH {it l ea : Addr} {i : Nat} {items : Array Value} {oe : Obj} {vs : Array Value} {Q : Option Value → Shared → Prop} (hh : A.handled = some (.ref ea)) (he : s.heap.get? ea = some oe) (hde : oe.data = .fields vs) (h0 : vs[2]? = some .none) (hei : ea ≠ it)
    (hit : s.heap.IsListIter it l i) (hl : s.heap.IsList l items) (hx : items[i]? = none) (hQ : ∀ h', Heap.ExtBut it s.heap h' → Q none { s with heap := h' }) : wpAny (model prog w) A (pyNext (.ref it)) Q E s := by
  obtain ⟨o, ho, hc, hd⟩ := id hit
  obtain ⟨ol, hol, _, nl, hdl⟩ := hl
  unfold pyNext
  refine wpAny_bind (wpAny_attempt (wpAny_callSpecial?_slot (name := Str.ofString "__next__") hit.typeIs slot_listiter_next (wpAny_call_entry slot_listiter_next hit.typeIs entry_listiter_next ?_ (args_listiter_next _))))
  refine wpAny_bind (m := field (.ref it) 0) (wpAny_field ho hd (x := .ref l) rfl ?_)
  show wpAny _ _ (if (Value.ref l == Value.none) = true then _ else _) _ _ _
  rw [if_neg (by simp)]
  refine wpAny_bind (m := field (.ref it) 1) (wpAny_field ho hd (x := .int i 0) rfl ?_)
  refine wpAny_bind (m := seqItems? (.ref l)) (wpAny_seqItems hol hdl ?_)
  simp only [Int.toNat_natCast, hx]
  refine wpAny_bind (wpAny_rule (wpAny_bind (wpAny_setField ho hd (by simp) ?_)))
  refine wpAny_bind (m := newExc (.type "StopIteration") []) ?_
  unfold newExc newTuple
  refine wpAny_bind (wpAny_newObj_type ?_ (by size_fits))
  refine wpAny_bind (m := firstArgMember _ _) (wpAny_of_eq (a := Value.none) (by simp only [firstArgMember]; rfl) ?_)
  refine wpAny_newObj_type ?_ (by size_fits)
  have k1 : ∀ b ob, b ≠ it → s.heap.get? b = some ob → (s.heap.update it (Obj.mapFields (·.setIfInBounds 0 Value.none))).get? b = some ob := fun b ob hb q => (Heap.get?_update_other _ _ (Ne.symm hb)).trans q
  have k2 : ∀ b ob, b ≠ it → s.heap.get? b = some ob → ∀ o1 o2, (((s.heap.update it (Obj.mapFields (·.setIfInBounds 0 Value.none))).push o1).push o2).get? b = some ob := fun b ob hb q o1 o2 => Heap.get?_push_of_some _ (Heap.get?_push_of_some _ (k1 b ob hb q))
  generalize hH : (s.heap.update it (Obj.mapFields (·.setIfInBounds 0 Value.none))).push { cls := .type "tuple", data := .seq #[] } = h1
  have k3 : ∀ b ob, b ≠ it → s.heap.get? b = some ob → h1.get? b = some ob := fun b ob hb q => by rw [← hH]; exact Heap.get?_push_of_some _ (k1 b ob hb q)
  have e3 := k3 ea oe hei he
  have lt := Heap.lt_size e3
  refine raise_over (A := A.in1) hh (Heap.get?_push_size h1 rfl) rfl (by simp [ownMembersOf]) (Nat.ne_of_lt lt) (Heap.get?_push_of_some _ e3) hde h0 ?_
  refine wpAny_bind (wpAny_isInstance (T := "StopIteration") (b := true) ⟨_, Heap.get?_update_self _ (Heap.get?_push_size h1 rfl) rfl, rfl⟩ isSubtype_stop (wpAny_pure (hQ _ fun b ob hb q => ?_)))
  have l2 := Heap.lt_size (k3 b ob hb q)
  rw [Heap.get?_update_other _ _ (Nat.ne_of_gt l2)]
  exact Heap.get?_push_of_some _ (k3 b ob hb q)
end
end L2
namespace L2
open PySem PySem.Spec PyProof.Rows Sort2
section
variable {X : Cx} {a b e : Expr} {es : List Expr} {σ : St} {H : Hp} {Q : VK} {pos p kp cp : Pos} {j : Nat}
end
end L2
namespace Nt
open PySem L2
theorem RowsAt.more {H : Hp} {R t l : Addr} {as : List (Addr × Addr)} {n : Net} {pt : Str} {zs : List Str} (h : RowsAt H R as n) (ht : H t = some (.tup [.str pt, .ref l])) (hl : H l = some (Ls zs)) (hn : l ∉ as.map (·.2)) (hR : l ≠ R) :
    RowsAt (upd H R (.lst (as.map (fun a => V.ref a.1) ++ [.ref t]))) R (as ++ [(t, l)]) (n ++ [(pt, zs)]) := by
  have hal := h.len
  refine ⟨by rw [List.length_append, List.length_append, hal]; rfl, by rw [upd_same, List.map_append]; rfl, fun i b r hb hr => ?_, ?_⟩
  · rcases Nat.lt_or_ge i as.length with c | c
    · rw [List.getElem?_append_left c] at hb
      rw [List.getElem?_append_left (by omega)] at hr
      have q := h.tup i b r hb hr
      have t1 : b.1 ≠ R := ne_of q.1 h.lst fun e => nomatch e
      have t2 : b.2 ≠ R := by
        intro e
        have h1 := h.lst
        rw [← e, q.2] at h1
        have h2 := HO.lst.inj (Option.some.inj h1)
        cases as with
        | nil => simp at c
        | cons b' bs =>
          cases hm : r.2 with
          | nil => rw [hm] at h2; simp at h2
          | cons y r => rw [hm] at h2; simp at h2
      exact ⟨by rw [upd_ne t1]; exact q.1, by rw [upd_ne t2]; exact q.2⟩
    · have e : i = as.length := by
        have := (List.getElem?_eq_some_iff.mp hb).1
        rw [List.length_append] at this
        simp at this
        omega
      subst e
      rw [List.getElem?_append_right (Nat.le_refl _)] at hb
      rw [hal, List.getElem?_append_right (Nat.le_refl _)] at hr
      simp at hb hr
      subst hb hr
      have t1 : t ≠ R := ne_of ht h.lst fun e => nomatch e
      exact ⟨by rw [upd_ne t1]; exact ht, by rw [upd_ne hR]; exact hl⟩
  · rw [List.map_append, List.nodup_append]
    exact ⟨h.inj, by simp, fun x hx y hy e => by simp at hy; subst hy e; exact hn hx⟩
theorem RowsAt.lists {H : Hp} {R : Addr} {as : List (Addr × Addr)} {n : Net} (h : RowsAt H R as n) {x : Addr × Addr} (hx : x ∈ as) : ∃ zs, H x.2 = some (Ls zs) := by
  obtain ⟨i, hi, e⟩ := List.mem_iff_getElem.mp hx
  have hl := h.len
  exact ⟨_, (h.tup i x (n[i]'(by omega)) (by rw [← e]; exact List.getElem?_eq_getElem hi) (List.getElem?_eq_getElem (by omega))).2⟩
end Nt
namespace Nt
open PySem L2
theorem cut_from (zs : List Str) (i : Nat) : cutV (zs.map V.str) (some (i : Int)) none = (zs.drop i).map V.str := by
  unfold cutV
  rw [HT.sIx_nat, HT.sIx_none, List.length_map]
  rw [List.take_of_length_le (by rw [List.length_drop, List.length_map]; omega), List.map_drop]
  rcases Nat.le_total i zs.length with h | h
  · rw [Nat.min_eq_left h]
  · rw [Nat.min_eq_right h, List.drop_of_length_le (by simp), List.drop_of_length_le (by simpa using h)]
end Nt
namespace Nt
open PySem L2
end Nt
namespace Nt
open PySem L2
end Nt
namespace Nt
open PySem L2
section
variable {n : Net} {z : Str} {r k : Nat}
end
structure Bld (H0 H : Hp) (D : Addr) (bs : List (Addr × Addr)) (m : Net) : Prop where
  rows : RowsAt H D bs m
  new : ∀ a ∈ bs, H0 a.1 = none ∧ H0 a.2 = none
  nD : ∀ a ∈ bs, a.1 ≠ D ∧ a.2 ≠ D
theorem Bld.same {H0 H H' : Hp} {D : Addr} {bs : List (Addr × Addr)} {m : Net} (b : Bld H0 H D bs m) (s : Same H H') : Bld H0 H' D bs m := ⟨b.rows.same s, b.new, b.nD⟩
theorem Bld.nil {H0 H : Hp} {D : Addr} (h : H D = some (.lst [])) : Bld H0 H D [] [] := ⟨⟨rfl, h, fun i a r h => (by simp at h), List.nodup_nil⟩, fun a h => (by simp at h), fun a h => (by simp at h)⟩
theorem Bld.in_heap {H0 H : Hp} {D : Addr} {bs : List (Addr × Addr)} {m : Net} (b : Bld H0 H D bs m) {a : Addr × Addr} (h : a ∈ bs) : H a.1 ≠ none ∧ H a.2 ≠ none := by
  obtain ⟨i, hi⟩ := List.getElem?_of_mem h
  have hl := (List.getElem?_eq_some_iff.mp hi).1
  have := b.rows.len
  obtain ⟨q1, q2⟩ := b.rows.tup i a _ hi (List.getElem?_eq_getElem (by omega))
  exact ⟨by rw [q1]; simp, by rw [q2]; simp⟩
theorem Bld.add {H0 H : Hp} {D t l : Addr} {bs : List (Addr × Addr)} {m : Net} {p : Str} {zs : List Str} (b : Bld H0 H D bs m) (hl : H l = some (Ls zs)) (l0 : H0 l = none) (ln : l ∉ bs.map (·.2)) (nl : l ≠ D) (ht : H t = none) (t0 : H0 t = none) :
    Bld H0 (upd (upd H t (.tup [.str p, .ref l])) D (.lst ((bs.map fun a => V.ref a.1) ++ [.ref t]))) D (bs ++ [(t, l)]) (m ++ [(p, zs)]) := by
  have ntD : t ≠ D := fun e => by rw [e, b.rows.lst] at ht; cases ht
  have ntl : t ≠ l := fun e => by rw [e, hl] at ht; cases ht
  have len := b.rows.len
  have keep : ∀ x o, x ≠ D → H x = some o → (upd (upd H t (.tup [.str p, .ref l])) D (.lst ((bs.map fun a => V.ref a.1) ++ [.ref t]))) x = some o := fun x o h1 h2 => by
    rw [upd_ne h1, upd_ne (ne_of_none h2 ht)]
    exact h2
  refine ⟨⟨by rw [List.length_append, List.length_append, len]; rfl, by rw [upd_same, List.map_append]; rfl, fun i a r h1 h2 => ?_, ?_⟩, fun a ha => ?_, fun a ha => ?_⟩
  · by_cases hi : i < bs.length
    · rw [List.getElem?_append_left hi] at h1
      rw [List.getElem?_append_left (by omega)] at h2
      have nn := b.nD a (List.mem_of_getElem? h1)
      obtain ⟨q1, q2⟩ := b.rows.tup i a r h1 h2
      exact ⟨keep _ _ nn.1 q1, keep _ _ nn.2 q2⟩
    · rw [List.getElem?_append_right (by omega)] at h1
      rw [List.getElem?_append_right (by omega)] at h2
      have e : i - bs.length = 0 := by
        have := (List.getElem?_eq_some_iff.mp h1).1
        simp at this
        omega
      rw [e] at h1
      rw [← len, e] at h2
      cases h1
      cases h2
      exact ⟨by rw [upd_ne ntD, upd_same], keep _ _ nl hl⟩
  · rw [List.map_append]
    refine List.nodup_append.mpr ⟨b.rows.inj, by simp, fun x hx y hy e => ?_⟩
    have hy := List.mem_singleton.mp hy
    exact ln (by rw [← show y = l from hy, ← e]; exact hx)
  · rcases List.mem_append.mp ha with h | h
    · exact b.new a h
    · rw [List.mem_singleton.mp h]
      exact ⟨t0, l0⟩
  · rcases List.mem_append.mp ha with h | h
    · exact b.nD a h
    · rw [List.mem_singleton.mp h]
      exact ⟨ntD, nl⟩
end Nt
namespace L2
open PySem PySem.Builtin PySem.Builtin.Str
section
variable {X : Cx}
theorem mt_part : MtR X "str.partition" (fun x xs H Q => ∃ z y : Str, x = .str z ∧ xs = [.str y] ∧ 1 ≤ y.length ∧ z.length ≤ sizeLine ∧ ∀ p, H p = none → Q (.ref p) (upd H p (.tup [.str (Txt.partition z y).1, .str (Txt.partition z y).2.1, .str (Txt.partition z y).2.2]))) := by
  intro pins s σ H x xs v us Q I rx rv h
  obtain ⟨z, y, rfl, rfl, hy, hz, q⟩ := h
  obtain ⟨t, rfl⟩ := rx
  obtain ⟨u, rfl, ru⟩ := rv.one
  obtain ⟨t2, rfl⟩ := ru
  have hy0 : (y.length == 0) = false := by
    cases e : y.length == 0 with
    | false => rfl
    | true => have := eq_of_beq e; omega
  have fin : ∀ (a b c : Str) (ta tb tc : Tok) (k : Nat), (a, b, c) = Txt.partition z y → EP X pins σ Q (.ref s.heap.objs.size) { s with heap := s.heap.push { cls := .type "tuple", data := .seq [.str a ta, .str b tb, .str c tc].toArray }, toks := k } := by
    intro a b c ta tb tc k e
    have e1 : (Txt.partition z y).1 = a := by rw [← e]
    have e2 : (Txt.partition z y).2.1 = b := by rw [← e]
    have e3 : (Txt.partition z y).2.2 = c := by rw [← e]
    have q := q _ I.fresh
    rw [e1, e2, e3] at q
    exact ⟨.ref s.heap.objs.size, _, I.laid (t' := k) (fun _ _ q => Heap.get?_push_of_some _ q) (Nat.le_refl _) (show ObjOk X.prog X.w _ _ _ (.tup [.str a, .str b, .str c]) from ⟨by show 3 ≤ sizeLine; decide, [.str a ta, .str b tb, .str c tc], .cons ⟨ta, rfl⟩ (.cons ⟨tb, rfl⟩ (.cons ⟨tc, rfl⟩ .nil)), _, Heap.get?_push_size _ rfl, rfl, _, rfl⟩), rfl, q⟩
  refine call_meets F.slot_str_partition (typeIs_str _ _ _) F.entry_str_partition (F.args_str_partition_2 _ _) (meets_str_partition z y t t2 hy0 hz) ?_
  have f2 := fin
  unfold Txt.partition at f2
  revert f2
  cases occurrences z y 0 z.length 1 with
  | nil => intro f2; exact f2 _ _ _ _ _ _ _ rfl
  | cons i r => intro f2; exact f2 _ _ _ _ _ _ _ rfl
end
end L2
namespace T8
open PySem L2 Nt Sort2
noncomputable def spGd : Sp := fun vs H Q _ => ∃ z, vs = [.str z] ∧ z.length ≤ 100000 ∧ Q (.bl (isNm z)) H
noncomputable def spDue : Sp := fun vs H Q _ => ∃ z : Str, vs = [.str z] ∧ z.length ≤ 1000 ∧ ((∃ p ∈ Txt.split z "; ", rowOf p = none) → ∀ H', Same H H' → Q .non H') ∧
  ∀ n : Net, (Txt.split z "; ").map rowOf = n.map some → ∀ L as H', Same H H' → H L = none → (∀ a ∈ as, H a.1 = none ∧ H a.2 = none) → RowsAt H' L as n → Q (.ref L) H'
theorem parts_len {z y p : Str} (hy : 1 ≤ y.length) (hp : p ∈ Txt.split z y) : p.length ≤ z.length ∧ (Txt.split z y).length ≤ z.length + 1 := by
  have hw := PyProof.Rows.split_weight z y hy
  refine ⟨?_, by omega⟩
  have : ∀ (l : List Str), p ∈ l → p.length + l.length ≤ (l.map (·.length)).sum + l.length := by
    intro l
    induction l with
    | nil => intro h; cases h
    | cons a r ih =>
      intro h
      simp only [List.map_cons, List.sum_cons, List.length_cons]
      rcases List.mem_cons.mp h with rfl | h
      · omega
      · have := ih h; omega
  have q := this _ hp
  have : 1 ≤ (Txt.split z y).length := List.length_pos_of_mem hp
  omega
section
variable {P : Program} {w : World} {K : PySem.W.Frag} {mg : Str → Option Value} {base : Heap}
noncomputable abbrev NGd : List Str := ["_law_name", "_law_sign_here"]
theorem scGd : FnScope NGd ["_law_name"] (defScope s_l_is_good) := ⟨rfl, rfl, rfl, by decide +kernel, rfl, by decide +kernel, by decide +kernel⟩
theorem ok_gd {f : Addr} {fd : FuncData} (F : Fun K "_law_is_good" "_law_is_good" s_l_is_good f fd) (T : Txt mg) : FnOk P w K mg base CX0 1 f fd ["_law_name"] spGd := by
  refine F.gb scGd (fun vs H Q E h => ?_) (fun b0 H vs Q E hr h => ?_)
  · obtain ⟨z, rfl, _⟩ := h
    rfl
  obtain ⟨z, rfl, hz, q⟩ := h
  have nd := scGd.nd
  show Run _ _ _ [some (.str z), none] H
  refine run_forS (ev_v 0 ⟨z, rfl, loop_str (fun i σ H' => H' = H ∧ (∃ u, σ = [some (.str z), u]) ∧ (z.cps.toList.take i).all okc = true) ⟨rfl, ⟨_, rfl⟩, rfl⟩ ?_ ?_⟩)
  · rintro i c σ H' hc ⟨rfl, ⟨u, rfl⟩, ha⟩
    have hc' : z.cps.toList[i]? = some c := by rw [Array.getElem?_toList]; exact hc
    refine eg_name 1 nd ?_
    refine run_if (et_cmp op_notIn_str (ev_v 1 (ev_str ⟨_, _, rfl, rfl, _, rfl, ?_⟩)))
    rw [StrLaws.found_one]
    show if (!(okc c)) = true then _ else _
    cases ho : okc c with
    | false =>
      refine iteT (run_ret (ev_bl ?_))
      have e : isNm z = false := by
        unfold isNm
        rw [Bool.and_eq_false_iff]
        refine .inr (Bool.eq_false_iff.mpr fun k => ?_)
        rw [List.all_eq_true] at k
        have := k c (List.mem_of_getElem? hc')
        rw [ho] at this
        cases this
      rw [e] at q
      exact q
    | true =>
      refine iteF (run_nil (run_nil ⟨rfl, ⟨_, rfl⟩, ?_⟩))
      rw [List.take_add_one, hc', List.all_append, ha]
      show (true && (okc c && true)) = true
      rw [ho]
      rfl
  · rintro σ H' ⟨rfl, ⟨u, rfl⟩, ha⟩
    have e0 : z.cps.toList.take z.cps.size = z.cps.toList := List.take_of_length_le (by simp)
    rw [e0] at ha
    have e : isNm z = decide (1 ≤ z.length ∧ z.length ≤ 8) := by
      unfold isNm
      rw [ha, Bool.and_true]
    rw [e] at q
    refine run_ret (ev_chain op_lt op_lt (ev_int (ev_blt call_len_str T.len boot_len (ea_cons (ev_v 0 (ea_nil ⟨z, rfl, small hz, _, _, rfl, rfl, _, rfl, ?_⟩))))))
    by_cases h0 : z.length = 0
    · have k : ¬ ((0 : Int) < (z.length : Int)) := by omega
      rw [decide_eq_false k]
      refine iteF ?_
      rw [decide_eq_false (by omega)] at q
      exact q
    · have k : ((0 : Int) < (z.length : Int)) := by omega
      rw [decide_eq_true k]
      refine iteT (ev_int ⟨_, _, rfl, rfl, ?_⟩)
      have e2 : decide (((z.length : Int)) < 9) = decide (1 ≤ z.length ∧ z.length ≤ 8) := decide_eq_decide.mpr (by omega)
      show Q (.bl (decide ((z.length : Int) < 9))) H'
      rw [e2]
      exact q
noncomputable abbrev NOd : List Str := ["_law_text_here", "_law_rest", "_law_kind", "_law_place"]
noncomputable abbrev NOd' : List Str := ["_law_text_here", "_law_rest", "_law_kind", "_law_place", "_law_k"]
theorem scOdd : FnScope NOd ["_law_text_here", "_law_rest"] (defScope sOdd) := ⟨rfl, rfl, rfl, by decide +kernel, rfl, by decide +kernel, by decide +kernel⟩
theorem nd_od : NOd'.Nodup := by decide +kernel
theorem ok_odd {f : Addr} {fd : FuncData} (F : Fun K "_law_odd" "_law_odd" sOdd f fd) (T : Txt mg) (GD : Has P w K mg base 2 "_law_digit" ["_law_rest", "_law_many"] spDigit) (GS : Has P w K mg base 2 "_law_sign" ["_law_rest"] spSign) : FnOk P w K mg base CX0 3 f fd ["_law_text_here", "_law_rest"] spOdd := by
  refine F.gb scOdd (fun vs H Q E h => ?_) (fun b0 H vs Q E hr h => ?_)
  · obtain ⟨R, b, t, rfl, _⟩ := h
    rfl
  obtain ⟨R, b, t, rfl, hR, ht, q⟩ := h
  have nd := scOdd.nd
  have sle : ∀ lo hi, (Txt.slice t lo hi).length ≤ 300 := fun lo hi => Nat.le_trans (Txt.slice_le t lo hi) ht
  show Run _ _ _ [some (.str t), some (.ref R), none, none] H
  refine run_set 2 nd (ev_has GD hr (ea_cons (ev_v 1 (ea_cons (ev_int (ea_nil ⟨R, b, 10, rfl, hR, by decide, by decide, ?_⟩))))))
  generalize b % 10 = kd
  generalize b / 10 = b1
  refine run_set 3 nd (ev_has GD hr (ea_cons (ev_v 1 (ea_cons (ev_op op_add (ev_blt call_len_str T.len boot_len (ea_cons (ev_v 0 (ea_nil ⟨t, rfl, small (by omega), ev_int ⟨_, _, rfl, rfl, ea_nil ⟨R, b1, (t.length : Int) + 1, rfl, upd_same, by omega, by omega, ?_⟩⟩⟩)))))))))
  rw [upd_upd]
  generalize b1 / ((t.length : Int) + 1) = b2
  generalize b1 % ((t.length : Int) + 1) = pl
  have eR : (upd H R (.lst [.int b2])) R = some (.lst [.int b2]) := upd_same
  generalize upd H R (.lst [.int b2]) = H1 at eR ⊢
  show Run _ _ _ [some (.str t), some (.ref R), some (.int kd), some (.int pl)] H1
  refine run_if (et_cmp op_lt (ev_v 2 (ev_int ⟨_, _, rfl, rfl, _, rfl, ite2 (fun _ => ?_) (fun _ => run_nil ?_)⟩)))
  · refine run_ret (ev_op op_add_str (ev_op op_add_str (ev_slice sl_str (ev_v 0 (eo_none (eo_some (ev_v 3 ⟨pl, rfl, t, rfl, small (by omega), ev_has GS hr (ea_cons (ev_v 1 (ea_nil ⟨R, b2, rfl, eR, fun c b3 => ?_⟩)))⟩)))))))
    have l1 := sle none (some pl)
    have l2 := sle (some pl) none
    refine ⟨_, _, rfl, rfl, small (by rw [one_len]; omega), ev_slice sl_str (ev_v 0 (eo_some (ev_v 3 ⟨pl, rfl, eo_none ⟨t, rfl, small (by omega), _, _, rfl, rfl, small (by rw [len_app, one_len]; omega), q _ _ (by rw [len_app, len_app, one_len]; omega)⟩⟩)))⟩
  refine run_if (et_cmp op_lt (ev_v 2 (ev_int ⟨_, _, rfl, rfl, _, rfl, ite2 (fun _ => ?_) (fun _ => run_nil ?_)⟩)))
  · refine run_ret (ev_op op_add_str (ev_op op_add_str (ev_slice sl_str (ev_v 0 (eo_none (eo_some (ev_v 3 ⟨pl, rfl, t, rfl, small (by omega), ev_has GS hr (ea_cons (ev_v 1 (ea_nil ⟨R, b2, rfl, eR, fun c b3 => ?_⟩)))⟩)))))))
    have l1 := sle none (some pl)
    have l2 := sle (some (pl + 1)) none
    refine ⟨_, _, rfl, rfl, small (by rw [one_len]; omega), ev_slice sl_str (ev_v 0 (eo_some (ev_op op_add (ev_v 3 (ev_int ⟨_, _, rfl, rfl, pl + 1, rfl, eo_none ⟨t, rfl, small (by omega), _, _, rfl, rfl, small (by rw [len_app, one_len]; omega), q _ _ (by rw [len_app, len_app, one_len]; omega)⟩⟩)))))⟩
  refine run_if (et_cmp op_lt (ev_v 2 (ev_int ⟨_, _, rfl, rfl, _, rfl, ite2 (fun _ => ?_) (fun _ => run_nil ?_)⟩)))
  · have l1 := sle none (some pl)
    have l2 := sle (some (pl + 1)) none
    exact run_ret (ev_op op_add_str (ev_slice sl_str (ev_v 0 (eo_none (eo_some (ev_v 3 ⟨pl, rfl, t, rfl, small (by omega), ev_slice sl_str (ev_v 0 (eo_some (ev_op op_add (ev_v 3 (ev_int ⟨_, _, rfl, rfl, pl + 1, rfl, eo_none ⟨t, rfl, small (by omega), _, _, rfl, rfl, small (by omega), q _ _ (by rw [len_app]; omega)⟩⟩)))))⟩))))))
  refine run_if (et_cmp op_eq (ev_v 2 (ev_int ⟨rfl, _, rfl, ite2 (fun _ => ?_) (fun _ => run_nil ?_)⟩)))
  · have l9 : (Txt.mul "a" 9).length = 9 := by decide +kernel
    have l1 : (" " : Str).length = 1 := rfl
    exact run_ret (ev_op op_add_str (ev_op op_add_str (ev_v 0 (ev_str ⟨t, " ", rfl, rfl, small (by omega), ev_op op_repS (ev_str (ev_int ⟨"a", 9, rfl, rfl, by decide, by decide, by decide, _, _, rfl, rfl, small (by rw [len_app]; omega), q _ _ (by rw [len_app, len_app]; omega)⟩))⟩))))
  refine run_if (et_cmp op_eq (ev_v 2 (ev_int ⟨rfl, _, rfl, ite2 (fun _ => ?_) (fun _ => run_nil (run_ret (ev_v 0 (q t _ (by omega)))))⟩)))
  have c2 : 0 ≤ b2 % 13 := Int.emod_nonneg _ (by decide)
  have c3 : b2 % 13 < 13 := Int.emod_lt_of_pos _ (by decide)
  refine run_ret (ev_m1 PySem.F.plainAttrs_str PySem.F.slot_str_join PySem.F.type_str_join mt_join (ev_str ⟨rfl, ?_⟩))
  refine ev_comp (defScope sOdd) NOd NOd' 1 (pi_range1 rfl T.range (ta := tEa _ _) pa_ea (star_one _ [] _ rfl)) ?_
  show Ea _ _ _ _ _
  refine ea_cons (ev_has GD hr (ea_cons (ev_v 1 (ea_cons (ev_int (ea_nil ⟨R, b2, 13, rfl, eR, by decide, by decide, ea_nil ⟨_, rfl, by omega, by omega, fun D hD => ?_⟩⟩))))))
  have nRD : R ≠ D := fun z => by rw [← z, upd_same] at hD; cases hD
  refine comp_rangeP (fun j σ' H' => (∃ v, σ' = [some (.str t), some (.ref R), some (.int kd), some (.int pl)] ++ [v]) ∧ ∃ (ws : List Str) (b' : Int), ws.length = j ∧ (∀ z ∈ ws, z.length ≤ 1) ∧ H' R = some (.lst [.int b']) ∧ H' D = some (Ls ws)) ⟨⟨none, rfl⟩, [], _, rfl, fun z hz => (nomatch hz), by rw [upd_ne nRD]; exact upd_same, upd_same⟩ ?_ ?_
  · rintro j σ' H' hj ⟨⟨v, rfl⟩, ws, b3, hw, hwl, e3, eD⟩
    intro cl C' s₀ H₀ ex
    refine eg_name 4 nd_od ?_
    intro cl C' s₀ H₀ ex
    refine ei_nil (iteT ?_)
    intro cl C' s₀ H₀ ex
    refine ev_has GS hr (ea_cons (ev_v 1 (ea_nil ⟨R, b3, rfl, e3, fun c b4 => ⟨ws.map V.str, by rw [upd_ne (Ne.symm nRD)]; exact eD, ?_, ⟨_, rfl⟩, ws ++ [⟨#[c]⟩], b4, by rw [List.length_append, hw]; rfl, fun z hz => ?_, by rw [upd_ne nRD]; exact upd_same, by rw [upd_same]; show _ = some (HO.lst ((ws ++ [_]).map V.str)); rw [List.map_append]; rfl⟩⟩)))
    · rw [List.length_map]
      exact small' (by omega)
    · rcases List.mem_append.mp hz with h | h
      · exact hwl z h
      · rw [List.mem_singleton.mp h]
        exact Nat.le_refl _
  · rintro σ' H' ⟨_, ws, b3, hw, hwl, e3, eD⟩
    have s9 := sum_le 1 ws hwl
    have jl : (Str.join "" ws).length ≤ ws.length * 1 := join_len "" ws 1 hwl
    exact ⟨"", D, ws, rfl, rfl, SqL.of eD, by omega, by decide, q _ _ (by omega)⟩
noncomputable abbrev NDu : List Str := ["_law_text_here", "_law_rows", "_law_part", "_law_point", "_law_colon", "_law_rest", "_law_ties", "_law_tie"]
theorem scDue : FnScope NDu ["_law_text_here"] (defScope sDue) := ⟨rfl, rfl, rfl, by decide +kernel, rfl, by decide +kernel, by decide +kernel⟩
theorem ok_due {f : Addr} {fd : FuncData} (F : Fun K "_law_due" "_law_due" sDue f fd) (T : Txt mg) (GG : Has P w K mg base 1 "_law_is_good" ["_law_name"] spGd) : FnOk P w K mg base CX0 2 f fd ["_law_text_here"] spDue := by
  refine F.gb scDue (fun vs H Q E h => ?_) (fun b0 H vs Q E hr h => ?_)
  · obtain ⟨z, rfl, _⟩ := h
    rfl
  obtain ⟨z, rfl, hz, qN, qR⟩ := h
  have nd := scDue.nd
  show Run _ _ _ [some (.str z), none, none, none, none, none, none, none] H
  refine run_set 1 nd (ev_lst (ea_nil ⟨(by show 0 ≤ sizeLine; decide), fun L hL => ?_⟩))
  have sL := same_new hL (.lst [])
  refine run_forL (ev_m1 PySem.F.plainAttrs_str PySem.F.slot_str_split PySem.F.type_str_split mt_split (ev_v 0 (v := .str z) ⟨rfl, ev_str ⟨z, "; ", rfl, rfl, by decide, small (by omega), fun l hl => ⟨l, rfl, ⟨_, SqL.of upd_same⟩, ?_⟩⟩⟩))
  generalize hps : Txt.split z "; " = ps at *
  have pl : ∀ p ∈ ps, p.length ≤ 1000 ∧ ps.length ≤ 1001 := fun p hp => by
    rw [← hps] at hp ⊢
    have := parts_len (y := "; ") (by decide) hp
    omega
  have sl := same_new hl (.lst (ps.map V.str))
  have s0 := sL.trans sl
  have el : (upd (upd H L (.lst [])) l (.lst (ps.map V.str))) l = some (Ls ps) := upd_same
  have eL : (upd (upd H L (.lst [])) l (.lst (ps.map V.str))) L = some (.lst []) := sl _ _ upd_same
  generalize upd (upd H L (.lst [])) l (.lst (ps.map V.str)) = H1 at s0 el eL ⊢
  have nlL : l ≠ L := fun e => by rw [e, upd_same] at hl; cases hl
  refine loop_list (xs := ps.map V.str) (fun i σ H' => (∃ v2 v3 v4 v5 v6 v7, σ = [some (.str z), some (.ref L), v2, v3, v4, v5, v6, v7]) ∧ ∃ (n : Net) (as : List (Addr × Addr)), (ps.take i).map rowOf = n.map some ∧ n.length = i ∧ Same H H' ∧ H' l = some (Ls ps) ∧ Bld H H' L as n) ⟨⟨_, _, _, _, _, _, rfl⟩, [], [], rfl, rfl, s0, el, Bld.nil eL⟩ ?_ ?_ ?_
  · rintro i σ H' _ ⟨_, n, as, _, _, _, e, _⟩
    exact SqL.of e
  · rintro i x σ H' hx ⟨⟨v2, v3, v4, v5, v6, v7, rfl⟩, n, as, hn, hni, sm, el', bl⟩
    rw [List.getElem?_map, Option.map_eq_some_iff] at hx
    obtain ⟨p, hp, rfl⟩ := hx
    have mp := List.mem_of_getElem? hp
    obtain ⟨lp, lps⟩ := pl p mp
    have hil : i < ps.length := (List.getElem?_eq_some_iff.mp hp).1
    refine eg_name 2 nd ?_
    refine run_asg (ev_m1 PySem.F.plainAttrs_str PySem.F.slot_str_partition PySem.F.type_str_partition mt_part (ev_v 2 (v := .str p) ⟨rfl, ev_str ⟨p, ":", rfl, rfl, by decide, small (by omega), fun t ht => ?_⟩⟩))
    refine eg_triple rfl (SqT.of upd_same) (eg_name 3 nd (eg_name 4 nd (eg_name 5 nd ?_)))
    have s1 := same_new ht (.tup [.str (Txt.partition p ":").1, .str (Txt.partition p ":").2.1, .str (Txt.partition p ":").2.2])
    generalize upd H' t (.tup [.str (Txt.partition p ":").1, .str (Txt.partition p ":").2.1, .str (Txt.partition p ":").2.2]) = H2 at s1 ⊢
    have lpa : (Txt.partition p ":").1.length ≤ 1000 ∧ (Txt.partition p ":").2.2.length ≤ 1000 := by
      by_cases hc : (Txt.partition p ":").2.1 = ""
      · unfold Txt.partition at hc ⊢
        revert hc
        cases PySem.Builtin.Str.occurrences p ":" 0 p.length 1 with
        | nil => intro _; exact ⟨lp, (by show Str.empty.length ≤ 1000; decide)⟩
        | cons i r => intro hc; exact absurd (show (":" : Str) = "" from hc) (by decide)
      · have := congrArg Str.length (part_found hc)
        rw [len_app, len_app] at this
        omega
    have nof : (∀ a ts, rowOf p ≠ some (a, ts)) → ∀ H', Same H H' → Q .non H' := fun h => qN ⟨p, mp, row_none h⟩
    have prt : ∀ a ts, rowOf p = some (a, ts) → (Txt.partition p ":").1 = a ∧ (Txt.partition p ":").2.1 = ":" ∧ Txt.split (Txt.partition p ":").2.2 " " = ("" : Str) :: ts ∧ isNm a = true ∧ ts.all isNm = true := fun a ts h => by
      obtain ⟨e1, e2⟩ := row_some h
      obtain ⟨_, e3, e4⟩ := of_rowOf h
      refine ⟨by rw [e1], by rw [e1], e2, e3, e4⟩
    have law := @row_law p
    generalize (Txt.partition p ":").1 = pa at *
    generalize (Txt.partition p ":").2.1 = pc at *
    generalize (Txt.partition p ":").2.2 = pr at *
    obtain ⟨t0, ts, e0, _⟩ := split_ne pr
    have tl : ∀ y ∈ t0 :: ts, y.length ≤ 1000 := fun y hy => by
      rw [← e0] at hy
      have := (parts_len (y := " ") (by decide) hy).1
      omega
    have tll : (t0 :: ts).length ≤ 1001 := by
      have := (parts_len (z := pr) (y := " ") (p := t0) (by decide) (by rw [e0]; exact List.mem_cons_self ..)).2
      rw [e0] at this
      omega
    have s2 := sm.trans s1
    refine run_set 6 nd (ev_m1 PySem.F.plainAttrs_str PySem.F.slot_str_split PySem.F.type_str_split mt_split (ev_v 5 (v := .str pr) ⟨rfl, ev_str ⟨pr, " ", rfl, rfl, by decide, small (by omega), fun d hd => ?_⟩⟩))
    rw [e0]
    have s3 := same_new hd (.lst ((t0 :: ts).map V.str))
    have ed : (upd H2 d (.lst ((t0 :: ts).map V.str))) d = some (Ls (t0 :: ts)) := upd_same
    have sA := s2.trans s3
    have sB := s1.trans s3
    have hd0 := free_back s2 hd
    generalize upd H2 d (.lst ((t0 :: ts).map V.str)) = H3 at sA sB ed ⊢
    have bl3 := bl.same sB
    have el3 := sB _ _ el'
    show Run _ _ _ [some (.str z), some (.ref L), some (.str p), some (.str pa), some (.str pc), some (.str pr), some (.ref d), v7] H3
    refine run_if (et_bool (ew_or (et_cmp op_eq (ev_v 4 (ev_str ⟨rfl, _, rfl, ite2 (fun c => ?_) (fun c => ?_)⟩)))))
    · have c := V.str.inj (of_decide_eq_true c)
      refine iteT (run_ret (ev_non (nof (fun a us h => ?_) _ sA)))
      have := (prt a us h).2.1
      rw [c] at this
      exact absurd this (by decide)
    have c : pc ≠ "" := fun h => c (decide_eq_true (congrArg V.str h))
    refine ew_or (et_not (et_val (ev_has GG hr (ea_cons (ev_v 3 (ea_nil ⟨pa, rfl, by omega, _, rfl, ?_⟩))))))
    cases hpa : isNm pa with
    | false =>
      refine iteT (iteT (run_ret (ev_non (nof (fun a us h => ?_) _ sA))))
      have := prt a us h
      rw [← this.1, hpa] at this
      cases this.2.2.2.1
    | true =>
    refine iteF (ew_or1 (et_cmp op_ne (ev_ix ix_list (ev_v 6 (ev_int ⟨d, _, _, .str t0, rfl, rfl, SqL.of ed, atI_nat (j := 0) rfl, ev_str ⟨rfl, _, rfl, ?_⟩⟩)))))
    refine ite2 (fun c0 => ?_) (fun c0 => run_nil ?_)
    · refine run_ret (ev_non (nof (fun a us h => ?_) _ sA))
      have := (prt a us h).2.2.1
      rw [e0] at this
      cases this
      simp at c0
    have c0 : t0 = "" := by
      by_cases h : t0 = ""
      · exact h
      · exact absurd (by simp [h]) c0
    subst c0
    refine run_forL (ev_slice sl_list (ev_v 6 (eo_some (ev_int ⟨1, rfl, eo_none ⟨d, _, rfl, SqL.of ed, fun u hu => ?_⟩⟩))))
    have s4 := same_new hu (.lst (cutV ((("" : Str) :: ts).map V.str) (some 1) none))
    rw [show cutV ((("" : Str) :: ts).map V.str) (some 1) none = ts.map V.str from cut_from (("" : Str) :: ts) 1] at s4 ⊢
    have eu : (upd H3 u (.lst (ts.map V.str))) u = some (Ls ts) := upd_same
    have sC := sA.trans s4
    have bl4 := bl3.same s4
    have el4 := s4 _ _ el3
    have ed4 := s4 _ _ ed
    generalize upd H3 u (.lst (ts.map V.str)) = H4 at sC bl4 el4 ed4 eu ⊢
    refine ⟨u, rfl, ⟨_, SqL.of eu⟩, loop_list (xs := ts.map V.str) (fun j σ H' => H' = H4 ∧ (ts.take j).all isNm = true ∧ ∃ v7, σ = [some (.str z), some (.ref L), some (.str p), some (.str pa), some (.str pc), some (.str pr), some (.ref d), v7]) ⟨rfl, rfl, _, rfl⟩ ?_ ?_ ?_⟩
    · rintro j σ H' _ ⟨rfl, _⟩
      exact SqL.of eu
    · rintro j x σ H' hx ⟨rfl, ha, v7, rfl⟩
      rw [List.getElem?_map, Option.map_eq_some_iff] at hx
      obtain ⟨y, hy, rfl⟩ := hx
      have my := List.mem_of_getElem? hy
      refine eg_name 7 nd ?_
      refine run_if (et_not (et_val (ev_has GG hr (ea_cons (ev_v 7 (ea_nil ⟨y, rfl, by have := tl y (List.mem_cons_of_mem _ my); omega, _, rfl, ?_⟩))))))
      cases hyn : isNm y with
      | false =>
        refine iteT (run_ret (ev_non (nof (fun a us h => ?_) _ sC)))
        obtain ⟨_, _, e, _, e5⟩ := prt a us h
        rw [e0] at e
        cases e
        have := List.all_eq_true.mp e5 y my
        rw [hyn] at this
        cases this
      | true =>
        refine iteF (run_nil (run_nil ⟨rfl, ?_, _, rfl⟩))
        rw [List.take_add_one, hy, List.all_append, ha]
        show (true && (isNm y && true)) = true
        rw [hyn]
        rfl
    · rintro σ H' ⟨rfl, ha, v7, rfl⟩
      rw [List.length_map, List.take_length] at ha
      have good := law c hpa e0 ha
      refine run_expr (ev_append (ev_v 1 ⟨L, rfl, ⟨_, bl4.rows.lst⟩, ev_tup (ea_cons (ev_v 3 (ea_cons (ev_slice sl_list (ev_v 6 (eo_some (ev_int ⟨1, rfl, eo_none ⟨d, _, rfl, SqL.of ed4, fun k hk => ea_nil ⟨(by show 2 ≤ sizeLine; decide), fun g hg => ?_⟩⟩⟩)))))))⟩))
      have s5 := same_new hk (.lst (cutV ((("" : Str) :: ts).map V.str) (some 1) none))
      rw [show cutV ((("" : Str) :: ts).map V.str) (some 1) none = ts.map V.str from cut_from (("" : Str) :: ts) 1] at s5 hg ⊢
      have bl5 := bl4.same s5
      have lb := bl5.rows.len
      have ek : (upd H' k (.lst (ts.map V.str))) k = some (Ls ts) := upd_same
      have k0 := free_back sC hk
      have g0 := free_back (sC.trans s5) hg
      have nkL : k ≠ L := fun e => by rw [e, bl4.rows.lst] at hk; cases hk
      have kn : k ∉ as.map (·.2) := fun hm => by
        obtain ⟨a, ha, e⟩ := List.mem_map.mp hm
        have := (bl4.in_heap ha).2
        rw [e] at this
        exact this hk
      refine ⟨_, (same_new hg _) _ _ (s5 _ _ bl4.rows.lst), ?_, run_nil ⟨⟨_, _, _, _, _, _, rfl⟩, n ++ [(pa, ts)], as ++ [(g, k)], ?_, ?_, same_mut ((sC.trans s5).trans (same_new hg _)) hL, ?_, bl5.add ek k0 kn nkL hg g0⟩⟩
      · rw [List.length_map]
        exact small' (by omega)
      · rw [List.take_add_one, hp, List.map_append, List.map_append, hn]
        show _ ++ [rowOf p] = _
        rw [good]
        rfl
      · rw [List.length_append, hni]
        rfl
      · rw [upd_ne nlL]
        exact (same_new hg _) _ _ (s5 _ _ el4)
  · rintro σ H' ⟨⟨v2, v3, v4, v5, v6, v7, rfl⟩, n, as, hn, hni, sm, el', bl⟩
    rw [List.length_map, List.take_length] at hn
    exact run_ret (ev_v 1 (qR n hn L as H' sm hL bl.new bl.rows))
end
end T8
namespace Nt
open PySem L2
end Nt
namespace Nt
open PySem L2
open PyProof.Rows (sortedS)
end Nt
namespace Nt
open PySem L2
theorem eqD_str {X : Cx} {H : Hp} {k : Nat} (z : Str) : EqD X H k (.str z) (.str z) true := by
  have := eqD_flat (X := X) (H := H) (k := k) (x := .str z) (y := .str z) rfl rfl
  have e : eqV (.str z) (.str z) = true := by show (z == z) = true; simp
  rw [e] at this
  exact this
theorem rnD_strs {X : Cx} {H : Hp} {a b : Addr} {zs : List Str} (ha : H a = some (Ls zs)) (hb : H b = some (Ls zs)) : RnD X H 1 (.ref a) (.ref b) true := by
  have q := rnD_list (X := X) (k := 0) (fun _ => true) (SqL.of (K := X.K) ha) (SqL.of (K := X.K) hb) rfl fun j x y hx hy => by
    rw [hx] at hy
    cases hy
    rw [List.getElem?_map, Option.map_eq_some_iff] at hx
    obtain ⟨z, _, rfl⟩ := hx
    exact eqD_str z
  rw [all_true] at q
  exact q
end Nt
namespace L2
open PySem PySem.Spec PyProof.Rows
noncomputable def HdK (X : Cx) : Prop := ∃ ea oe vs, X.A.handled = some (.ref ea) ∧ X.H₀ ea = some (XO oe) ∧ oe.data = .fields vs ∧ vs[2]? = some .none
noncomputable def tComp (n : Nat) (wi : TI) (g : TG) (tc : TT) (te : TE) : TE := fun σ H Q => wi σ H fun J H1 => ∀ D, H1 D = none → ∃ W : Nat → Nat → St → Hp → Prop, (∃ m, W 0 m (σ ++ List.replicate n none) (upd H1 D (.lst []))) ∧ ∀ i m σ' H', W i m σ' H' →
  (J.stop i H' ∧ Q (.ref D) H') ∨ (J.go i H' ∧ ∃ N : St → Hp → Prop, (∀ σ' H', N σ' H' → ∃ m', m' < m ∧ W (i + 1) m' σ' H') ∧ ∀ x H2, J.yld i H' x H2 → g x σ' H2 fun σ2 H3 => tc σ2 H3 fun b H4 =>
    if b = true then te σ2 H4 fun v H5 => ∃ ys, H5 D = some (.lst ys) ∧ ys.length < sizeLine ∧ N σ2 (upd H5 D (.lst (ys ++ [v]))) else N σ2 H4)
structure TurnH (P : Program) (w : World) (K : PySem.W.Frag) (tg : Expr) (J : It) (fp : List Addr) (it : Addr) (tn : Nat → Heap → Prop) : Prop where
  mem : it ∈ fp
  obj : ∀ i h, tn i h → ∀ b ∈ fp, ∃ o, h.get? b = some o ∧ ∀ v, o.data ≠ .cell v
  keep : ∀ i h h', tn i h → (∀ b ∈ fp, ∀ o, h.get? b = some o → h'.get? b = some o) → tn i h'
  item : ∀ (X : Cx), X.prog = P → X.w = w → X.K = K → HdK X → ∀ (i : Nat) (pins : List (Addr × Obj)) (s : Shared) (σ : St) (H : Hp) (E : Value → Shared → Prop), Inv X pins σ H s → (∀ b ∈ fp, FpOk X pins H b) → tn i s.heap → J.go i H →
    wpAny (model P w) X.A (pyNext (.ref it)) (fun r s1 => ∃ u, r = some u ∧
      wpAny (model P w) X.A (letOwnedTupleGo tg (.ref it) u) (fun _ s2 => ∃ x H', Inv X pins σ H' s2 ∧ RelV x u ∧ J.yld i H x H' ∧ tn (i + 1) s2.heap ∧ ∀ b ∈ fp, H' b = none) E s1) E s
  done : ∀ (X : Cx), X.prog = P → X.w = w → X.K = K → HdK X → ∀ (i : Nat) (pins : List (Addr × Obj)) (s : Shared) (σ : St) (H : Hp) (E : Value → Shared → Prop), Inv X pins σ H s → (∀ b ∈ fp, FpOk X pins H b) → tn i s.heap → J.stop i H →
    wpAny (model P w) X.A (pyNext (.ref it)) (fun r s1 => r = none ∧ Inv X pins σ H s1) E s
  self : ∀ (A : Around) (i : Nat) (s : Shared) (Q : Value → Shared → Prop) (E : Value → Shared → Prop), tn i s.heap → Q (.ref it) s → wpAny (model P w) A (pyIter (.ref it)) Q E s
noncomputable def PIEH (X : Cx) (pins : List (Addr × Obj)) (σ : St) (tg : Expr) (R : It → Hp → Prop) (itv : Value) (s2 : Shared) : Prop :=
  ∃ (it : Addr) (fp : List Addr) (tn : Nat → Heap → Prop) (J : It) (H' : Hp), itv = .ref it ∧ Inv X pins σ H' s2 ∧ TurnH X.prog X.w X.K tg J fp it tn ∧ tn 0 s2.heap ∧ (∀ b ∈ fp, FpOk X pins H' b) ∧ R J H'
noncomputable def PIH (X : Cx) (tg iter : Expr) (wi : TI) : Prop :=
  ∀ (pins : List (Addr × Obj)) (s : Shared) (σ : St) (H : Hp) (R : It → Hp → Prop), Inv X pins σ H s → wi σ H R →
    wpAny (model X.prog X.w) X.A (eval iter X.env) (fun v s1 => wpAny (model X.prog X.w) X.A (pyIter v) (PIEH X pins σ tg R) X.xe s1) X.xe s
theorem turn_listH {P : Program} {w : World} {K : PySem.W.Frag} {tg : Expr} (a it : Addr) : TurnH P w K tg (Itl K a) [it] it (fun i h => h.IsListIter it a i) where
  mem := by simp
  obj := fun i h st b hb => by
    have e : b = it := by simpa using hb
    subst e
    obtain ⟨o, e, c, d⟩ := st
    exact ⟨o, e, fun v z => by rw [d] at z; cases z⟩
  keep := fun i h h' st k => st.at fun o e => k it (by simp) o e
  item := by
    intro X hP hw hK hc i pins s σ H E I hf st hg
    subst hP hw hK
    obtain ⟨xs, x, hq, hx⟩ := hg
    obtain ⟨its, rv, p, hz⟩ := I.list hq
    obtain ⟨u, hu, ru⟩ := rv.get hx
    obtain ⟨f0, f1, f2, f3, f4, f5⟩ := hf it (by simp)
    refine wpAny_pyNext_list_item st p.isList (x := u) (by simpa using hu) fun h' st' sb => ?_
    have I1 : Inv X pins σ H { s with heap := h' } := I.turned (t' := s.toks) (fun b o hb e => (sb.2 b hb).trans e) f0 f1 f3 f4 f5
    obtain ⟨o, e, c, d⟩ := id st'
    exact ⟨u, rfl, go_of (s := { s with heap := h' }) e c d (by decide) ⟨x, H, I1, ru, ⟨rfl, fun ys hy => by rw [I.list_inj hy hq]; exact hx⟩, st', fun b hb => (hf b hb).1⟩⟩
  done := by
    intro X hP hw hK hc i pins s σ H E I hf st hg
    subst hP hw hK
    obtain ⟨xs, hq, hx⟩ := hg
    obtain ⟨its, rv, p, hz⟩ := I.list hq
    obtain ⟨f0, f1, f2, f3, f4, f5⟩ := hf it (by simp)
    have hl := rv.length
    obtain ⟨ea, oe, vs, a1, a2, a3, a4⟩ := hc
    have hE := I.base.frzs ea oe _ a2
    have gE : s.heap.get? ea = some oe := (show ObjOk X.prog X.w H s.heap ea (XO oe) from I.hok ea _ hE).1
    exact next_endH a1 gE a3 a4 (fun z => by rw [z, f0] at hE; cases hE) st p.isList (by simp; omega) fun h' eb => ⟨rfl, I.turned (t' := s.toks) (fun b o hb e => eb b o hb e) f0 f1 f3 f4 f5⟩
  self := fun _ _ _ _ _ st h => wpAny_pyIter_listiter st h
section
variable {X : Cx} {tg : Expr}
theorem pi_listH {l : Expr} {tl : TE} (hl : PE X l tl) : PIH X tg l (iList X.K tl) := by
  intro pins s σ H R I h
  refine thn (hl pins s σ H _ I h) fun v s1 ⟨x, H1, I1, r1, q1⟩ => ?_
  obtain ⟨a, e, ⟨xs, hq⟩, q⟩ := q1
  subst e
  cases r1
  obtain ⟨its, rv, p, hz⟩ := I1.list hq
  refine wpAny_pyIter_list p.isList ?_
  refine ⟨s1.heap.objs.size, [s1.heap.objs.size], _, _, H1, rfl, I1.kept (t' := s1.toks) fun b o e => Heap.get?_push_of_some _ e, turn_listH a _, ⟨_, Heap.get?_push_size _ rfl, rfl, rfl⟩, fun b hb => ?_, q⟩
  have e : b = s1.heap.objs.size := by simpa using hb
  subst e
  exact I1.fpOk (Nat.le_refl _) (I1.hok.fresh (Nat.le_refl _))
end
section
variable {X : Cx} {elt tg iter : Expr} {ifs : List Expr} {scope : Scope} {pos : Pos} {N' : List Str} {n : Nat} {wi : TI} {g : TG} {tc : TT} {te : TE}
theorem comp_coreH {pins : List (Addr × Obj)} {σ : St} {H2 : Hp} {s2 : Shared} {E : Value → Shared → Prop} {RR : Value → Addr → Result → Shared → Prop} {it : Addr} {fp : List Addr} {tn : Nat → Heap → Prop} {J : It} {Q : VK}
    (hc : HdK X) (ck : CompOk X.env.scope scope X.N N') (hl : N'.length = X.N.length + n)
    (hg : ∀ cl C s₀ H₀ ex, PG (cxComp X N' scope cl C s₀ H₀ ex) tg g) (hif : ∀ cl C s₀ H₀ ex, PIf (cxComp X N' scope cl C s₀ H₀ ex) ifs tc) (he : ∀ cl C s₀ H₀ ex, PE (cxComp X N' scope cl C s₀ H₀ ex) elt te)
    (I2 : Inv X pins σ H2 s2) (T : TurnH X.prog X.w X.K tg J fp it tn) (st2 : tn 0 s2.heap) (f2 : ∀ b ∈ fp, FpOk X pins H2 b)
    (q : ∀ D, H2 D = none → ∃ W : Nat → Nat → St → Hp → Prop, (∃ m, W 0 m (σ ++ List.replicate n none) (upd H2 D (.lst []))) ∧ ∀ i m σ' H', W i m σ' H' →
      (J.stop i H' ∧ Q (.ref D) H') ∨ (J.go i H' ∧ ∃ N : St → Hp → Prop, (∀ σ' H', N σ' H' → ∃ m', m' < m ∧ W (i + 1) m' σ' H') ∧ ∀ x H2, J.yld i H' x H2 → g x σ' H2 fun σ2 H3 => tc σ2 H3 fun b H4 =>
        if b = true then te σ2 H4 fun v H5 => ∃ ys, H5 D = some (.lst ys) ∧ ys.length < sizeLine ∧ N σ2 (upd H5 D (.lst (ys ++ [v]))) else N σ2 H4))
    (hRR : ∀ D C H' s' m, Inv X pins σ H' s' → s'.heap.Ns C m → H' C = none → C ≠ X.env.locals → X.s₀.heap.objs.size ≤ C → (∀ x c, X.env.cells.lookup x = some c → c ≠ C) → (∀ p ∈ X.pn ++ pins, p.1 ≠ C) → Q (.ref D) H' → RR (.ref D) C (.ok .next) s') :
    wpAny (model X.prog X.w) X.A (newList []) (fun acc s₃ => wpAny (model X.prog X.w) X.A (newFunctionEnv scope X.env.globals (closeL scope.names X.env.cells []) [] X.env.qual none .none (some X.env)) (fun cenv s₄ =>
      codeAny (model X.prog X.w) X.A (.compStart (.ListComp elt [⟨tg, iter, ifs, 0⟩] scope pos) 0 (.ref it) acc { cenv with scope := relabel scope X.env }) (RR acc cenv.locals) s₄) E s₃) E s2 := by
  refine wpAny_newObj_type (newEnv_cells (fun h₁ hns₁ old₁ hcs₁ => ?_)) (by show (0 : Nat) ≤ sizeLine; exact Nat.zero_le _)
  have hD : H2 s2.heap.objs.size = none := I2.hok.fresh (Nat.le_refl _)
  obtain ⟨W, ⟨m0, w0⟩, turn⟩ := q s2.heap.objs.size hD
  have fl : ∀ b ∈ fp, b < s2.heap.objs.size := fun b hb => by
    obtain ⟨o, e, _⟩ := T.obj 0 _ st2 b hb
    exact Heap.lt_size e
  have I3 : Inv X pins σ (upd H2 s2.heap.objs.size (.lst [])) { s2 with heap := s2.heap.push { cls := .type "list", dict := none, data := .seq ([] : List Value).toArray } } :=
    I2.laid (t' := s2.toks) (fun b o e => Heap.get?_push_of_some _ e) (Nat.le_refl _) (show ObjOk X.prog X.w _ _ _ (.lst []) from ⟨Nat.zero_le _, [], 0, .nil, Heap.get?_push_size _ rfl⟩)
  generalize hs3 : ({ s2 with heap := s2.heap.push { cls := .type "list", dict := none, data := .seq ([] : List Value).toArray } } : Shared) = s3 at I3 hns₁ old₁ hcs₁ ⊢
  have hz3 : s3.heap.objs.size = s2.heap.objs.size + 1 := by rw [← hs3]; exact Heap.size_push ..
  have old2 : ∀ b o, s2.heap.get? b = some o → s3.heap.get? b = some o := fun b o e => by rw [← hs3]; exact Heap.get?_push_of_some _ e
  have old : ∀ b o, s3.heap.get? b = some o → h₁.get? b = some o := old₁
  have f3 : ∀ b ∈ fp, FpOk X pins (upd H2 s2.heap.objs.size (.lst [])) b ∧ b < s3.heap.objs.size := fun b hb => by
    refine ⟨⟨?_, (f2 b hb).2⟩, by rw [hz3]; exact Nat.lt_succ_of_lt (fl b hb)⟩
    rw [upd_ne (Nat.ne_of_lt (fl b hb))]
    exact (f2 b hb).1
  have I4 := fun (t' : Nat) => inv_comp (N' := N') (scope := scope) (n := n) (fp := fp) (h₁ := h₁) (t' := t') I3 ck hl hns₁ old hcs₁ f3
  generalize hX : cxComp X N' scope (cellsFrom (s3.heap.objs.size + 1) scope.names (closeL scope.names X.env.cells [])) s3.heap.objs.size s3 (upd H2 s2.heap.objs.size (.lst [])) fp = X' at I4
  have eP : X'.prog = X.prog := by rw [← hX]; rfl
  have ew : X'.w = X.w := by rw [← hX]; rfl
  have eK : X'.K = X.K := by rw [← hX]; rfl
  have eA : X'.A = X.A := by rw [← hX]; rfl
  have eE : X'.env = compEnvC scope (cellsFrom (s3.heap.objs.size + 1) scope.names (closeL scope.names X.env.cells [])) s3.heap.objs.size X.env := by rw [← hX]; rfl
  have ec : HdK X' := by
    obtain ⟨ea, oe, vs, a1, a2, a3, a4⟩ := hc
    refine ⟨ea, oe, vs, by rw [eA]; exact a1, ?_, a3, a4⟩
    have z := I2.base.frzs ea oe _ a2
    rw [← hX]
    show (upd H2 s2.heap.objs.size (.lst [])) ea = _
    rw [upd_ne (fun y => by rw [y, hD] at z; cases z)]
    exact z
  have ex' : X'.xe = fun _ _ => False := by rw [← hX]; rfl
  have hg' : PG X' tg g := by rw [← hX]; exact hg _ _ _ _ _
  have hif' : PIf X' ifs tc := by rw [← hX]; exact hif _ _ _ _ _
  have he' : PE X' elt te := by rw [← hX]; exact he _ _ _ _ _
  have stat : ∀ {H' : Hp}, (∀ b ∈ fp, H' b = none) → ∀ b ∈ fp, FpOk X' [] H' b := fun hn b hb => by
    refine ⟨hn b hb, ?_, ?_, ?_, ?_, ?_⟩
    · rw [eE]; exact Nat.ne_of_lt (f3 b hb).2
    · rw [← hX]
      intro hf
      rcases List.mem_cons.mp (I3.stkSub b hf) with z | z
      · exact (f3 b hb).1.2.1 z
      · exact (f3 b hb).1.2.2.1 z
    · rw [← hX]; exact .inl hb
    · rw [eE]
      intro x c e
      rcases cells_split e with z | z
      · exact fun k => absurd (f3 b hb).2 (Nat.not_lt.mpr (by rw [← k]; exact Nat.le_of_succ_le z.2))
      · exact (f3 b hb).1.2.2.2.2.1 x c (closeL_sub _ _ _ (fun _ _ z => by simp at z) x c (PySem.mem_of_lookup z))
    · rw [← hX]; intro p hp; exact absurd hp (by simp [cxComp])
  have fin : ∀ {σ' : St} {H' : Hp} {s' : Shared}, Inv X' [] σ' H' s' → Q (.ref s2.heap.objs.size) H' → RR (.ref s2.heap.objs.size) s3.heap.objs.size (.ok .next) s' := fun {σ' H' s'} I' q' => by
    obtain ⟨m', hn', _⟩ := id I'.loc
    rw [eE] at hn'
    have hos : s'.os = s3.os := by have := I'.os; rw [← hX] at this; exact this
    have hun : Un (frs X.stack) fp (upd H2 s2.heap.objs.size (.lst [])) H' s3.heap s'.heap := by have := I'.base; rw [← hX] at this; exact this
    have hok : HOk X.prog X.w H' s'.heap := by have := I'.hok; rw [eP, ew] at this; exact this
    have IX : Inv X pins σ H' s' := I3.call' (ch := fp) hos hun hok I'.bare fun b hb => ⟨(f3 b hb).1.2.2.2.1, (f3 b hb).1.2.1, (f3 b hb).1.2.2.2.2.1, (f3 b hb).1.2.2.2.2.2⟩
    have hfr := I'.free
    rw [eE] at hfr
    refine hRR _ _ H' s' m' IX hn' hfr (Nat.ne_of_gt I3.lt) I3.sz (fun x c e z => ?_) (fun p hp z => ?_) q'
    · obtain ⟨v, o, ho, _⟩ := I3.cell x c e
      exact absurd (Heap.lt_size ho) (by rw [z]; exact Nat.lt_irrefl _)
    · exact absurd (Heap.lt_size (I3.pin p hp).1) (by rw [z]; exact Nat.lt_irrefl _)
  have loop : ∀ t', codeAny (model X.prog X.w) X.A (.compLoop (.ListComp elt [⟨tg, iter, ifs, 0⟩] scope pos) 0 (.ref it) (.ref s2.heap.objs.size) (compEnvC scope (cellsFrom (s3.heap.objs.size + 1) scope.names (closeL scope.names X.env.cells [])) s3.heap.objs.size X.env)) (RR (.ref s2.heap.objs.size) s3.heap.objs.size) { s3 with heap := h₁, toks := t' } := fun t' => by
    refine codeAny_compLoop_gen (fun k s' => ∃ i σ' H', Inv X' [] σ' H' s' ∧ tn i s'.heap ∧ (∀ b ∈ fp, H' b = none) ∧ W i k σ' H') ?_ m0
      ⟨0, _, _, I4 t', T.keep 0 _ _ st2 fun b _ o e => old b o (old2 b o e), fun b hb => (f3 b hb).1.1, w0⟩
    rintro k s4 ⟨i, σ4, H4, J4, st4, fr4, w4⟩
    rw [← eP, ← ew, ← eA, ← eE]
    rcases turn i k σ4 H4 w4 with ⟨stop, qn⟩ | ⟨go, N, hN, step⟩
    · have d1 := T.done X' eP ew eK ec i [] s4 σ4 H4 (fun _ _ => False) J4 (stat fr4) st4 stop
      rw [← eP, ← ew] at d1
      refine thnF d1 fun r s5 ⟨hr, I5⟩ => ?_
      subst hr
      exact fin I5 qn
    · have d1 := T.item X' eP ew eK ec i [] s4 σ4 H4 (fun _ _ => False) J4 (stat fr4) st4 go
      rw [← eP, ← ew] at d1
      refine thnF d1 fun r s5 ⟨u, hr, h5⟩ => ?_
      subst hr
      refine thnF h5 fun _ s6 ⟨x, H6, I6, r6, y6, st6, fr6⟩ => ?_
      have I6' := I6.pinned (stat fr6) (T.obj _ _ st6)
      have again : ∀ {σ7 : St} {H7 : Hp} {s7 : Shared}, Inv X' ([] ++ pinsAt fp s6.heap) σ7 H7 s7 → N σ7 H7 → ∃ m, m < k ∧ ∃ i σ' H', Inv X' [] σ' H' s7 ∧ tn i s7.heap ∧ (∀ b ∈ fp, H' b = none) ∧ W i m σ' H' := fun {σ7 H7 s7} I7 n7 => by
        obtain ⟨m', hm, w7⟩ := hN σ7 H7 n7
        refine ⟨m', hm, i + 1, σ7, H7, I7.unpinned, T.keep _ _ _ st6 fun b hb o e => (I7.pin (b, o) (List.mem_append_right _ (List.mem_append_right _ (mem_pinsAt hb e)))).1, fun b hb => ?_, w7⟩
        obtain ⟨o, e, d⟩ := T.obj _ _ st6 b hb
        exact (I7.pin (b, o) (List.mem_append_right _ (List.mem_append_right _ (mem_pinsAt hb e)))).2.1
      have a1 := hg' _ s6 σ4 H6 x u _ I6' r6 (step x H6 y6)
      rw [ex'] at a1
      refine thnF a1 fun _ s7 ⟨σ7, H7, I7, q7⟩ => ?_
      have a2 := hif' _ s7 σ7 H7 _ I7 q7
      rw [ex'] at a2
      refine thnF a2 fun ok s8 ⟨H8, I8, q8⟩ => ?_
      cases ok with
      | false =>
        rw [if_neg Bool.false_ne_true] at q8 ⊢
        exact again I8 q8
      | true =>
        rw [if_pos rfl] at q8 ⊢
        have a3 := he' _ s8 σ7 H8 _ I8 q8
        rw [ex'] at a3
        refine thnF a3 fun v s9 ⟨vv, H9, I9, r9, ys, hy, hz, q9⟩ => ?_
        have a4 := mt_append (X := X') _ s9 σ7 H9 (.ref s2.heap.objs.size) [vv] (.ref s2.heap.objs.size) [v] (fun _ H' => N σ7 H') I9 rfl (.cons r9 .nil) ⟨_, ys, vv, rfl, rfl, hy, hz, q9⟩
        rw [ex'] at a4
        exact thnF a4 fun _ s10 ⟨_, H10, I10, _, q10⟩ => again I10 q10
  refine codeAny_compStart_list (loop _) (T.self _ 0 _ _ _ ?_ (loop _))
  exact T.keep 0 _ _ st2 fun b _ o e => old b o (old2 b o e)
theorem ps_setCH {y : Str} {py spos : Pos} {i : Nat} (sc : Scope) (N N' : List Str) (n : Nat) (hnd : X.N.Nodup) (hiN : X.N[i]? = some y) (hy : Loc X.env.scope y) (hi : PIH X tg iter wi)
    (hg : ∀ cl C s₀ H₀ ex, PG (cxComp X N' scope cl C s₀ H₀ ex) tg g) (hif : ∀ cl C s₀ H₀ ex, PIf (cxComp X N' scope cl C s₀ H₀ ex) ifs tc) (he : ∀ cl C s₀ H₀ ex, PE (cxComp X N' scope cl C s₀ H₀ ex) elt te)
    (hsw : swapsWith (.ListComp elt [⟨tg, iter, ifs, 0⟩] scope pos) (some (.Name y py)) spos.line X.env = pure true := by rfl)
    (hc : HdK X) (hsc : X.env.scope = sc := by rfl) (hN : X.N = N := by rfl) (hk : compOk sc scope N N' = true := by decide +kernel) (hl : N'.length = N.length + n := by rfl)
    (hs : ∀ x, foldedSetIterable iter X.env x = pure x := by intro _; rfl) (hf : X.fn y = true ∨ X.env.scope.names.lookup y = some .local := by first | exact .inl rfl | exact .inr rfl | assumption) :
    PS X (.Assign [.Name y py] (.ListComp elt [⟨tg, iter, ifs, 0⟩] scope pos) spos) (tAsg (tComp n wi g tc te) (gName i)) := by
  intro pins s σ H D I h
  subst hsc hN
  have ck := CompOk.of hk
  rw [exec_Assign_Name_used _ _ _ _ hsw]
  refine wpAny_bind (wpAny_standAt (wpAny_bind ?_))
  show wpAny _ X.A (do let _ ← comprehension (.ListComp elt [⟨tg, iter, ifs, 0⟩] scope pos) scope X.env _ (newList []) false (eval iter X.env) (some (assign (.Name y py) X.env))) _ _ s
  refine wpAny_bind (wpAny_mono (wpAny_comprehension_free (use := some (assign (.Name y py) X.env)) (Q := fun _ s' => SP X pins D .next s') rfl hs (closure_eq fun x hx hf => I.ok.has x.1 (ck.free x hx hf)) ck.kind ck.names
    (thn (hi pins s σ H _ I h) fun v s1 h1 => thn h1 fun itv s2 h2 => ?_)) (fun _ s' hq => wpAny_pure (wpAny_pure hq)) fun _ _ e => e)
  obtain ⟨it, fp, tn, J, H2, e, I2, T, st2, f2, q⟩ := h2
  subst e
  refine comp_coreH (Q := fun x H1 => gName i x σ H1 D.nx) (RR := fun acc C => compPost (model X.prog X.w) X.A X.xe (some (assign (.Name y py) X.env)) (fun _ s' => SP X pins D .next s') acc C) hc ck hl hg hif he I2 T st2 f2 q ?_
  intro D' C H' s' m IX hn hC c1 c2 c3 c4 qq
  show wpAny _ X.A (assign (.Name y py) X.env (.ref D')) _ _ _
  refine wpAny_assign_Name (store_ok2 IX hnd hiN hy (v := .ref D') rfl (fun s'' I'' hsb => ?_) hf)
  obtain ⟨a, hsb, ha⟩ := hsb
  have hCa : C ≠ a := by
    rcases ha with ha | ha
    · rw [ha]; exact c1
    · exact Ne.symm (c3 _ _ ha)
  refine ⟨m, hn.sameBut hsb hCa, fun h' hs' => ⟨_, H', I''.turned (t' := s''.toks) (fun b o hb e => hs'.extBut b o hb e) hC c1 (.inr c2) c3 c4, qq⟩⟩
end
section
variable {X : Cx} {elt tg iter c : Expr} {ifs : List Expr} {scope : Scope} {pos p : Pos} {wi : TI} {σ : St} {H : Hp} {Q : VK} {T : Bool → Hp → Prop} {rest : List Stmt} {D : Ends}
theorem run_setCH (i : Nat) {y : Str} {py spos : Pos} (sc : Scope) (N N' : List Str) (n : Nat) (hc : HdK X) (hnd : X.N.Nodup) (hi : PIH X tg iter wi)
    (h : wi σ H fun J H1 => ∀ A, H1 A = none → CompL X N' scope tg ifs elt J A (fun H' => Run X rest D (σ.set i (some (.ref A))) H') (σ ++ List.replicate n none) (upd H1 A (.lst [])))
    (hiN : X.N[i]? = some y := by rfl) (hy : Loc X.env.scope y := by first | exact Or.inl rfl | exact Or.inr rfl)
    (hsw : swapsWith (.ListComp elt [⟨tg, iter, ifs, 0⟩] scope pos) (some (.Name y py)) spos.line X.env = pure true := by rfl)
    (hsc : X.env.scope = sc := by rfl) (hN : X.N = N := by rfl) (hk : compOk sc scope N N' = true := by decide +kernel) (hl : N'.length = N.length + n := by rfl)
    (hs : ∀ x, foldedSetIterable iter X.env x = pure x := by intro _; rfl) (hf : X.fn y = true ∨ X.env.scope.names.lookup y = some .local := by first | exact .inl rfl | exact .inr rfl | assumption) :
    Run X (.Assign [.Name y py] (.ListComp elt [⟨tg, iter, ifs, 0⟩] scope pos) spos :: rest) D σ H :=
  run_cons (ps_setCH (g := fun v σ H Q => CEg X N' scope tg v σ H Q) (tc := fun σ H Q => CEi X N' scope ifs σ H Q) (te := fun σ H Q => CEv X N' scope elt σ H Q) sc N N' n hnd hiN hy hi
    (fun cl C s₀ H₀ ex pins s σ H v u Q I r h => (h cl C s₀ H₀ ex).run pins s u I r) (fun cl C s₀ H₀ ex pins s σ H Q I h => (h cl C s₀ H₀ ex).run pins s I) (fun cl C s₀ H₀ ex pins s σ H Q I h => (h cl C s₀ H₀ ex).run pins s I) hsw hc hsc hN hk hl hs hf) h
end
end L2
namespace L2
open PySem PySem.Spec PyProof.Rows
structure RoomH (k : Nat) (A : Around) (ea : Addr) : Prop where
  hd : A.handled = some (.ref ea)
  dp : A.depth + 3 * k + 5 < recursionLimit
  un : A.units + 16 * k + 200 < cLine
structure FnOkH (P : Program) (w : World) (K : PySem.W.Frag) (mg : Str → Option Value) (base : Heap) (k : Nat) (f : Addr) (fd : FuncData) (ps : List Str) (sp : Addr → Obj → Sp) : Prop where
  len : ∀ ea oe vs H Q E, sp ea oe vs H Q E → vs.length = ps.length
  run : ∀ (ea : Addr) (oe : Obj) (C : Value) (A : Around) (outer : List Env) (s : Shared) (H : Hp) (args : Args) (us : List Value) (vs : List V) (Q : VK) (E : XK), RoomH k A ea → H ea = some (XO oe) → IsX oe C → Env0 P w K mg base A outer s H → BindsTo s fd args (ps.zip us) → Vals vs us → sp ea oe vs H Q E →
    codeAny (model P w) A (.call (.ref f) args) (CR CX0 outer P w H s Q E) s
noncomputable def cxH (N : List Str) (qual : Str) (scope : Scope) (P : Program) (w : World) (K : PySem.W.Frag) (mg : Str → Option Value) (base : Heap) (b : Bun) : Cx := { (cxOf CX0 P w K mg base N qual scope b.f b.cdv b.A b.outer b.s b.H b.E).nox with calm := false }
theorem inv_startH {P : Program} {w : World} {K : PySem.W.Frag} {mg : Str → Option Value} {base : Heap} {N ps : List Str} {qual : Str} {scope : Scope} {b : Bun} {s1 : Shared} {us : List Value} {vs : List V}
    (S : FnScope N ps scope) (e0 : Env0 P w K mg base b.A b.outer b.s b.H) (hl : vs.length = ps.length) (r : Vals vs us)
    (x : InCallC b.s b.s.heap.objs.size (bindL (envOfC qual scope b.s.heap.objs.size b.f b.cdv).kindOf (ps.zip us) fun _ => none) (cellsFrom (b.s.heap.objs.size + 1) scope.names []) (bindC (envOfC qual scope b.s.heap.objs.size b.f b.cdv).kindOf (ps.zip us) fun _ => none) s1) :
    Inv (cxH N qual scope P w K mg base b) [] (start N vs) b.H s1 := by
  have e1 : Env0 P w K mg base { b.A with handled := none } b.outer b.s b.H := ⟨e0.frames, e0.mod, e0.bs, e0.bsz, e0.funs, e0.frf, e0.hok, e0.bare⟩
  have I := inv_start (CX := CX0) (E := b.E) (A := { b.A with handled := none }) S rfl e1 hl r x
  exact ⟨⟨I.ok.mod, I.ok.kind, I.ok.glob, I.ok.blt, I.ok.above, I.ok.inj, I.ok.has, I.ok.cab, (fun z => (nomatch z)), I.ok.frames, I.ok.stk, I.ok.exf, I.ok.bs, I.ok.bsz, I.ok.noex, I.ok.exfs, I.ok.funs, I.ok.frf⟩, I.os, I.bare, I.base, I.loc, I.cell, I.free, I.freeC, I.pin, I.hok, I.len⟩
theorem Fun.gh {P : Program} {w : World} {K : PySem.W.Frag} {mg : Str → Option Value} {base : Heap} {N ps : List Str} {qual x : Str} {st : Stmt} {f : Addr} {fd : FuncData} {k : Nat} {sp : Addr → Obj → Sp} (F : Fun K x qual st f fd) (S : FnScope N ps (defScope st))
    (len : ∀ ea oe vs H Q E, sp ea oe vs H Q E → vs.length = ps.length)
    (hbody : ∀ (b : Bun) (ea : Addr) (oe : Obj) (C : Value) (vs : List V) (Q : VK) (E : XK), b.A.units + 16 * k + 203 < cLine → b.H ea = some (XO oe) → IsX oe C → HdK (cxH N qual (defScope st) P w K mg base b) → sp ea oe vs b.H Q E → Run (cxH N qual (defScope st) P w K mg base b) (defBody st) (En Q) (start N vs) b.H) : FnOkH P w K mg base (k + 1) f fd ps sp := by
  obtain ⟨oc, od, kV, doc, pm, an, cdv, ct, osl, rfl, lk, hcd⟩ := F.ex
  refine ⟨len, fun ea oe C A outer s H args us vs Q E hr hE hX e0 hb r hsp => ?_⟩
  have hl := len _ _ _ _ _ _ hsp
  have KX : K.In s.heap := e0.mod.kin.keeps fun b o e => (e0.bs b o e).1
  have lim : s.heap.NoLimit := e0.mod.nolimit.keeps fun b o e => (e0.bs b o e).1
  have hkind : ∀ y ∈ ps.zip us, (defScope st).names.lookup y.1 = some .local ∨ ((defScope st).names.lookup y.1 = some .cell ∧ ((cellsFrom (s.heap.objs.size + 1) (defScope st).names []).lookup y.1).isSome = true) := fun ⟨n, v⟩ hy => by
    rcases S.par n (List.of_mem_zip hy).1 with q | q
    · exact .inl q
    · exact .inr ⟨q, PySem.W.cellsFrom_some _ _ _ (.inl q)⟩
  refine codeAny_call_function (by have := hr.dp; omega) (KX _ _ lk) rfl S.co S.gen rfl (PySem.W.codeRec_of KX hcd) (hb _ _ _ _ ?_)
  refine wpAny_newFunctionEnv_cells S.kind hkind fun env he s1 x => ?_
  subst he
  refine ⟨lim.keeps x.toInCall.keep, codeAny_func ?_⟩
  have I : Inv (cxH N qual (defScope st) P w K mg base ⟨f, cdv, A, outer, s, H, E⟩) [] (start N vs) H s1 := inv_startH (b := ⟨f, cdv, A, outer, s, H, E⟩) S e0 hl r x
  obtain ⟨ws, d1, d2⟩ := hX.data
  have hK : HdK (cxH N qual (defScope st) P w K mg base ⟨f, cdv, A, outer, s, H, E⟩) := ⟨ea, oe, ws, hr.hd, hE, d1, d2⟩
  refine wpAny_mono ((hbody ⟨f, cdv, A, outer, s, H, E⟩ ea oe C vs Q E (by show A.units + 16 * k + 203 < cLine; have := hr.un; omega) hE hX hK hsp).run [] s1 I) (fun fl s' hs => ?_) fun e s' hs => hs.elim
  have fin : ∀ {σ' : St} {H' : Hp} {v : V} {u : Value}, Inv (cxH N qual (defScope st) P w K mg base ⟨f, cdv, A, outer, s, H, E⟩) [] σ' H' s' → RelV v u → Q v H' → CE outer P w H s Q u s' :=
    fun {σ' H' v u} J rv q => ⟨v, H', J.os, J.bare, J.base, J.hok, rv, q⟩
  cases fl with
  | ret u =>
    obtain ⟨v, σ', H', J, rv, q⟩ := hs
    exact fin J rv q
  | next =>
    obtain ⟨σ', H', J, q⟩ := hs
    exact fin (v := V.non) (u := Value.none) J rfl q
  | brk =>
    obtain ⟨_, _, _, q⟩ := hs
    exact False.elim q
  | cont =>
    obtain ⟨_, _, _, q⟩ := hs
    exact False.elim q
structure HasH (P : Program) (w : World) (K : PySem.W.Frag) (mg : Str → Option Value) (base : Heap) (k : Nat) (x : Str) (ps : List Str) (sp : Addr → Obj → Sp) : Prop where
  ex : ∃ f fd, FnOkH P w K mg base k f fd ps sp ∧ Binds K fd ps [] ∧ PySem.W.keepIn K (.ref f) = true ∧ mg x = some (.ref f)
theorem Df.hasH {P : Program} {w : World} {K : PySem.W.Frag} {mg : Str → Option Value} {h base : Heap} {k : Nat} {x : Str} {st : Stmt} {ps : List Str} {sp : Addr → Obj → Sp} (d : Df K x st) (X : K.In h) (G : h.Ns mainGlobals mg)
    (hb : ∀ (kV doc pm : Value) (an : Option Addr) (cdv ct : Value) (us : List Value), us.length = ps.length → bindArgs (PySem.W.fnOf x x (defArgs st) (defBody st) (defScope st) .none kV doc pm an cdv ct) ⟨us, []⟩ = pure (ps.zip us))
    (ok : ∀ {f : Addr} {fd : FuncData}, Fun K x x st f fd → FnOkH P w K mg base k f fd ps sp) : HasH P w K mg base k x ps sp :=
  let ⟨f, fd, a, F⟩ := d; ⟨f, fd, ok F, F.binds hb, F.kp, PySem.W.mg_of X G a⟩
section
variable {X : Cx} {k : Nat} {ps : List Str} {sp : Addr → Obj → Sp} {E : XK} {x : Str} {p pos : Pos} {e : Expr} {es : List Expr} {σ : St} {H : Hp} {Q : VK}
theorem ev_hasH (G : HasH X.prog X.w X.K X.mg X.base k x ps sp) {ea : Addr} (hr : RoomH k X.A ea) (h : Ea X (e :: es) σ H fun vs H1 => ∃ oe C, H1 ea = some (XO oe) ∧ IsX oe C ∧ sp ea oe vs H1 Q E)
    (hg : Gl X x := by rfl) (hdb : (x == ("__debug__" : Str)) = false := by decide) (he : starEach (e :: es) X.env = (false, eval e X.env) :: starEach es X.env := by rfl) (hpl : (backTo pos (starEach es X.env)).any (·.1) = false := by rfl) : Ev X (.Call (.Name x p) (e :: es) [] pos) σ H Q := by
  obtain ⟨f, fd, F, hb, hk, hm⟩ := G.ex
  refine ⟨fun pins s I => wpAny_Call_Name_kw (ld_glob I hg hm ?_ hdb)⟩
  refine PySem.W.callWith_K (h₀ := X.base) I.ok.mod.kin hk (thn (h.run pos pins s I) fun us s1 ⟨vs, H1, I1, r, oe, C, hE, hX, q⟩ => ⟨I1.kIn, ?_⟩) he hpl
  have hl : us.length = ps.length := by rw [← r.length]; exact F.len _ _ _ _ _ _ q
  have hb2 := hb s1 us I1.kIn (by rw [List.append_nil]; exact hl)
  rw [List.append_nil] at hb2
  refine wpAny_call (codeAny_mono (F.run ea oe C X.A X.stack s1 H1 ⟨us, []⟩ us vs Q E hr hE hX I1.env0 hb2 r q) fun r s' hq => ?_)
  cases r with
  | error y => exact False.elim hq
  | ok fl =>
    cases fl with
    | ret u => exact I1.after hq
    | next => exact False.elim hq
    | brk => exact False.elim hq
    | cont => exact False.elim hq
end
theorem roomH {k : Nat} {A : Around} {ea : Addr} (hr : Room k A) : RoomH k (A.mark (some (.ref ea))) ea := ⟨rfl, hr.dp, hr.un⟩
end L2
namespace L2
open PySem PySem.Spec PyProof.Rows
section
variable {M : Model} {A : Around} {E : Value → Shared → Prop} {s : Shared}
theorem land_to {e T : Addr} {C fl : Value} {fr : Option Addr} {Q : Unit → Shared → Prop} (x : Xo s.heap e T C fl)
    (h : ∀ h', Xo h' e T C (fr.elim Value.none fun f => rawInt f) → (∀ b o, b ≠ T → s.heap.get? b = some o → h'.get? b = some o) → Q () { s with heap := h' }) : wpAny M A (setFlight (.ref e) fr) Q E s := by
  obtain ⟨⟨oe, vs, he, hc, hdi, hd, h1, h2⟩, hne, ⟨oT, ts, hT, dT, h3⟩⟩ := x
  unfold setFlight
  refine wpAny_bind (wpAny_field he hd h1 ?_)
  rw [if_pos (show (Value.ref T != Value.none) = true from by simp)]
  have sz := (Array.getElem?_eq_some_iff.mp h3).1
  have dd := Obj.data_mapFields dT (·.setIfInBounds 3 (fr.elim Value.none fun f => rawInt f))
  refine wpAny_setField hT dT sz (h _ ⟨⟨oe, vs, (Heap.get?_update_other _ _ hne).trans he, hc, hdi, hd, h1, h2⟩, hne, ⟨_, _, Heap.get?_update_self _ hT (Obj.isFreed_of_fields dd), dd, ?_⟩⟩ fun b o hb q => (Heap.get?_update_other _ _ (Ne.symm hb)).trans q)
  rw [Array.getElem?_setIfInBounds_self_of_lt sz]
theorem note_any {base : Heap} {env : Env} {outer : List Env} {L e T : Addr} {C fl : Value} {Q : Unit → Shared → Prop} (hfr : A.frames = some (env :: outer)) (hl : s.heap.FunFrames base (env :: outer)) (hf : env.frame = some L) (x : Xo s.heap e T C fl)
    (h : ∀ h' T', (T' = T ∨ s.heap.get? T' = none) → Xo h' e T' C .none → Kp (frs (env :: outer)) [e, T] s.heap h' → Q () { s with heap := h' }) :
    wpAny M A (noteFrame (.ref e) env) (fun _ s' => wpAny M A (setFlight (.ref e) none) Q E s') E s := by
  obtain ⟨⟨oe, vs, he, hc, hdi, hd, h1, h2⟩, hne, ⟨oT, ts, hT, dT, h3⟩⟩ := id x
  subst hc
  have rcd : ∀ b o, s.heap.get? b = some o → (∀ vs, o.data ≠ .fields vs) → b ≠ T := fun b o q hn z => by
    rw [z, hT] at q
    cases q
    exact hn ts dT
  have nf : T ∉ frs (env :: outer) := fun hm => by
    obtain ⟨_, o, ho, hn⟩ := hl.mem hm
    exact rcd T o ho hn rfl
  unfold noteFrame
  simp only [hf]
  refine wpAny_bind (wpAny_field he hd h1 ?_)
  rw [if_pos (show (Value.ref T != Value.none) = true from by simp)]
  refine wpAny_bind (wpAny_field hT dT h3 ?_)
  by_cases hfl : (fl == rawInt L) = true
  · rw [if_pos hfl]
    refine wpAny_pure (land_to (fr := none) x fun h' x' k => h h' T (.inl rfl) x' ⟨fun b o q _ nb => k b o (fun z => nb (by simp [z])) q, fun b o q hb => ⟨o.slots, k b o (fun z => nf (z ▸ hb)) q⟩⟩)
  rw [if_neg hfl]
  refine wpAny_bind (wpAny_setField hT dT (Array.getElem?_eq_some_iff.mp h3).1 ?_)
  have nT : ∀ b, b ≠ T → (s.heap.update T (Obj.mapFields (·.setIfInBounds 3 Value.none))).get? b = s.heap.get? b := fun b hb => Heap.get?_update_other _ _ (Ne.symm hb)
  refine lay_trace hfr (hl.of_keeps fun b o q hn => ⟨o, (nT b (rcd b o q hn)).trans q, rfl⟩) hf ((nT e (Ne.symm hne)).trans he) hd hdi (Array.getElem?_eq_some_iff.mp h1).1 h2 fun h' T' z x k => h h' T' (.inr ?_) x ⟨fun b o q n1 n2 => ?_, fun b o q hb => ?_⟩
  · cases hq : s.heap.get? T' with
    | none => rfl
    | some o =>
      by_cases y : T' = T
      · have := Heap.get?_update_self (Obj.mapFields (·.setIfInBounds 3 Value.none)) hT (Obj.isFreed_of_fields (Obj.data_mapFields dT _))
        rw [y] at z
        exact absurd (this.symm.trans z) (by simp)
      · have := (nT T' y).trans hq
        exact absurd (this.symm.trans z) (by simp)
  · have n3 : b ≠ T := fun y => n2 (by simp [y])
    exact k.keep b o ((nT b n3).trans q) n1 (fun y => n2 (by simp at y; simp [y]))
  · exact k.slot b o ((nT b fun y => nf (y ▸ hb)).trans q) hb
theorem note_mark {base : Heap} {env : Env} {outer : List Env} {L e T : Addr} {C : Value} {Q : Unit → Shared → Prop} (hfr : A.frames = some (env :: outer)) (hl : s.heap.FunFrames base (env :: outer)) (hf : env.frame = some L) (x : Xo s.heap e T C .none)
    (h : ∀ h' T', s.heap.get? T' = none → Xo h' e T' C (rawInt L) → Kp (frs (env :: outer)) [e, T] s.heap h' → Q () { s with heap := h' }) :
    wpAny M A (noteFrame (.ref e) env) Q E s := by
  obtain ⟨⟨oe, vs, he, hc, hdi, hd, h1, h2⟩, hne, ⟨oT, ts, hT, dT, h3⟩⟩ := x
  subst hc
  unfold noteFrame
  simp only [hf]
  refine wpAny_bind (wpAny_field he hd h1 ?_)
  rw [if_pos (show (Value.ref T != Value.none) = true from by simp)]
  refine wpAny_bind (wpAny_field hT dT h3 ?_)
  rw [if_neg (show ¬ ((Value.none == rawInt L) = true) from by simp [rawInt])]
  refine wpAny_bind (wpAny_setField hT dT (Array.getElem?_eq_some_iff.mp h3).1 ?_)
  have nT : ∀ b, b ≠ T → (s.heap.update T (Obj.mapFields (·.setIfInBounds 3 Value.none))).get? b = s.heap.get? b := fun b hb => Heap.get?_update_other _ _ (Ne.symm hb)
  have rcd : ∀ b o, s.heap.get? b = some o → (∀ vs, o.data ≠ .fields vs) → b ≠ T := fun b o q hn z => by
    rw [z, hT] at q
    cases q
    exact hn ts dT
  have nf : T ∉ frs (env :: outer) := fun hm => by
    obtain ⟨_, o, ho, hn⟩ := hl.mem hm
    exact rcd T o ho hn rfl
  have nef : e ∉ frs (env :: outer) := fun hm => by
    obtain ⟨_, o, ho, hn⟩ := hl.mem hm
    rw [he] at ho
    cases ho
    exact hn vs hd
  have he0 := (nT e (Ne.symm hne)).trans he
  have hl0 : (s.heap.update T (Obj.mapFields (·.setIfInBounds 3 Value.none))).FunFrames base (env :: outer) := hl.of_keeps fun b o q hn => ⟨o, (nT b (rcd b o q hn)).trans q, rfl⟩
  refine wpAny_bind (wpAny_frameOf_fun (s := { s with heap := s.heap.update T (Obj.mapFields (·.setIfInBounds 3 Value.none)) }) hfr hl0 hf fun ha sa => ?_)
  refine wpAny_bind (wpAny_entryPlaceOf fun pl ip => ?_)
  unfold EntryCells.newEntry newFields
  refine wpAny_bind (wpAny_newObj_type ?_ (ip.sizeOk5 _ _ _ _ _))
  generalize hoT : ({ cls := .type "traceback", dict := none, data := .fields ([Value.ref T, .ref L, .none, rawInt L, .none] ++ (if pl.isEmpty then List.replicate 6 Value.none else pl)).toArray } : Obj) = oN
  have ea : ha.get? e = some oe := (sa.2.1 e nef).trans he0
  have eb : (ha.push oN).get? e = some oe := Heap.get?_push_of_some _ ea
  have tb : (ha.push oN).get? ha.objs.size = some oN := Heap.get?_push_size ha (by rw [← hoT]; rfl)
  have hTe : ha.objs.size ≠ e := Nat.ne_of_gt (Heap.lt_size ea)
  have hs1 := (Array.getElem?_eq_some_iff.mp h1).1
  refine wpAny_setField eb hd hs1 ?_
  have dc := Obj.data_mapFields hd (·.setIfInBounds 1 (Value.ref ha.objs.size))
  have ec := Heap.get?_update_self (Obj.mapFields (·.setIfInBounds 1 (Value.ref ha.objs.size))) eb (Obj.isFreed_of_fields dc)
  have tc : ((ha.push oN).update e (Obj.mapFields (·.setIfInBounds 1 (Value.ref ha.objs.size)))).get? ha.objs.size = some oN := (Heap.get?_update_other _ _ (Ne.symm hTe)).trans tb
  have hidden : ∀ b o, s.heap.get? b = some o → b ≠ T → ∃ sl, ha.get? b = some { o with slots := sl } := fun b o q hb => sa.2.2 b o ((nT b hb).trans q)
  refine h _ ha.objs.size ?_ ⟨⟨_, _, ec, Obj.cls_mapFields _ _, by rw [dict_mapFields]; exact hdi, dc, by simp [hs1], by rw [Array.getElem?_setIfInBounds_ne (by decide)]; exact h2⟩, hTe, ⟨_, _, tc, by rw [← hoT], by simp⟩⟩ ⟨fun b o q nfb nb => ?_, fun b o q hb => ?_⟩
  · cases hq : s.heap.get? ha.objs.size with
    | none => rfl
    | some o =>
      exfalso
      by_cases y : ha.objs.size = T
      · have z := Heap.get?_update_self (Obj.mapFields (·.setIfInBounds 3 Value.none)) hT (Obj.isFreed_of_fields (Obj.data_mapFields dT _))
        obtain ⟨sl, z'⟩ := sa.2.2 T _ z
        have := Heap.lt_size z'
        rw [← y] at this
        exact Nat.lt_irrefl _ this
      · obtain ⟨sl, z⟩ := hidden _ o hq y
        exact Nat.lt_irrefl _ (Heap.lt_size z)
  · have n1 : b ≠ e := fun z => nb (by simp [z])
    have n2 : b ≠ T := fun z => nb (by simp [z])
    rw [Heap.get?_update_other _ _ (Ne.symm n1)]
    exact Heap.get?_push_of_some _ ((sa.2.1 b nfb).trans ((nT b n2).trans q))
  · have n1 : b ≠ e := fun z => nef (z ▸ hb)
    have n2 : b ≠ T := fun z => nf (z ▸ hb)
    obtain ⟨sl, z⟩ := hidden b o q n2
    exact ⟨sl, by rw [Heap.get?_update_other _ _ (Ne.symm n1)]; exact Heap.get?_push_of_some _ z⟩
end
noncomputable def Lnd (X : Cx) (E : XK) : Prop := ∀ (pins : List (Addr × Obj)) (σ : St) (H : Hp) (s : Shared) (ea T : Addr) (C fl : Value), Inv X pins σ H s → Xo s.heap ea T C fl → Apt X pins ea → Apt X pins T → H ea = none → H T = none → E C none H → X.xe (.ref ea) s
section
variable {P : Program} {w : World} {K : PySem.W.Frag} {mg : Str → Option Value} {base : Heap} {N : List Str} {qual : Str} {scope : Scope}
theorem lndX {b : Bun} : Lnd (cxX N qual scope P w K mg base b) b.E := by
  intro pins σ H1 s1 e T C fl I x a1 a2 n3 n4 hE
  have n1 : b.s.heap.get? e = none := a1.s
  have n2 : b.s.heap.get? T = none := a2.s
  show wpAny (model P w) (b.A.deeper (envOfC qual scope b.s.heap.objs.size b.f b.cdv)) (leaving (envOfC qual scope b.s.heap.objs.size b.f b.cdv) (.ref e)) _ _ s1
  unfold leaving
  refine wpAny_bind (note_any (base := base) (outer := b.outer) I.ok.frames I.stack rfl x fun h' T' z x' k => ?_)
  have t1 : b.s.heap.get? T' = none := by
    rcases z with z | z
    · rw [z]; exact n2
    · exact not_yet (ex := []) (Hb := H1) I.base (by simp) z
  have t2 : H1 T' = none := by
    rcases z with z | z
    · rw [z]; exact n4
    · exact no_track I.hok z
  refine ⟨e, T', C, H1, rfl, hE, I.os, I.bare, kp_un (H := b.H) (h := b.s.heap) I.base k (fun c o q hb => ?_) (fun c hb => ?_), kp_hok I.hok k (fun c hb => I.stkFree c hb) (fun c hb => ?_), x', n1, t1, n3, t2⟩
  · rw [show frs (envOfC qual scope b.s.heap.objs.size b.f b.cdv :: b.outer) = b.s.heap.objs.size :: frs b.outer from rfl] at hb
    rcases List.mem_cons.mp hb with y | y
    · exact absurd (Heap.lt_size q) (by rw [y]; exact Nat.lt_irrefl _)
    · exact y
  · rcases List.mem_cons.mp hb with y | y
    · rw [y]; exact n1
    · rw [List.mem_singleton.mp y]; exact n2
  · rcases List.mem_cons.mp hb with y | y
    · rw [y]; exact n3
    · rw [List.mem_singleton.mp y]; exact n4
end
end L2
namespace L2
open PySem PySem.Spec PyProof.Rows
noncomputable abbrev cxEl (X : Cx) (N' : List Str) (scope : Scope) (cl : List (Str × Addr)) (C : Addr) (s₀ : Shared) (H₀ : Hp) (ex : List Addr) (p : List (Addr × Obj)) (W : Value → Shared → Prop) : Cx := ((cxComp X N' scope cl C s₀ H₀ ex).pinsOn p).wish W
noncomputable def CompLX (X : Cx) (N' : List Str) (scope : Scope) (tg : Expr) (ifs : List Expr) (elt : Expr) (J : It) (D : Addr) (E : XK) (after : Hp → Prop) (σ : St) (H : Hp) : Prop :=
  ∃ W : Nat → Nat → St → Hp → Prop, (∃ m, W 0 m σ H) ∧ ∀ i m σ' H', W i m σ' H' →
    (J.stop i H' ∧ after H') ∨ (J.go i H' ∧ ∃ N : St → Hp → Prop, (∀ σ' H', N σ' H' → ∃ m', m' < m ∧ W (i + 1) m' σ' H') ∧ ∀ x H2, J.yld i H' x H2 → CEg X N' scope tg x σ' H2 fun σ2 H3 => CEi X N' scope ifs σ2 H3 fun b H4 =>
      if b = true then ∀ cl C s₀ H₀ ex p W', Passes (XF X.prog X.w) (cxEl X N' scope cl C s₀ H₀ ex p W') E → Ev (cxEl X N' scope cl C s₀ H₀ ex p W') elt σ2 H4 fun v H5 => ∃ ys, H5 D = some (.lst ys) ∧ ys.length < sizeLine ∧ N σ2 (upd H5 D (.lst (ys ++ [v]))) else N σ2 H4)
section
variable {X : Cx} {elt tg iter : Expr} {ifs : List Expr} {scope : Scope} {pos : Pos} {N' : List Str} {n : Nat} {wi : TI} {σ : St} {H : Hp} {Q : VK} {E : XK} {J : It}
theorem comp_coreX {pins : List (Addr × Obj)} {H2 : Hp} {s2 : Shared} {EE : Value → Shared → Prop} {RR : Value → Addr → Result → Shared → Prop} {it : Addr} {fp : List Addr} {tn : Nat → Heap → Prop}
    (hc : X.calm = true) (hex : X.ex = []) (hst : X.stack = X.env :: X.outer) (hfr : X.env.frame = some X.env.locals) (ck : CompOk X.env.scope scope X.N N') (hl : N'.length = X.N.length + n)
    (I2 : Inv X pins σ H2 s2) (T : Turn X.prog X.w X.K tg J fp it tn) (st2 : tn 0 s2.heap) (f2 : ∀ b ∈ fp, FpOk X pins H2 b)
    (q : ∀ D, H2 D = none → CompLX X N' scope tg ifs elt J D E (fun H' => Q (.ref D) H') (σ ++ List.replicate n none) (upd H2 D (.lst [])))
    (hRR : ∀ D C H' s' m, Inv X pins σ H' s' → s'.heap.Ns C m → H' C = none → C ≠ X.env.locals → X.s₀.heap.objs.size ≤ C → (∀ x c, X.env.cells.lookup x = some c → c ≠ C) → (∀ p ∈ X.pn ++ pins, p.1 ≠ C) → Q (.ref D) H' → RR (.ref D) C (.ok .next) s')
    (hRE : ∀ D C H' s' m ea Tr Cv fl, Inv X pins σ H' s' → s'.heap.Ns C m → H' C = none → C ≠ X.env.locals → X.s₀.heap.objs.size ≤ C → (∀ x c, X.env.cells.lookup x = some c → c ≠ C) → (∀ p ∈ X.pn ++ pins, p.1 ≠ C) → Xo s'.heap ea Tr Cv fl → Apt X pins ea → Apt X pins Tr → H' ea = none → H' Tr = none → E Cv none H' → RR (.ref D) C (.error (.ref ea)) s') :
    wpAny (model X.prog X.w) X.A (newList []) (fun acc s₃ => wpAny (model X.prog X.w) X.A (newFunctionEnv scope X.env.globals (closeL scope.names X.env.cells []) [] X.env.qual none .none (some X.env)) (fun cenv s₄ =>
      codeAny (model X.prog X.w) X.A (.compStart (.ListComp elt [⟨tg, iter, ifs, 0⟩] scope pos) 0 (.ref it) acc { cenv with scope := relabel scope X.env }) (RR acc cenv.locals) s₄) EE s₃) EE s2 := by
  refine wpAny_newObj_type (newEnv_cells (fun h₁ hns₁ old₁ hcs₁ => ?_)) (by show (0 : Nat) ≤ sizeLine; exact Nat.zero_le _)
  have hD : H2 s2.heap.objs.size = none := I2.hok.fresh (Nat.le_refl _)
  have q0 := q s2.heap.objs.size hD
  have fl : ∀ b ∈ fp, b < s2.heap.objs.size := fun b hb => by
    obtain ⟨o, e, _⟩ := T.obj 0 _ st2 b hb
    exact Heap.lt_size e
  have I3 : Inv X pins σ (upd H2 s2.heap.objs.size (.lst [])) { s2 with heap := s2.heap.push { cls := .type "list", dict := none, data := .seq ([] : List Value).toArray } } :=
    I2.laid (t' := s2.toks) (fun b o e => Heap.get?_push_of_some _ e) (Nat.le_refl _) (show ObjOk X.prog X.w _ _ _ (.lst []) from ⟨Nat.zero_le _, [], 0, .nil, Heap.get?_push_size _ rfl⟩)
  generalize hs3 : ({ s2 with heap := s2.heap.push { cls := .type "list", dict := none, data := .seq ([] : List Value).toArray } } : Shared) = s3 at I3 hns₁ old₁ hcs₁ ⊢
  have hz3 : s3.heap.objs.size = s2.heap.objs.size + 1 := by rw [← hs3]; exact Heap.size_push ..
  have old2 : ∀ b o, s2.heap.get? b = some o → s3.heap.get? b = some o := fun b o e => by rw [← hs3]; exact Heap.get?_push_of_some _ e
  have old : ∀ b o, s3.heap.get? b = some o → h₁.get? b = some o := old₁
  have f3 : ∀ b ∈ fp, FpOk X pins (upd H2 s2.heap.objs.size (.lst [])) b ∧ b < s3.heap.objs.size := fun b hb => by
    refine ⟨⟨?_, (f2 b hb).2⟩, by rw [hz3]; exact Nat.lt_succ_of_lt (fl b hb)⟩
    rw [upd_ne (Nat.ne_of_lt (fl b hb))]
    exact (f2 b hb).1
  have I4 := fun (t' : Nat) => inv_comp (N' := N') (scope := scope) (n := n) (fp := fp) (h₁ := h₁) (t' := t') I3 ck hl hns₁ old hcs₁ f3
  generalize hX : cxComp X N' scope (cellsFrom (s3.heap.objs.size + 1) scope.names (closeL scope.names X.env.cells [])) s3.heap.objs.size s3 (upd H2 s2.heap.objs.size (.lst [])) fp = X' at I4
  have eP : X'.prog = X.prog := by rw [← hX]; rfl
  have ew : X'.w = X.w := by rw [← hX]; rfl
  have eK : X'.K = X.K := by rw [← hX]; rfl
  have eA : X'.A = X.A := by rw [← hX]; rfl
  have eE : X'.env = compEnvC scope (cellsFrom (s3.heap.objs.size + 1) scope.names (closeL scope.names X.env.cells [])) s3.heap.objs.size X.env := by rw [← hX]; rfl
  have ec : X'.calm = true := by rw [← hX]; exact hc
  have ex' : X'.xe = fun _ _ => False := by rw [← hX]; rfl
  have stat : ∀ {H' : Hp}, (∀ b ∈ fp, H' b = none) → ∀ b ∈ fp, FpOk X' [] H' b := fun hn b hb => by
    refine ⟨hn b hb, ?_, ?_, ?_, ?_, ?_⟩
    · rw [eE]; exact Nat.ne_of_lt (f3 b hb).2
    · rw [← hX]
      intro hf
      rcases List.mem_cons.mp (I3.stkSub b hf) with z | z
      · exact (f3 b hb).1.2.1 z
      · exact (f3 b hb).1.2.2.1 z
    · rw [← hX]; exact .inl hb
    · rw [eE]
      intro x c e
      rcases cells_split e with z | z
      · exact fun k => absurd (f3 b hb).2 (Nat.not_lt.mpr (by rw [← k]; exact Nat.le_of_succ_le z.2))
      · exact (f3 b hb).1.2.2.2.2.1 x c (closeL_sub _ _ _ (fun _ _ z => by simp at z) x c (PySem.mem_of_lookup z))
    · rw [← hX]; intro p hp; exact absurd hp (by simp [cxComp])
  have fin : ∀ {σ' : St} {H' : Hp} {s' : Shared}, Inv X' [] σ' H' s' → Q (.ref s2.heap.objs.size) H' → RR (.ref s2.heap.objs.size) s3.heap.objs.size (.ok .next) s' := fun {σ' H' s'} I' q' => by
    obtain ⟨m', hn', _⟩ := id I'.loc
    rw [eE] at hn'
    have hos : s'.os = s3.os := by have := I'.os; rw [← hX] at this; exact this
    have hun : Un (frs X.stack) fp (upd H2 s2.heap.objs.size (.lst [])) H' s3.heap s'.heap := by have := I'.base; rw [← hX] at this; exact this
    have hok : HOk X.prog X.w H' s'.heap := by have := I'.hok; rw [eP, ew] at this; exact this
    have IX : Inv X pins σ H' s' := I3.call' (ch := fp) hos hun hok I'.bare fun b hb => ⟨(f3 b hb).1.2.2.2.1, (f3 b hb).1.2.1, (f3 b hb).1.2.2.2.2.1, (f3 b hb).1.2.2.2.2.2⟩
    have hfr := I'.free
    rw [eE] at hfr
    refine hRR _ _ H' s' m' IX hn' hfr (Nat.ne_of_gt I3.lt) I3.sz (fun x c e z => ?_) (fun p hp z => ?_) q'
    · obtain ⟨v, o, ho, _⟩ := I3.cell x c e
      exact absurd (Heap.lt_size ho) (by rw [z]; exact Nat.lt_irrefl _)
    · exact absurd (Heap.lt_size (I3.pin p hp).1) (by rw [z]; exact Nat.lt_irrefl _)
  obtain ⟨W, ⟨m0, w0⟩, turn⟩ := q0
  have bad : ∀ (p : List (Addr × Obj)), (∀ b ∈ fp, ∃ o, (b, o) ∈ p) → ∀ e s', (∃ pins σ H s, Inv (X'.pinsOn p) pins σ H s ∧ XF X.prog X.w X.stack H s E e s') → notedBy (model X.prog X.w) X.A X'.env (fun e s' => RR (.ref s2.heap.objs.size) s3.heap.objs.size (.error e) s') e s' := by
    rintro p hp e s' ⟨pp, σ5, H5, s5, I5, ea, Tr, Cv, H', rfl, hE, os, bare, un, hok, x, n1, n2, n3, n4⟩
    have stk : X'.stack = X.stack := by rw [← hX]; rfl
    have I6 : Inv (X'.pinsOn p) pp σ5 H' s' := I5.call' (ch := []) os (by rw [show (X'.pinsOn p).stack = X.stack from stk]; exact un) (by rw [show (X'.pinsOn p).prog = X.prog from eP, show (X'.pinsOn p).w = X.w from ew]; exact hok) bare (fun b z => absurd z (by simp))
    have J6 : Inv X' p σ5 H' s' := I6.pinsOut
    have nfp : ∀ b, s5.heap.get? b = none → b ∉ fp := fun b hb hm => by
      obtain ⟨o, ho⟩ := hp b hm
      have := (I5.pin (b, o) (List.mem_append_left _ (List.mem_append_right _ ho))).1
      rw [hb] at this; cases this
    have un5 : Un (frs X.stack) fp (upd H2 s2.heap.objs.size (.lst [])) H5 s3.heap s5.heap := by have := I5.base; rw [← hX] at this; exact this
    have z1 : s3.heap.get? ea = none := not_yet un5 (nfp _ n1) n1
    have z2 : s3.heap.get? Tr = none := not_yet un5 (nfp _ n2) n2
    obtain ⟨m', hn', _⟩ := id J6.loc
    obtain ⟨m5, hn5, _⟩ := id I5.loc
    rw [eE] at hn'
    have hn5 : s5.heap.Ns s3.heap.objs.size m5 := by rw [show (X'.pinsOn p).env = _ from eE] at hn5; exact hn5
    have hos : s'.os = s3.os := by have := J6.os; rw [← hX] at this; exact this
    have hun : Un (frs X.stack) fp (upd H2 s2.heap.objs.size (.lst [])) H' s3.heap s'.heap := by have := J6.base; rw [← hX] at this; exact this
    have IX : Inv X pins σ H' s' := I3.call' (ch := fp) hos hun hok bare fun b hb => ⟨(f3 b hb).1.2.2.2.1, (f3 b hb).1.2.1, (f3 b hb).1.2.2.2.2.1, (f3 b hb).1.2.2.2.2.2⟩
    have hfrC := J6.free
    rw [eE] at hfrC
    have a1 := apt_of I3 hex z1
    have a2 := apt_of I3 hex z2
    have fr : X.A.frames = some (X.env :: X.outer) := by rw [← hst]; exact IX.ok.frames
    have stk2 : s'.heap.FunFrames X.base (X.env :: X.outer) := by rw [← hst]; exact IX.stack
    have eN : noteFrame (.ref ea) X'.env = noteFrame (.ref ea) X.env := by rw [eE]; rfl
    show wpAny _ _ (noteFrame (.ref ea) X'.env) _ _ s'
    rw [eN]
    refine note_mark fr stk2 hfr x fun h2 T' z x2 k => ?_
    have k' : Kp (frs X.stack) [ea, Tr] s'.heap h2 := by rw [hst]; exact k
    have aps : ∀ b ∈ [ea, Tr], Apt X pins b ∧ H' b = none := fun b hb => by
      rcases List.mem_cons.mp hb with y | y
      · rw [y]; exact ⟨a1, n3⟩
      · rw [List.mem_singleton.mp y]; exact ⟨a2, n4⟩
    have J2 : Inv X pins σ H' { s' with heap := h2 } := IX.kp (t' := s'.toks) hex k' (fun b hb => (aps b hb).1) (fun b hb => (aps b hb).2)
    obtain ⟨o5, _, _, ho5, _⟩ := id hn5
    obtain ⟨oC, es, ep, hoC, rC⟩ := hn'
    have nC : s3.heap.objs.size ∉ [ea, Tr] := fun hb => by
      rcases List.mem_cons.mp hb with y | y
      · rw [y, n1] at ho5; cases ho5
      · rw [List.mem_singleton.mp y, n2] at ho5; cases ho5
    have nF : s3.heap.objs.size ∉ frs X.stack := fun hb => by
      obtain ⟨_, o, ho, _⟩ := I3.stack.mem hb
      exact absurd (Heap.lt_size ho) (Nat.lt_irrefl _)
    have hnC : h2.Ns s3.heap.objs.size m' := ⟨oC, es, ep, k'.keep _ _ hoC nF nC, rC⟩
    refine hRE _ _ H' { s' with heap := h2 } m' ea T' Cv _ J2 hnC hfrC (Nat.ne_of_gt I3.lt) I3.sz (fun x c e z => ?_) (fun p hp z => ?_) x2 a1 (apt_of IX hex z) n3 (no_track hok z) hE
    · obtain ⟨v, o, ho, _⟩ := I3.cell x c e
      exact absurd (Heap.lt_size ho) (by rw [z]; exact Nat.lt_irrefl _)
    · exact absurd (Heap.lt_size (I3.pin p hp).1) (by rw [z]; exact Nat.lt_irrefl _)
  have T' : Turn X'.prog X'.w X'.K tg J fp it tn := by rw [eP, ew, eK]; exact T
  have loop : ∀ t', codeAny (model X.prog X.w) X.A (.compLoop (.ListComp elt [⟨tg, iter, ifs, 0⟩] scope pos) 0 (.ref it) (.ref s2.heap.objs.size) X'.env) (RR (.ref s2.heap.objs.size) s3.heap.objs.size) { s3 with heap := h₁, toks := t' } := fun t' => by
    refine codeAny_compLoop_any clauseL1 (fun k s' => ∃ i σ' H', Inv X' [] σ' H' s' ∧ tn i s'.heap ∧ (∀ b ∈ fp, H' b = none) ∧ W i k σ' H') ?_ m0
      ⟨0, _, _, I4 t', T.keep 0 _ _ st2 fun b _ o e => old b o (old2 b o e), fun b hb => (f3 b hb).1.1, w0⟩
    rintro k s4 ⟨i, σ4, H4, J4, st4, fr4, w4⟩
    rcases turn i k σ4 H4 w4 with ⟨stop, qn⟩ | ⟨go, N, hN, step⟩
    · have d1 := T.done X' eP ew eK ec i [] s4 σ4 H4 (fun _ _ => False) J4 (stat fr4) st4 stop
      rw [eA] at d1
      refine thnF d1 fun r s5 ⟨hr, I5⟩ => ?_
      subst hr
      exact fin I5 qn
    · have d1 := T.item X' eP ew eK ec i [] s4 σ4 H4 (fun _ _ => False) J4 (stat fr4) st4 go
      rw [eA] at d1
      refine thnF d1 fun r s5 ⟨u, hr, h5⟩ => ?_
      subst hr
      refine thnF h5 fun _ s6 ⟨x, H6, I6, r6, y6, st6, fr6⟩ => ?_
      have I6' := I6.pinned (stat fr6) (T.obj _ _ st6)
      have pin6 : ∀ b ∈ fp, ∃ o, (b, o) ∈ [] ++ pinsAt fp s6.heap := fun b hb => by
        obtain ⟨o, e, _⟩ := T.obj _ _ st6 b hb
        exact ⟨o, List.mem_append_right _ (mem_pinsAt hb e)⟩
      have again : ∀ {σ7 : St} {H7 : Hp} {s7 : Shared}, Inv X' ([] ++ pinsAt fp s6.heap) σ7 H7 s7 → N σ7 H7 → ∃ m, m < k ∧ ∃ i σ' H', Inv X' [] σ' H' s7 ∧ tn i s7.heap ∧ (∀ b ∈ fp, H' b = none) ∧ W i m σ' H' := fun {σ7 H7 s7} I7 n7 => by
        obtain ⟨m', hm, w7⟩ := hN σ7 H7 n7
        refine ⟨m', hm, i + 1, σ7, H7, I7.unpinned, T.keep _ _ _ st6 fun b hb o e => (I7.pin (b, o) (List.mem_append_right _ (List.mem_append_right _ (mem_pinsAt hb e)))).1, fun b hb => ?_, w7⟩
        obtain ⟨o, e, d⟩ := T.obj _ _ st6 b hb
        exact (I7.pin (b, o) (List.mem_append_right _ (List.mem_append_right _ (mem_pinsAt hb e)))).2.1
      have st1 : Eg X' tg x σ4 H6 fun σ2 H3 => Ei X' ifs σ2 H3 fun b H4 => if b = true then ∀ p W', Passes (XF X.prog X.w) ((X'.pinsOn p).wish W') E → Ev ((X'.pinsOn p).wish W') elt σ2 H4 fun v H5 => ∃ ys, H5 s2.heap.objs.size = some (.lst ys) ∧ ys.length < sizeLine ∧ N σ2 (upd H5 s2.heap.objs.size (.lst (ys ++ [v]))) else N σ2 H4 := by
        rw [← hX]
        refine (step x H6 y6 _ _ _ _ _).mono fun σ2 H3 h3 => (h3 _ _ _ _ _).mono fun b H4 h4 => ?_
        cases b with
        | true =>
          rw [if_pos rfl] at h4 ⊢
          exact fun p W' hp => h4 _ _ _ _ _ p W' hp
        | false =>
          rw [if_neg Bool.false_ne_true] at h4 ⊢
          exact h4
      have a1 := st1.run _ s6 u I6' r6
      rw [ex', eP, ew, eA] at a1
      refine thnF a1 fun _ s7 ⟨σ7, H7, I7, q7⟩ => ?_
      have a2 := q7.run _ s7 I7
      rw [ex', eP, ew, eA] at a2
      refine thnF a2 fun ok s8 ⟨H8, I8, q8⟩ => ?_
      cases ok with
      | false =>
        rw [if_neg Bool.false_ne_true] at q8 ⊢
        exact again I8 q8
      | true =>
        rw [if_pos rfl] at q8 ⊢
        have stk : X'.stack = X.stack := by rw [← hX]; rfl
        have q9 := q8 ([] ++ pinsAt fp s6.heap) (fun e s' => ∃ pins σ H s, Inv (X'.pinsOn ([] ++ pinsAt fp s6.heap)) pins σ H s ∧ XF X.prog X.w X.stack H s E e s') (fun pp σ5 H5 s5 e s' J5 hx => ⟨pp, σ5, H5, s5, J5.unwish, by
          have hx' : XF X.prog X.w X'.stack H5 s5 E e s' := hx
          rw [stk] at hx'; exact hx'⟩)
        have I8' : Inv ((X'.pinsOn ([] ++ pinsAt fp s6.heap)).wish (fun e s' => ∃ pins σ H s, Inv (X'.pinsOn ([] ++ pinsAt fp s6.heap)) pins σ H s ∧ XF X.prog X.w X.stack H s E e s')) [] σ7 H8 s8 := (I8.pinsIn (pins := [])).wish _
        have a3 : wpAny (model X'.prog X'.w) X'.A (eval elt X'.env) _ _ s8 := q9.run [] s8 I8'
        rw [eP, ew, eA] at a3
        show wpAny _ _ (emit elt (.ref s2.heap.objs.size) X'.env) _ _ s8
        unfold emit
        refine wpAny_bind (wpAny_mono a3 (fun v s9 ⟨vv, H9, I9, r9, ys, hy, hz, q9⟩ => ?_) fun e s' hx => bad _ pin6 e s' hx)
        have I9' : Inv X' ([] ++ pinsAt fp s6.heap) σ7 H9 s9 := (I9.unwish).pinsOut
        have a4 := mt_append (X := X') _ s9 σ7 H9 (.ref s2.heap.objs.size) [vv] (.ref s2.heap.objs.size) [v] (fun _ H' => N σ7 H') I9' rfl (.cons r9 .nil) ⟨_, ys, vv, rfl, rfl, hy, hz, q9⟩
        rw [ex', eP, ew, eA] at a4
        exact wpAny_bind (thnF a4 fun _ s10 ⟨_, H10, I10, _, q10⟩ => wpAny_pure (again I10 q10))
  have l2 := loop s3.toks
  rw [eE] at l2
  refine codeAny_compStart_any clauseL1 l2 (T.self _ 0 _ _ _ ?_ l2)
  exact T.keep 0 _ _ st2 fun b _ o e => old b o (old2 b o e)
theorem ev_compX (sc : Scope) (N N' : List Str) (n : Nat) (hL : Lnd X E) (hi : PI X tg iter wi)
    (h : wi σ H fun J H1 => ∀ D, H1 D = none → CompLX X N' scope tg ifs elt J D E (fun H' => Q (.ref D) H') (σ ++ List.replicate n none) (upd H1 D (.lst [])))
    (hc : X.calm = true := by rfl) (hex : X.ex = [] := by rfl) (hst : X.stack = X.env :: X.outer := by rfl) (hfr : X.env.frame = some X.env.locals := by rfl)
    (hsc : X.env.scope = sc := by rfl) (hN : X.N = N := by rfl) (hk : compOk sc scope N N' = true := by decide +kernel) (hl : N'.length = N.length + n := by rfl)
    (hs : ∀ x, foldedSetIterable iter X.env x = pure x := by intro _; rfl) : Ev X (.ListComp elt [⟨tg, iter, ifs, 0⟩] scope pos) σ H Q := by
  refine ⟨fun pins s I => ?_⟩
  subst hsc hN
  have ck := CompOk.of hk
  rw [eval_ListComp]
  refine wpAny_comprehension_free (use := none) rfl hs (closure_eq fun x hx hf => I.ok.has x.1 (ck.free x hx hf)) ck.kind ck.names (thn (hi pins s σ H _ I h) fun v s1 h1 => thn h1 fun itv s2 h2 => ?_)
  obtain ⟨it, fp, tn, J, H2, e, I2, T, st2, f2, q⟩ := h2
  subst e
  refine comp_coreX (RR := fun acc C => compPost (model X.prog X.w) X.A X.xe none (EP X pins σ Q) acc C) hc hex hst hfr ck hl I2 T st2 f2 q ?_ ?_
  · intro D C H' s' m IX hn hC c1 c2 c3 c4 qq
    exact ⟨m, hn, fun h' hs' => ⟨.ref D, H', IX.turned (t' := s'.toks) (fun b o hb e => hs'.extBut b o hb e) hC (Ne.symm (Ne.symm c1)) (.inr c2) c3 c4, rfl, qq⟩⟩
  · intro D C H' s' m ea Tr Cv fl IX hn hC c1 c2 c3 c4 x a1 a2 n1 n2 hE
    refine ⟨m, hn, fun h' hs' cenv hcv => ?_⟩
    have J : Inv X pins σ H' { s' with heap := h' } := IX.turned (t' := s'.toks) (fun b o hb e => hs'.extBut b o hb e) hC (Ne.symm (Ne.symm c1)) (.inr c2) c3 c4
    obtain ⟨⟨oe, vs, he, hcl, hdi, hd, h1, h2⟩, hne, ⟨oT, ts, hT, dT, h3⟩⟩ := x
    obtain ⟨oC, es, ep, hoC, hcC⟩ := id hn
    have nC : ∀ b o vs, s'.heap.get? b = some o → o.data = .fields vs → b ≠ C := fun b o vs q d z => by
      rw [z, hoC] at q
      cases q
      rw [hcC.1] at d
      cases d
    have x' : Xo h' ea Tr Cv fl := ⟨⟨oe, vs, hs'.extBut _ _ (nC _ _ _ he hd) he, hcl, hdi, hd, h1, h2⟩, hne, ⟨oT, ts, hs'.extBut _ _ (nC _ _ _ hT dT) hT, dT, h3⟩⟩
    obtain ⟨⟨oe, vs, he, hcl, hdi, hd, h1, h2⟩, hne, ⟨oT, ts, hT, dT, h3⟩⟩ := id x'
    unfold PySem.passOn
    refine wpAny_bind (wpAny_field he hd h1 ?_)
    rw [if_neg (show ¬ (Value.ref Tr == Value.none) = true from by simp)]
    refine wpAny_bind (land_to (s := { s' with heap := h' }) x' fun h2 x2 k => wpAny_throw ?_)
    refine hL pins σ H' { s' with heap := h2 } ea Tr Cv _ (J.kp (t' := s'.toks) (bad := [Tr]) hex ⟨fun b o q _ nb => k b o (fun z => nb (by simp [z])) q, fun b o q hb => ⟨o.slots, k b o (fun z => ?_) q⟩⟩ (fun b hb => by rw [List.mem_singleton.mp hb]; exact a2) fun b hb => by rw [List.mem_singleton.mp hb]; exact n2) x2 a1 a2 n1 n2 hE
    rw [z] at hb
    rcases List.mem_cons.mp (J.stkSub _ hb) with y | y
    · exact a2.l y
    · exact a2.f y
theorem comp_listX {a D : Addr} {xs : List V} {after : Hp → Prop} (Pv : Nat → St → Hp → Prop) (h0 : Pv 0 σ H) (hl : ∀ i σ' H', i ≤ xs.length → Pv i σ' H' → SqL X.K H' a xs)
    (hs : ∀ i x σ' H', xs[i]? = some x → Pv i σ' H' → CEg X N' scope tg x σ' H' fun σ2 H3 => CEi X N' scope ifs σ2 H3 fun b H4 =>
      if b = true then ∀ cl C s₀ H₀ ex p W', Passes (XF X.prog X.w) (cxEl X N' scope cl C s₀ H₀ ex p W') E → Ev (cxEl X N' scope cl C s₀ H₀ ex p W') elt σ2 H4 fun v H5 => ∃ ys, H5 D = some (.lst ys) ∧ ys.length < sizeLine ∧ Pv (i + 1) σ2 (upd H5 D (.lst (ys ++ [v]))) else Pv (i + 1) σ2 H4)
    (hd : ∀ σ' H', Pv xs.length σ' H' → after H') : CompLX X N' scope tg ifs elt (Itl X.K a) D E after σ H := by
  refine ⟨fun i m σ' H' => m = xs.length - i ∧ i ≤ xs.length ∧ Pv i σ' H', ⟨_, rfl, Nat.zero_le _, h0⟩, ?_⟩
  rintro i m σ' H' ⟨rfl, hi, p⟩
  have q := hl i σ' H' hi p
  by_cases hlt : i < xs.length
  · refine .inr ⟨⟨xs, xs[i], q, by simp [hlt]⟩, Pv (i + 1), fun σ' H' p' => ⟨xs.length - (i + 1), by omega, rfl, hlt, p'⟩, fun x H2 y => ?_⟩
    obtain ⟨e, y⟩ := y
    subst e
    exact hs i x σ' _ (y xs q) p
  · have e : i = xs.length := by omega
    subst e
    exact .inl ⟨⟨xs, q, Nat.le_refl _⟩, hd σ' H' p⟩
end
end L2
namespace T8
open PySem L2 Nt Sort2
noncomputable def xNames : List Str := ["NoNet", "Broken", "NoPlane", "NoWalker", "NoDouble", "TooMany", "NoTie", "NoCorner", "NoFace", "Taken", "Bridge", "Loop", "NoText", "NoRow"]
structure Cl (K : PySem.W.Frag) (mg : Str → Option Value) (c : Str → Addr) : Prop where
  net : mg "NetError" = some (.ref (c "NetError"))
  xnet : XC K (c "NetError")
  at' : ∀ x ∈ xNames, mg x = some (.ref (c x)) ∧ XC K (c x) ∧ mroHas K (c x) (c "NetError") = true ∧ xLook K (c x) = true ∧ PySem.W.kitOne K (.ref (c x)) (.type "ValueError") = some true
  kit : ∀ x ∈ xNames, ∀ y ∈ xNames, PySem.W.kitOne K (.ref (c x)) (.ref (c y)) = some (decide (x = y))
noncomputable def cAd (K : PySem.W.Frag) (x : Str) : Addr := match PySem.W.nsIn K mainGlobals x with
  | some (some (.ref a)) => a
  | _ => 0
noncomputable def clB (K : PySem.W.Frag) : Bool := (PySem.W.nsIn K mainGlobals "NetError" == some (some (.ref (cAd K "NetError")))) && PySem.W.excIn K (cAd K "NetError") vmro "ValueError.__new__" &&
  xNames.all fun x => (PySem.W.nsIn K mainGlobals x == some (some (.ref (cAd K x)))) && PySem.W.excIn K (cAd K x) vmro "ValueError.__new__" && mroHas K (cAd K x) (cAd K "NetError") && xLook K (cAd K x) && (PySem.W.kitOne K (.ref (cAd K x)) (.type "ValueError") == some true) &&
    xNames.all fun y => PySem.W.kitOne K (.ref (cAd K x)) (.ref (cAd K y)) == some (decide (x = y))
theorem cl_of {K : PySem.W.Frag} {h : Heap} {mg : Str → Option Value} (X : K.In h) (G : h.Ns mainGlobals mg) (q : clB K = true) : Cl K mg (cAd K) := by
  unfold clB at q
  simp only [Bool.and_eq_true, List.all_eq_true, beq_iff_eq] at q
  obtain ⟨⟨q1, q2⟩, q3⟩ := q
  exact ⟨PySem.W.mg_of X G q1, q2, fun x hx => by obtain ⟨⟨⟨⟨⟨a1, a2⟩, a3⟩, a4⟩, a5⟩, _⟩ := q3 x hx; exact ⟨PySem.W.mg_of X G a1, a2, a3, a4, a5⟩, fun x hx y hy => (q3 x hx).2 y hy⟩
noncomputable def spWhich (c : Str → Addr) : Addr → Obj → Sp := fun ea oe vs H Q _ => ∃ x ∈ xNames, vs = [.ref ea] ∧ oe.cls = .ref (c x) ∧ ∀ H', Same H H' → Q (.str x) H'
structure Pk (x : Str) (H : Hp) (L : Addr) (ts : List Addr) (k : Nat) : Prop where
  lst : H L = some (.lst (ts.map V.ref))
  len : ts.length = k
  at' : ∀ (i : Nat) t y, ts[i]? = some t → xNames[i]? = some y → H t = some (.tup [.str y, .bl (decide (x = y))])
section
variable {X : Cx} {σ : St} {H : Hp} {Q : VK} {c : Str → Addr} {ea : Addr} {oe : Obj} {x y1 y2 : Str} {k : Nat} {p0 p1 p2 p3 p4 p5 p6 p7 p8 p9 p10 p11 p12 p13 p14 : Pos} {j1 j2 x1 x2 : Nat}
theorem ev_is (hi : X.mg "isinstance" = none) (cl : Cl X.K X.mg c) (hx : x ∈ xNames) (hy : y1 ∈ xNames) (hE : H ea = some (XO oe)) (ix : IsX oe (.ref (c x))) (q : Q (.bl (decide (x = y1))) H) (hv : σ[0]? = some (some (.ref ea))) (hN : X.N[0]? = some ("_law_e" : Str)) (hs : Vis X.env.scope "_law_e") (hg1 : Gl X "isinstance") (hg2 : Gl X y1) (hd2 : (y1 == ("__debug__" : Str)) = false) :
    Ev X (.Call (.Name "isinstance" p2) [.Name "_law_e" p3, .Name y1 p4] [] p5) σ H Q := by
  refine ev_blt call_isiX hi PyProof.Rows.boot_isinstance (ea_cons (ev_v 0 (ea_cons (ev_glob (cl.at' y1 hy).1 (v := .ref (c y1)) rfl (ea_nil ⟨ea, c x, oe, .ref (c y1), .ref (c y1), _, rfl, fun u r => r, hE, ix, (cl.at' x hx).2.2.2.1, cl.kit x hx y1 hy, q⟩) hg2 hd2)) hv hN hs)) hg1
theorem ev_two (hi : X.mg "isinstance" = none) (cl : Cl X.K X.mg c) (hx : x ∈ xNames) (h1 : xNames[k]? = some y1) (h2 : xNames[k + 1]? = some y2) (hE : H ea = some (XO oe)) (ix : IsX oe (.ref (c x)))
    (q : ∀ L t1 t2 H', Same H H' → H' L = some (.lst [.ref t1, .ref t2]) → H' t1 = some (.tup [.str y1, .bl (decide (x = y1))]) → H' t2 = some (.tup [.str y2, .bl (decide (x = y2))]) → Q (.ref L) H') (hv : σ[0]? = some (some (.ref ea))) (hN : X.N[0]? = some ("_law_e" : Str)) (hs : Vis X.env.scope "_law_e")
    (hg1 : Gl X "isinstance") (hg2 : Gl X y1) (hd2 : (y1 == ("__debug__" : Str)) = false) (hg3 : Gl X y2) (hd3 : (y2 == ("__debug__" : Str)) = false) :
    Ev X (.List [.Tuple [.Constant (.str y1) j1 p1, .Call (.Name "isinstance" p2) [.Name "_law_e" p3, .Name y1 p4] [] p5] x1 p6, .Tuple [.Constant (.str y2) j2 p7, .Call (.Name "isinstance" p8) [.Name "_law_e" p9, .Name y2 p10] [] p11] x2 p12] p13) σ H Q := by
  have m1 := List.mem_of_getElem? h1
  have m2 := List.mem_of_getElem? h2
  refine ev_lst (ea_cons (ev_tup (ea_cons (ev_str (ea_cons (ev_is hi cl hx m1 hE ix (ea_nil ⟨(by show 2 ≤ sizeLine; decide), fun t1 ht1 => ?_⟩) hv hN hs hg1 hg2 hd2))))))
  have s1 := same_new ht1 (.tup [.str y1, .bl (decide (x = y1))])
  refine ea_cons (ev_tup (ea_cons (ev_str (ea_cons (ev_is hi cl hx m2 (s1 _ _ hE) ix (ea_nil ⟨(by show 2 ≤ sizeLine; decide), fun t2 ht2 => ?_⟩) hv hN hs hg1 hg3 hd3)))))
  have s2 := same_new ht2 (.tup [.str y2, .bl (decide (x = y2))])
  refine ea_nil ⟨(by show 2 ≤ sizeLine; decide), fun L hL => ?_⟩
  have s3 := same_new hL (.lst [.ref t1, .ref t2])
  exact q L t1 t2 _ (s1.trans (s2.trans s3)) upd_same (s3 _ _ (s2 _ _ upd_same)) (s3 _ _ upd_same)
theorem ev_kinds {L0 : Addr} {ts : List Addr} (hi : X.mg "isinstance" = none) (cl : Cl X.K X.mg c) (hx : x ∈ xNames) (h1 : xNames[k]? = some y1) (h2 : xNames[k + 1]? = some y2) (hk : k ≤ 100) (pk : Pk x H L0 ts k) (hE : H ea = some (XO oe)) (ix : IsX oe (.ref (c x)))
    (q : ∀ L ts' H', Same H H' → Pk x H' L ts' (k + 2) → Q (.ref L) H') (hv : σ[0]? = some (some (.ref ea)) := by rfl) (hN : X.N[0]? = some ("_law_e" : Str) := by rfl) (hs : Vis X.env.scope "_law_e" := by first | exact Or.inl rfl | exact Or.inr (Or.inl rfl))
    (hv1 : σ[1]? = some (some (.ref L0)) := by rfl) (hN1 : X.N[1]? = some ("_law_kinds" : Str) := by rfl) (hs1 : Vis X.env.scope "_law_kinds" := by first | exact Or.inl rfl | exact Or.inr (Or.inl rfl))
    (hg1 : Gl X "isinstance" := by rfl) (hg2 : Gl X y1 := by rfl) (hd2 : (y1 == ("__debug__" : Str)) = false := by decide) (hg3 : Gl X y2 := by rfl) (hd3 : (y2 == ("__debug__" : Str)) = false := by decide) :
    Ev X (.BinOp (.Name "_law_kinds" p0) .Add (.List [.Tuple [.Constant (.str y1) j1 p1, .Call (.Name "isinstance" p2) [.Name "_law_e" p3, .Name y1 p4] [] p5] x1 p6, .Tuple [.Constant (.str y2) j2 p7, .Call (.Name "isinstance" p8) [.Name "_law_e" p9, .Name y2 p10] [] p11] x2 p12] p13) p14) σ H Q := by
  have lk := pk.len
  refine ev_op op_cat (ev_v 1 (ev_two hi cl hx h1 h2 hE ix (fun L t1 t2 H' s1 e1 e2 e3 => ⟨L0, L, _, _, rfl, rfl, s1 _ _ pk.lst, e1, ?_, fun D hD => ?_⟩) hv hN hs hg1 hg2 hd2 hg3 hd3) hv1 hN1 hs1)
  · rw [List.length_map]
    exact small (by show ts.length + 2 ≤ 100000; omega)
  have s2 := same_new hD (.lst (ts.map V.ref ++ [.ref t1, .ref t2]))
  refine q D (ts ++ [t1, t2]) _ (s1.trans s2) ⟨by rw [upd_same, List.map_append]; rfl, by rw [List.length_append, lk]; rfl, fun i t y a b => ?_⟩
  by_cases hi : i < ts.length
  · rw [List.getElem?_append_left hi] at a
    exact s2 _ _ (s1 _ _ (pk.at' i t y a b))
  · rw [List.getElem?_append_right (by omega)] at a
    have : i - ts.length < 2 := (List.getElem?_eq_some_iff.mp a).1
    by_cases h0 : i = ts.length
    · rw [h0, Nat.sub_self] at a
      cases a
      rw [h0, lk, h1] at b
      cases b
      exact s2 _ _ e2
    · have e : i = ts.length + 1 := by omega
      rw [e, show ts.length + 1 - ts.length = 1 by omega] at a
      cases a
      rw [e, lk, h2] at b
      cases b
      exact s2 _ _ e3
end
section
variable {P : Program} {w : World} {K : PySem.W.Frag} {mg : Str → Option Value} {base : Heap}
noncomputable abbrev NWh : List Str := ["_law_e", "_law_kinds", "_law_met"]
noncomputable abbrev NWh' : List Str := ["_law_e", "_law_kinds", "_law_met", "_law_pair"]
theorem scWh : FnScope NWh ["_law_e"] (defScope s_l_which) := ⟨rfl, rfl, rfl, by decide +kernel, rfl, by decide +kernel, by decide +kernel⟩
theorem nd_wh : NWh'.Nodup := by decide +kernel
theorem boot_vale : bootBuiltins "ValueError" = some (.type "ValueError") := by decide +kernel
theorem xn_nd : xNames.Nodup := by decide +kernel
theorem ok_which {f : Addr} {fd : FuncData} {c : Str → Addr} (F : Fun K "_law_which" "_law_which" s_l_which f fd) (T : Txt mg) (cl : Cl K mg c) : FnOkH P w K mg base 1 f fd ["_law_e"] (spWhich c) := by
  refine F.gh scWh (fun ea oe vs H Q E h => ?_) (fun b0 ea oe C vs Q E hun hE ix hK h => ?_)
  · obtain ⟨x, _, rfl, _⟩ := h
    rfl
  obtain ⟨x, hx, rfl, hc, q⟩ := h
  have nd := scWh.nd
  have ix : IsX oe (.ref (c x)) := ⟨hc, ix.dict, ix.data⟩
  show Run _ _ _ [some (.ref ea), none, none] b0.H
  refine run_set 1 nd (ev_two (k := 0) T.isi cl hx rfl rfl hE ix (fun L0 t1 t2 H1 s1 e1 e2 e3 => ?_) rfl rfl (Or.inl rfl) rfl rfl (by decide) rfl (by decide))
  have pk2 : Pk x H1 L0 [t1, t2] 2 := ⟨e1, rfl, fun i t y a b => by
    match i with
    | 0 => cases a; cases b; exact e2
    | 1 => cases a; cases b; exact e3
    | i + 2 => simp at a⟩
  show Run _ _ _ [some (.ref ea), some (.ref L0), none] H1
  refine run_set 1 nd (ev_kinds (k := 2) T.isi cl hx rfl rfl (by decide) pk2 (s1 _ _ hE) ix fun L1 ts1 H2 s2 pk4 => ?_)
  show Run _ _ _ [some (.ref ea), some (.ref L1), none] H2
  refine run_set 1 nd (ev_kinds (k := 4) T.isi cl hx rfl rfl (by decide) pk4 ((s1.trans s2) _ _ hE) ix fun L2 ts2 H3 s3 pk6 => ?_)
  show Run _ _ _ [some (.ref ea), some (.ref L2), none] H3
  refine run_set 1 nd (ev_kinds (k := 6) T.isi cl hx rfl rfl (by decide) pk6 (((s1.trans s2).trans s3) _ _ hE) ix fun L3 ts3 H4 s4 pk8 => ?_)
  show Run _ _ _ [some (.ref ea), some (.ref L3), none] H4
  refine run_set 1 nd (ev_kinds (k := 8) T.isi cl hx rfl rfl (by decide) pk8 ((((s1.trans s2).trans s3).trans s4) _ _ hE) ix fun L4 ts4 H5 s5 pk10 => ?_)
  show Run _ _ _ [some (.ref ea), some (.ref L4), none] H5
  refine run_set 1 nd (ev_kinds (k := 10) T.isi cl hx rfl rfl (by decide) pk10 (((((s1.trans s2).trans s3).trans s4).trans s5) _ _ hE) ix fun L5 ts5 H6 s6 pk12 => ?_)
  show Run _ _ _ [some (.ref ea), some (.ref L5), none] H6
  refine run_set 1 nd (ev_kinds (k := 12) T.isi cl hx rfl rfl (by decide) pk12 ((((((s1.trans s2).trans s3).trans s4).trans s5).trans s6) _ _ hE) ix fun L6 ts6 H7 s7 pk14 => ?_)
  show Run _ _ _ [some (.ref ea), some (.ref L6), none] H7
  have s17 : Same b0.H H7 := (((((s1.trans s2).trans s3).trans s4).trans s5).trans s6).trans s7
  have lk : ts6.length = 14 := pk14.len
  obtain ⟨k, hk⟩ := List.getElem?_of_mem hx
  have hkl : k < 14 := (List.getElem?_eq_some_iff.mp hk).1
  have word : ∀ (i : Nat) t, ts6[i]? = some t → H7 t = some (.tup [.str (xNames[i]?.getD ""), .bl (decide (i = k))]) := fun i t hi => by
    have hil : i < 14 := by rw [← lk]; exact (List.getElem?_eq_some_iff.mp hi).1
    obtain ⟨y, hy⟩ : ∃ y, xNames[i]? = some y := ⟨_, List.getElem?_eq_getElem (show i < xNames.length from hil)⟩
    have := pk14.at' i t y hi hy
    rw [hy]
    have e : decide (x = y) = decide (i = k) := decide_eq_decide.mpr ⟨fun z => by
      subst z
      have a1 := List.getElem?_eq_some_iff.mp hk
      have a2 := List.getElem?_eq_some_iff.mp hy
      have pw := List.pairwise_iff_getElem.mp xn_nd
      rcases Nat.lt_trichotomy i k with z | z | z
      · exact absurd (a2.2.trans a1.2.symm) (pw i k a2.1 a1.1 z)
      · exact z
      · exact absurd (a1.2.trans a2.2.symm) (pw k i a1.1 a2.1 z), fun z => by rw [z, hk] at hy; exact Option.some.inj hy⟩
    rw [e] at this
    exact this
  refine run_setCH 2 (defScope s_l_which) NWh NWh' 1 hK nd (pi_listH pe_ev) (ev_v 1 ⟨L6, rfl, ⟨_, SqL.of pk14.lst⟩, fun D hD => ?_⟩)
  refine comp_listP (xs := ts6.map V.ref) (fun i σ' H' => (∃ v, σ' = [some (.ref ea), some (.ref L6), none] ++ [v]) ∧ Same H7 H' ∧ H' D = some (Ls (if k < i then [x] else []))) ⟨⟨none, rfl⟩, same_new hD _, upd_same⟩ ?_ ?_ ?_
  · rintro i σ' H' _ ⟨_, sm, _⟩
    exact SqL.of (sm _ _ pk14.lst)
  · rintro i v σ' H' hv ⟨⟨v0, rfl⟩, sm, eD⟩
    rw [List.getElem?_map, Option.map_eq_some_iff] at hv
    obtain ⟨t, ht, rfl⟩ := hv
    have et := sm _ _ (word i t ht)
    intro cl' C' s₀ H₀ ex
    refine eg_name 3 nd_wh ?_
    intro cl' C' s₀ H₀ ex
    refine ei_one (et_val (ev_ix ix_tup (ev_v 3 (ev_int ⟨t, _, _, .bl (decide (i = k)), rfl, rfl, SqT.of et, rfl, _, rfl, ?_⟩))))
    refine ite2 (fun z => ?_) (fun z => ⟨⟨_, rfl⟩, sm, ?_⟩)
    · have z := of_decide_eq_true z
      subst z
      intro cl' C' s₀ H₀ ex
      rw [if_neg (Nat.lt_irrefl _)] at eD
      refine ev_ix ix_tup (ev_v 3 (ev_int ⟨t, _, _, .str x, rfl, rfl, SqT.of et, by rw [hk]; rfl, _, eD, (by show 0 < sizeLine; decide), ⟨_, rfl⟩, same_mut sm hD, ?_⟩))
      rw [upd_same, if_pos (Nat.lt_succ_self _)]
      rfl
    · have z : i ≠ k := fun y => z (decide_eq_true y)
      rw [eD]
      by_cases y : k < i
      · rw [if_pos y, if_pos (by omega)]
      · rw [if_neg y, if_neg (by omega)]
  · rintro σ' H8 ⟨_, s8, eD⟩
    rw [List.length_map, lk, if_pos hkl] at eD
    show Run _ _ _ [some (.ref ea), some (.ref L6), some (.ref D)] H8
    have hE8 := s8 _ _ (s17 _ _ hE)
    refine run_if (et_bool (ew_or (et_cmp op_ne (ev_blt call_len_seq T.len boot_len (ea_cons (ev_v 2 (ea_nil ⟨D, _, rfl, .inl (SqL.of eD), ev_int ⟨rfl, _, rfl, iteF ?_⟩⟩)))))))
    refine ew_or1 (et_not (et_val (ev_blt call_isiX T.isi PyProof.Rows.boot_isinstance (ea_cons (ev_v 0 (ea_cons (ev_bltn (.ty "ValueError") T.vale boot_vale rfl (ea_nil ⟨ea, c x, oe, .type "ValueError", .ty "ValueError", true, rfl, fun u r => r, hE8, ix, (cl.at' x hx).2.2.2.1, (cl.at' x hx).2.2.2.2, true, rfl, iteF (run_nil ?_)⟩))))))))
    exact run_ret (ev_ix ix_list (ev_v 2 (ev_int ⟨D, _, _, .str x, rfl, rfl, SqL.of eD, rfl, q _ (s17.trans s8)⟩)))
end
end T8
namespace T8
open PySem L2 Nt Sort2
noncomputable def spRRow (c : Str → Addr) : Sp := fun vs H Q E => ∃ p : Str, vs = [.str p] ∧ p.length ≤ 1000 ∧ (rowOf p = none → ∀ H', Same H H' → E (.ref (c "NoText")) none H') ∧
  ∀ a ts, rowOf p = some (a, ts) → ∀ (t l : Addr) (H' : Hp), Same H H' → H t = none → H l = none → H' t = some (.tup [.str a, .ref l]) → H' l = some (Ls ts) → Q (.ref t) H'
noncomputable def spRead (c : Str → Addr) : Sp := fun vs H Q E => ∃ z : Str, vs = [.str z] ∧ z.length ≤ 1000 ∧ ((∃ p ∈ Txt.split z "; ", rowOf p = none) → ∀ H', Same H H' → E (.ref (c "NoText")) none H') ∧
  ∀ n : Net, (Txt.split z "; ").map rowOf = n.map some → ∀ L as H', Same H H' → H L = none → (∀ a ∈ as, H a.1 = none ∧ H a.2 = none) → RowsAt H' L as n → Q (.ref L) H'
section
variable {P : Program} {w : World} {K : PySem.W.Frag} {mg : Str → Option Value} {base : Heap}
noncomputable abbrev NR1 : List Str := ["part", "head", "ties", "point"]
noncomputable abbrev NR2 : List Str := ["part", "head", "ties", "point", "name"]
theorem scRRow : FnScope NR1 ["part"] (defScope sRRow) := ⟨rfl, rfl, rfl, by decide +kernel, rfl, by decide +kernel, by decide +kernel⟩
theorem nd_r2 : NR2.Nodup := by decide +kernel
theorem ok_rrow {f : Addr} {fd : FuncData} {c : Str → Addr} (F : Fun K "read_row" "read_row" sRRow f fd) (T : Txt mg) (cl : Cl K mg c) (GI : Has P w K mg base 1 "is_name" ["thing"] (spIs K)) : FnOk P w K mg base (XF P w) 2 f fd ["part"] (spRRow c) := by
  refine F.gx scRRow (fun vs H Q E h => ?_) (fun b0 H vs Q hr h => ?_)
  · obtain ⟨p, rfl, _⟩ := h
    rfl
  obtain ⟨p, rfl, hp, qE, qQ⟩ := h
  have nd := scRRow.nd
  have mN : ("NoText" : Str) ∈ xNames := by decide
  obtain ⟨hd, ts, e0, _⟩ := split_ne p
  have tl : ∀ y ∈ hd :: ts, y.length ≤ 1000 := fun y hy => by
    rw [← e0] at hy
    have := (parts_len (y := " ") (by decide) hy).1
    omega
  have tll : (hd :: ts).length ≤ 1001 := by
    have := (parts_len (z := p) (y := " ") (p := hd) (by decide) (by rw [e0]; exact List.mem_cons_self ..)).2
    rw [e0] at this
    omega
  have tll : ts.length ≤ 1000 := Nat.le_of_succ_le_succ tll
  have lh := tl hd (List.mem_cons_self ..)
  have row : rowOf p = if (Txt.endswith hd ":" && isNm (Txt.slice hd none (some (-1))) && ts.all isNm) = true then some (Txt.slice hd none (some (-1)), ts) else none := by
    unfold rowOf
    rw [e0]
  have lpt : (Txt.slice hd none (some (-1))).length ≤ 1000 := Nat.le_trans (Txt.slice_le _ _ _) lh
  show Run _ _ _ [some (.str p), none, none, none] H
  refine run_asg (ev_m1 PySem.F.plainAttrs_str PySem.F.slot_str_split PySem.F.type_str_split mt_split (ev_v 0 (v := .str p) ⟨rfl, ev_str ⟨p, _, rfl, rfl, by decide, small (by omega), fun l hl => ?_⟩⟩))
  rw [e0]
  refine eg_star rfl (x := .str hd) (xs := ts.map V.str) (SqL.of upd_same) (by rw [List.length_map]; omega) fun d hd' => eg_name 1 nd (eg_name 2 nd ?_)
  have s1 := (same_new hl (.lst ((hd :: ts).map V.str))).trans (same_new hd' (Ls ts))
  have ed : (upd (upd H l (.lst ((hd :: ts).map V.str))) d (Ls ts)) d = some (Ls ts) := upd_same
  have hd0 : H d = none := free_back (same_new hl _) hd'
  generalize upd (upd H l (.lst ((hd :: ts).map V.str))) d (Ls ts) = H1 at s1 ed
  show Run _ _ _ [some (.str p), some (.str hd), some (.ref d), none] H1
  refine run_set 3 nd (ev_slice sl_str (ev_v 1 (eo_none (eo_some (ev_un un_neg (ev_int ⟨1, rfl, _, rfl, hd, rfl, small (by omega), ?_⟩))))))
  generalize Txt.slice hd none (some (-1)) = pt at *
  show Run _ _ _ [some (.str p), some (.str hd), some (.ref d), some (.str pt)] H1
  refine run_if (et_bool (ew_or (et_not (et_val (ev_m1 PySem.F.plainAttrs_str PySem.F.slot_str_endswith PySem.F.type_str_endswith mt_ends (ev_v 1 (v := .str hd) ⟨rfl, ev_str ⟨hd, _, rfl, rfl, _, rfl, ?_⟩⟩))))))
  cases hw : Txt.endswith hd ":" with
  | false =>
    rw [hw] at row
    exact iteT (iteT (run_raise rzX (cl.at' _ mN).1 (cl.at' _ mN).2.1 rfl (ea_cons (ev_str (ea_nil ⟨(by show 1 ≤ sizeLine; decide), qE row _ s1⟩)))))
  | true =>
  rw [hw, Bool.true_and] at row
  refine iteF (ew_or1 (et_not (et_val (ev_blt (call_allB rfl) T.all PyProof.Rows.boot_all (ea_cons (ev_comp (defScope sRRow) NR1 NR2 1 (pi_list pe_ev) ?_))))))
  refine ev_op op_cat (ev_lst (ea_cons (ev_v 3 (ea_nil ⟨(by show 1 ≤ sizeLine; decide), fun u hu => ?_⟩))))
  have sp := same_new hu (.lst [.str pt])
  refine ev_v 2 ⟨u, d, _, _, rfl, rfl, upd_same, sp _ _ ed, small (by rw [List.length_map]; show 1 + _ ≤ 100000; omega), fun p2 hp2 => ?_⟩
  have sp2 := same_new hp2 (.lst ([.str pt] ++ ts.map V.str))
  have e2 : (upd (upd H1 u (.lst [.str pt])) p2 (.lst ([.str pt] ++ ts.map V.str))) p2 = some (Ls (pt :: ts)) := upd_same
  have s2 := sp.trans sp2
  generalize upd (upd H1 u (.lst [.str pt])) p2 (.lst ([.str pt] ++ ts.map V.str)) = H2 at s2 e2
  refine ⟨p2, rfl, ⟨_, SqL.of e2⟩, fun D hD => ?_⟩
  refine comp_listP (xs := (pt :: ts).map V.str) (fun i σ' H' => (∃ v, σ' = [some (.str p), some (.str hd), some (.ref d), some (.str pt)] ++ [v]) ∧ H' D = some (.lst ((((pt :: ts).take i).map isNm).map V.bl)) ∧ Same H2 H') ⟨⟨none, rfl⟩, upd_same, same_new hD _⟩ ?_ ?_ ?_
  · rintro i σ' H' _ ⟨_, _, sm⟩
    exact SqL.of (sm _ _ e2)
  · rintro i x σ' H' hx ⟨⟨v, rfl⟩, hb, sm⟩
    rw [List.getElem?_map, Option.map_eq_some_iff] at hx
    obtain ⟨z, hz, rfl⟩ := hx
    have mz := List.mem_of_getElem? hz
    have lz : z.length ≤ 1000 := by
      rcases List.mem_cons.mp mz with rfl | h
      · exact lpt
      · exact tl z (List.mem_cons_of_mem _ h)
    have hil : i < (pt :: ts).length := (List.getElem?_eq_some_iff.mp hz).1
    have hil : i < ts.length + 1 := hil
    intro cl' C' s₀ H₀ ex
    refine eg_name 4 nd_r2 ?_
    intro cl' C' s₀ H₀ ex
    refine ei_nil (iteT ?_)
    intro cl' C' s₀ H₀ ex
    refine ev_has GI hr (ea_cons (ev_v 4 (ea_nil ⟨_, rfl, .inl ⟨z, rfl, by omega, fun H5 s5 => ?_⟩⟩)))
    refine ⟨_, s5 _ _ hb, ?_, ⟨_, rfl⟩, ?_, same_mut (sm.trans s5) hD⟩
    · rw [List.length_map, List.length_map, List.length_take]
      exact small' (by omega)
    · rw [upd_same, List.take_add_one, hz, List.map_append, List.map_append]
      rfl
  rintro σ' H' ⟨_, hb, sm⟩
  rw [List.length_map, List.take_length] at hb
  have s3 := s2.trans sm
  refine ea_nil ⟨D, _, rfl, SqL.of hb, _, rfl, ?_⟩
  have all : ((pt :: ts).map isNm).all _root_.id = (isNm pt && ts.all isNm) := by
    rw [List.map_cons, List.all_cons, List.all_map]
    rfl
  rw [all]
  cases hk : (isNm pt && ts.all isNm) with
  | false =>
    rw [hk] at row
    exact iteT (run_raise rzX (cl.at' _ mN).1 (cl.at' _ mN).2.1 rfl (ea_cons (ev_str (ea_nil ⟨(by show 1 ≤ sizeLine; decide), qE row _ (s1.trans s3)⟩))))
  | true =>
  rw [hk] at row
  refine iteF (run_nil (run_ret (ev_tup (ea_cons (ev_v 3 (ea_cons (ev_v 2 (ea_nil ⟨(by show 2 ≤ sizeLine; decide), fun t ht => ?_⟩))))))))
  have st := same_new ht (.tup [.str pt, .ref d])
  exact qQ pt ts row t d _ ((s1.trans s3).trans st) (free_back (s1.trans s3) ht) hd0 upd_same (st _ _ (s3 _ _ ed))
noncomputable abbrev NQ1 : List Str := ["text"]
noncomputable abbrev NQ2 : List Str := ["text", "part"]
theorem scRead : FnScope NQ1 ["text"] (defScope sRead) := ⟨rfl, rfl, rfl, by decide +kernel, rfl, by decide +kernel, by decide +kernel⟩
theorem nd_q2 : NQ2.Nodup := by decide +kernel
theorem ok_read {f : Addr} {fd : FuncData} {c : Str → Addr} (F : Fun K "read" "read" sRead f fd) (T : Txt mg) (cl : Cl K mg c) (GR : HasX P w K mg base 2 "read_row" ["part"] (spRRow c)) : FnOk P w K mg base (XF P w) 3 f fd ["text"] (spRead c) := by
  refine F.gx scRead (fun vs H Q E h => ?_) (fun b0 H vs Q hr h => ?_)
  · obtain ⟨z, rfl, _⟩ := h
    rfl
  obtain ⟨z, rfl, hz, qE, qQ⟩ := h
  show Run _ _ _ [some (.str z)] H
  refine run_ret (ev_compX (defScope sRead) NQ1 NQ2 1 lndX (pi_list pe_ev) (ev_m1 PySem.F.plainAttrs_str PySem.F.slot_str_split PySem.F.type_str_split mt_split (ev_v 0 (v := .str z) ⟨rfl, ev_str ⟨z, "; ", rfl, rfl, by decide, small (by omega), fun l hl => ⟨l, rfl, ⟨_, SqL.of upd_same⟩, fun D hD => ?_⟩⟩⟩)))
  generalize hps : Txt.split z "; " = ps at *
  have pl : ∀ p ∈ ps, p.length ≤ 1000 ∧ ps.length ≤ 1001 := fun p hp => by
    rw [← hps] at hp ⊢
    have := parts_len (y := "; ") (by decide) hp
    omega
  have sl := same_new hl (.lst (ps.map V.str))
  have el : (upd H l (.lst (ps.map V.str))) l = some (Ls ps) := upd_same
  generalize upd H l (.lst (ps.map V.str)) = H1 at sl el hD ⊢
  have hD0 := free_back sl hD
  refine comp_listX (xs := ps.map V.str) (fun i σ' H' => (∃ v, σ' = [some (.str z)] ++ [v]) ∧ ∃ (n : Net) (as : List (Addr × Addr)), (ps.take i).map rowOf = n.map some ∧ n.length = i ∧ Same H H' ∧ H' l = some (Ls ps) ∧ RowsAt H' D as n ∧ ∀ a ∈ as, H a.1 = none ∧ H a.2 = none) ⟨⟨none, rfl⟩, [], [], rfl, rfl, sl.trans (same_new hD _), (same_new hD _) _ _ el, ⟨rfl, upd_same, fun i a r h => (by simp at h), List.nodup_nil⟩, fun a h => (by simp at h)⟩ ?_ ?_ ?_
  · rintro i σ' H' _ ⟨_, n, as, _, _, _, e, _⟩
    exact SqL.of e
  · rintro i x σ' H' hx ⟨⟨v, rfl⟩, n, as, hn, hni, sm, el', hR, hnew⟩
    rw [List.getElem?_map, Option.map_eq_some_iff] at hx
    obtain ⟨p, hp, rfl⟩ := hx
    have mp := List.mem_of_getElem? hp
    obtain ⟨lp, lps⟩ := pl p mp
    have hil : i < ps.length := (List.getElem?_eq_some_iff.mp hp).1
    intro cl' C' s₀ H₀ ex
    refine eg_name 1 nd_q2 ?_
    intro cl' C' s₀ H₀ ex
    refine ei_nil (iteT ?_)
    intro cl' C' s₀ H₀ ex pp W' hps
    refine ev_hasX GR hr hps (ea_cons (ev_v 1 (ea_nil ⟨p, rfl, lp, fun h0 H2 s2 => qE ⟨p, mp, h0⟩ _ (sm.trans s2), fun a ts hr t k H2 s2 ht hk et ek => ?_⟩)))
    have hR2 := hR.same s2
    have la := hR2.len
    have nkD : k ≠ D := fun e => by rw [e, hR.lst] at hk; cases hk
    have kn : k ∉ as.map (·.2) := fun hm => by
      obtain ⟨b, hb, e⟩ := List.mem_map.mp hm
      obtain ⟨zs, hz⟩ := hR.lists hb
      rw [e, hk] at hz
      cases hz
    refine ⟨_, hR2.lst, ?_, ⟨_, rfl⟩, n ++ [(a, ts)], as ++ [(t, k)], ?_, ?_, same_mut (sm.trans s2) hD0, ?_, hR2.more et ek kn nkD, fun b hb => ?_⟩
    · rw [List.length_map]
      exact small' (by omega)
    · rw [List.take_add_one, hp, List.map_append, List.map_append, hn]
      show _ ++ [rowOf p] = _
      rw [hr]
      rfl
    · rw [List.length_append, hni]
      rfl
    · rw [upd_ne (fun e => ?_)]
      · exact s2 _ _ el'
      · rw [e, hD] at el
        cases el
    · rcases List.mem_append.mp hb with hb | hb
      · exact hnew b hb
      · rw [List.mem_singleton.mp hb]
        exact ⟨free_back sm ht, free_back sm hk⟩
  · rintro σ' H' ⟨_, n, as, hn, hni, sm, el', hR, hnew⟩
    rw [List.length_map, List.take_length] at hn
    exact qQ n hn D as H' sm hD0 hnew hR
end
end T8
namespace T8
open PySem L2 Nt Sort2
theorem k_ll (K : PySem.W.Frag) : PySem.W.kitOne K (.type "list") (.type "list") = some true := by rfl
theorem k_tt (K : PySem.W.Frag) : PySem.W.kitOne K (.type "tuple") (.type "tuple") = some true := by rfl
theorem k_ss (K : PySem.W.Frag) : PySem.W.kitOne K (.type "str") (.type "str") = some true := by rfl
noncomputable def spSame : Sp := fun vs H Q _ => ∃ (R R' : Addr) (as bs : List (Addr × Addr)) (n : Net), vs = [.ref R, .ref R'] ∧ RowsAt H R as n ∧ RowsAt H R' bs n ∧ n.length ≤ 1000 ∧ Q (.bl true) H
noncomputable def spAsk : Sp := fun vs H Q _ => ∃ z : Str, vs = [.str z] ∧ z.length ≤ 1000 ∧ ((∃ p ∈ Txt.split z "; ", rowOf p = none) → ∀ t H', Same H H' → H' t = some (.tup [.str "NoText", .non]) → Q (.ref t) H') ∧
  ∀ n : Net, (Txt.split z "; ").map rowOf = n.map some → ∀ t L as H', Same H H' → H' t = some (.tup [.str "", .ref L]) → RowsAt H' L as n → Q (.ref t) H'
noncomputable def spLaw (K : PySem.W.Frag) : Sp := fun vs H Q _ => ∃ (a : Addr) (ns : List Int), vs = [.ref a] ∧ SqL K H a (ns.map V.int) ∧ ns.length ≤ 63 ∧ ∀ H', Q (.bl true) H'
theorem rows_or : ∀ ps : List Str, (∃ p ∈ ps, rowOf p = none) ∨ ∃ n : Net, ps.map rowOf = n.map some
  | [] => .inr ⟨[], rfl⟩
  | p :: ps => by
    cases e : rowOf p with
    | none => exact .inl ⟨p, List.mem_cons_self .., e⟩
    | some r =>
      rcases rows_or ps with ⟨q, hq, h⟩ | ⟨n, h⟩
      · exact .inl ⟨q, List.mem_cons_of_mem _ hq, h⟩
      · exact .inr ⟨r :: n, by rw [List.map_cons, List.map_cons, e, h]⟩
theorem not_both {ps : List Str} {n : Net} (h : ps.map rowOf = n.map some) : ¬ ∃ p ∈ ps, rowOf p = none := by
  rintro ⟨p, hp, e⟩
  have hm : none ∈ ps.map rowOf := by rw [← e]; exact List.mem_map_of_mem hp
  rw [h] at hm
  obtain ⟨x, _, e⟩ := List.mem_map.mp hm
  cases e
theorem rows_inj : ∀ {m n : Net}, m.map some = n.map some → m = n
  | [], [], _ => rfl
  | a :: m, b :: n, h => by
    rw [List.map_cons, List.map_cons] at h
    obtain ⟨h1, h2⟩ := List.cons.inj h
    rw [Option.some.inj h1, rows_inj h2]
section
variable {P : Program} {w : World} {K : PySem.W.Frag} {mg : Str → Option Value} {base : Heap}
noncomputable abbrev NSm : List Str := ["_law_told", "_law_due_here", "_law_k", "_law_row"]
theorem scSame : FnScope NSm ["_law_told", "_law_due_here"] (defScope s_l_same) := ⟨rfl, rfl, rfl, by decide +kernel, rfl, by decide +kernel, by decide +kernel⟩
theorem ok_same {f : Addr} {fd : FuncData} (F : Fun K "_law_same" "_law_same" s_l_same f fd) (T : Txt mg) : FnOk P w K mg base CX0 1 f fd ["_law_told", "_law_due_here"] spSame := by
  refine F.gb scSame (fun vs H Q E h => ?_) (fun b0 H vs Q E hr h => ?_)
  · obtain ⟨R, R', as, bs, n, rfl, _⟩ := h
    rfl
  obtain ⟨R, R', as, bs, n, rfl, hR, hR', hn, q⟩ := h
  have nd := scSame.nd
  have la := hR.len
  have lb := hR'.len
  have un := hr.u100
  show Run _ _ _ [some (.ref R), some (.ref R'), none, none] H
  refine run_ifH (fun k H4 => k = false ∧ H4 = H) (fun σ' H' => H' = H ∧ σ' = [some (.ref R), some (.ref R'), none, none]) ?_ (fun H4 h => by cases h.1) (fun H4 h => run_nil ⟨h.2, rfl⟩) ?_
  · refine et_bool (ew_or (et_not (et_val (ev_blt call_isi T.isi PyProof.Rows.boot_isinstance (ea_cons (ev_v 0 (ea_cons (ev_bltn (.ty "list") T.tlist PyProof.Rows.boot_list rfl (ea_nil ⟨_, _, _, true, rfl, .lst hR.lst, k_ll K, true, rfl, ?_⟩)))))))))
    rw [if_neg (show ¬ (!true) = true by simp)]
    refine ew_or1 (et_cmp op_ne (ev_blt call_len_seq T.len boot_len (ea_cons (ev_v 0 (ea_nil ⟨R, _, rfl, .inl (SqL.of hR.lst), ev_blt call_len_seq T.len boot_len (ea_cons (ev_v 1 (ea_nil ⟨R', _, rfl, .inl (SqL.of hR'.lst), ?_⟩)))⟩)))))
    rw [List.length_map, List.length_map, la, lb]
    exact ⟨rfl, _, rfl, by show (!(V.int _ == V.int _)) = false; simp, rfl⟩
  · rintro σ' H' ⟨rfl, rfl⟩
    refine run_forR1 T.range (ev_blt call_len_seq T.len boot_len (ea_cons (ev_v 1 (ea_nil ⟨R', _, rfl, .inl (SqL.of hR'.lst), ?_⟩))))
    rw [List.length_map, lb]
    refine ⟨(n.length : Int), rfl, by omega, by omega, loop_range (n := n.length) (fun i σ H3 => H3 = H' ∧ ∃ (u v : Option V), σ = [some (.ref R), some (.ref R'), u, v]) ⟨rfl, _, _, rfl⟩ ?_ ?_⟩
    · rintro i σ H3 hi ⟨rfl, u, v, rfl⟩
      obtain ⟨a, ea, eat, et, el, er⟩ := hR.at hi
      obtain ⟨b, eb, ebt, et', el', er'⟩ := hR'.at hi
      have e0 : (0 : Int) + (i : Int) = (i : Int) := Int.zero_add _
      refine eg_name 2 nd ?_
      rw [e0]
      refine run_set 3 nd (ev_ix ix_list (ev_v 0 (ev_v 2 ⟨R, _, _, .ref a.1, rfl, rfl, SqL.of hR.lst, eat, ?_⟩)))
      show Run _ _ _ [some (.ref R), some (.ref R'), some (.int i), some (.ref a.1)] H3
      refine run_ifH (fun k H4 => k = false ∧ H4 = H3) (fun σ' H' => H' = H3 ∧ σ' = [some (.ref R), some (.ref R'), some (.int i), some (.ref a.1)]) ?_ (fun H4 h => by cases h.1) (fun H4 h => run_nil ⟨h.2, rfl⟩) ?_
      · refine et_bool (ew_or (et_not (et_val (ev_blt call_isi T.isi PyProof.Rows.boot_isinstance (ea_cons (ev_v 3 (ea_cons (ev_bltn (.ty "tuple") T.ttuple PyProof.Rows.boot_tuple rfl (ea_nil ⟨_, _, _, true, rfl, .tup et, k_tt K, true, rfl, ?_⟩)))))))))
        rw [if_neg (show ¬ (!true) = true by simp)]
        refine ew_or (et_cmp op_ne (ev_blt call_len_seq T.len boot_len (ea_cons (ev_v 3 (ea_nil ⟨a.1, _, rfl, .inr (SqT.of et), ev_int ⟨rfl, _, rfl, ?_⟩⟩)))))
        rw [if_neg (by simp)]
        refine ew_or (et_not (et_val (ev_blt call_isi T.isi PyProof.Rows.boot_isinstance (ea_cons (ev_ix ix_tup (ev_v 3 (ev_int ⟨a.1, _, _, .str n[i].1, rfl, rfl, SqT.of et, rfl, ea_cons (ev_bltn (.ty "str") T.tstr PyProof.Rows.boot_str rfl (ea_nil ⟨_, _, _, true, rfl, .str _, k_ss K, true, rfl, ?_⟩))⟩)))))))
        rw [if_neg (show ¬ (!true) = true by simp)]
        refine ew_or1 (et_not (et_val (ev_blt call_isi T.isi PyProof.Rows.boot_isinstance (ea_cons (ev_ix ix_tup (ev_v 3 (ev_int ⟨a.1, _, _, .ref a.2, rfl, rfl, SqT.of et, rfl, ea_cons (ev_bltn (.ty "list") T.tlist PyProof.Rows.boot_list rfl (ea_nil ⟨_, _, _, true, rfl, .lst el, k_ll K, true, rfl, rfl, rfl⟩))⟩)))))))
      · rintro σ' H' ⟨rfl, rfl⟩
        refine run_ifH (fun k H4 => k = false ∧ H4 = H') (fun σ' H'' => H'' = H' ∧ σ' = [some (.ref R), some (.ref R'), some (.int i), some (.ref a.1)]) ?_ (fun H4 h => by cases h.1) (fun H4 h => run_nil ⟨h.2, rfl⟩) ?_
        · refine et_bool (ew_or (et_cmp op_ne (ev_ix ix_tup (ev_v 3 (ev_int ⟨a.1, _, _, .str n[i].1, rfl, rfl, SqT.of et, rfl, ev_ix ix_tup (ev_ix ix_list (ev_v 1 (ev_v 2 ⟨R', _, _, .ref b.1, rfl, rfl, SqL.of hR'.lst, ebt, ev_int ⟨b.1, _, _, .str n[i].1, rfl, rfl, SqT.of et', rfl, rfl, _, rfl, ?_⟩⟩)))⟩)))))
          rw [if_neg (by simp)]
          refine ew_or1 (et_cmp (op_neD un) (ev_ix ix_tup (ev_v 3 (ev_int ⟨a.1, _, _, .ref a.2, rfl, rfl, SqT.of et, rfl, ev_ix ix_tup (ev_ix ix_list (ev_v 1 (ev_v 2 ⟨R', _, _, .ref b.1, rfl, rfl, SqL.of hR'.lst, ebt, ev_int ⟨b.1, _, _, .ref b.2, rfl, rfl, SqT.of et', rfl, 1, true, by decide, rnD_strs el el', _, rfl, rfl, rfl⟩⟩)))⟩))))
        · rintro σ' H'' ⟨rfl, rfl⟩
          exact run_nil ⟨rfl, _, _, rfl⟩
    · rintro σ H3 ⟨rfl, u, v, rfl⟩
      exact run_ret (ev_bl q)
noncomputable abbrev NAs : List Str := ["_law_text_here", "_law_e"]
theorem scAs : FnScope NAs ["_law_text_here"] (defScope s_l_asked) := ⟨rfl, rfl, rfl, by decide +kernel, rfl, by decide +kernel, by decide +kernel⟩
theorem ok_asked {f : Addr} {fd : FuncData} {c : Str → Addr} (F : Fun K "_law_asked" "_law_asked" s_l_asked f fd) (T : Txt mg) (cl : Cl K mg c) (GD : HasX P w K mg base 3 "read" ["text"] (spRead c)) (GW : HasH P w K mg base 1 "_law_which" ["_law_e"] (spWhich c)) :
    FnOk P w K mg base CX0 4 f fd ["_law_text_here"] spAsk := by
  refine F.gb scAs (fun vs H Q E h => ?_) (fun b0 H vs Q E hr h => ?_)
  · obtain ⟨z, rfl, _⟩ := h
    rfl
  obtain ⟨z, rfl, hz, qN, qQ⟩ := h
  have nd := scAs.nd
  have mx : ("NoText" : Str) ∈ xNames := by decide
  show Run _ _ _ [some (.str z), none] H
  refine run_try 1 (fun C σ' H' => C = .ref (c "NoText") ∧ σ' = [some (.str z), none] ∧ Same H H' ∧ ∃ p ∈ Txt.split z "; ", rowOf p = none) cl.net cl.xnet nd (fun p => ?_) ?_
  · refine run_ret (ev_tup (ea_cons (ev_str (ea_cons (ev_hasS GD hr (passT rfl) (ea_cons (ev_v 0 (ea_nil ⟨z, rfl, hz, fun h0 H' s' => ⟨rfl, rfl, s', h0⟩, fun n hn L bs H' s' n' f' hL => ea_nil ⟨(by show 2 ≤ sizeLine; decide), fun t ht => ?_⟩⟩))))))))
    have s2 := same_new ht (.tup [.str "", .ref L])
    exact qQ n hn t L bs _ (s'.trans s2) upd_same (hL.same s2)
  · rintro C σ' H' ⟨rfl, rfl, s', hx⟩
    refine ⟨c "NoText", rfl, (cl.at' _ mx).2.1, (cl.at' _ mx).2.2.1, fun p ea oe ix nea => ?_⟩
    have s1 := same_new nea (XO oe)
    refine run_ret (ev_tup (ea_cons (ev_hasH (E := E0) GW (roomH (hr.mono (by decide))) (ea_cons (ev_v 1 (ea_nil ⟨oe, _, upd_same, ix, "NoText", mx, rfl, ix.cls, fun H2 s2 => ea_cons (ev_non (ea_nil ⟨(by show 2 ≤ sizeLine; decide), fun t ht => ?_⟩))⟩))))))
    have s3 := same_new ht (.tup [.str "NoText", .non])
    exact qN hx t _ ((s'.trans (s1.trans s2)).trans s3) upd_same
noncomputable abbrev NW : List Str := ["_law_script", "_law_rest", "_law_text_here", "_law_due_here", "_law_told"]
theorem scLaw : FnScope NW ["_law_script"] (defScope sLaw) := ⟨rfl, rfl, rfl, by decide +kernel, rfl, by decide +kernel, by decide +kernel⟩
theorem ok_law {f : Addr} {fd : FuncData} (F : Fun K "law" "law" sLaw f fd) (T : Txt mg) (GB : Has P w K mg base 4 "_law_big" ["_law_script", "_law_at"] (spBig K)) (GT : Has P w K mg base 4 "_law_text" ["_law_rest"] spText) (GO : Has P w K mg base 4 "_law_odd" ["_law_text_here", "_law_rest"] spOdd)
    (GD : Has P w K mg base 4 "_law_due" ["_law_text_here"] spDue) (GA : Has P w K mg base 4 "_law_asked" ["_law_text_here"] spAsk) (GS : Has P w K mg base 4 "_law_same" ["_law_told", "_law_due_here"] spSame) : FnOk P w K mg base CX0 5 f fd ["_law_script"] (spLaw K) := by
  refine F.gb scLaw (fun vs H Q E h => ?_) (fun b0 H vs Q E hr h => ?_)
  · obtain ⟨a, ns, rfl, _⟩ := h
    rfl
  obtain ⟨a, ns, rfl, hS, h63, q⟩ := h
  have nd := scLaw.nd
  show Run _ _ _ [some (.ref a), none, none, none, none] H
  refine run_set 1 nd (ev_lst (ea_cons (ev_has GB hr (ea_cons (ev_v 0 (ea_cons (ev_int (ea_nil ⟨a, ns, 0, rfl, hS, by decide, fun b H1 s1 => ea_nil ⟨(by show 1 ≤ sizeLine; decide), fun R hR => ?_⟩⟩))))))))
  refine run_set 2 nd (ev_has GO hr (ea_cons (ev_has GT hr (ea_cons (ev_v 1 (ea_nil ⟨R, b, rfl, upd_same, fun t b1 H2 lt s2 e2 => ea_cons (ev_v 1 (ea_nil ⟨R, b1, t, rfl, e2, lt, fun z H3 lz => ?_⟩))⟩))))))
  show Run _ _ _ [some (.ref a), some (.ref R), some (.str z), none, none] H3
  rcases rows_or (Txt.split z "; ") with hbad | ⟨n, hn⟩
  · refine run_set 3 nd (ev_has GD hr (ea_cons (ev_v 2 (ea_nil ⟨z, rfl, by omega, fun _ H4 s4 => ?_, fun n hn => ?_⟩))))
    · refine run_set 4 nd (ev_has GA hr (ea_cons (ev_v 2 (ea_nil ⟨z, rfl, by omega, fun _ t H5 s5 et => ?_, fun n hn => ?_⟩))))
      · show Run _ _ _ [some (.ref a), some (.ref R), some (.str z), some .non, some (.ref t)] H5
        refine run_if (et_cmp op_isN (ev_v 3 (ev_non ⟨rfl, _, rfl, ite2 (fun _ => ?_) (fun h => absurd (decide_eq_true rfl) h)⟩)))
        refine run_ret (ev_cmp op_eq (ev_ix ix_tup (ev_v 4 (ev_int ⟨t, _, _, .str "NoText", rfl, rfl, SqT.of et, rfl, ev_str ⟨rfl, ?_⟩⟩))))
        rw [decide_eq_true rfl]
        exact q _
      · exact absurd hbad (not_both hn)
    · exact absurd hbad (not_both hn)
  · have ln : n.length ≤ 1000 := by
      have e := congrArg List.length hn
      rw [List.length_map, List.length_map] at e
      have hw := PyProof.Rows.split_weight z "; " (by decide)
      omega
    refine run_set 3 nd (ev_has GD hr (ea_cons (ev_v 2 (ea_nil ⟨z, rfl, by omega, fun hb => absurd hb (not_both hn), fun m hm L as H4 s4 n4 f4 hL => ?_⟩))))
    refine run_set 4 nd (ev_has GA hr (ea_cons (ev_v 2 (ea_nil ⟨z, rfl, by omega, fun hb => absurd hb (not_both hn), fun k hk t M bs H5 s5 et hM => ?_⟩))))
    have em : m = n := rows_inj (hm.symm.trans hn)
    have ek : k = n := rows_inj (hk.symm.trans hn)
    subst em ek
    show Run _ _ _ [some (.ref a), some (.ref R), some (.str z), some (.ref L), some (.ref t)] H5
    refine run_if (et_cmp op_isN (ev_v 3 (v := .ref L) (ev_non ⟨rfl, _, rfl, ite2 (fun h => absurd (of_decide_eq_true h) (fun z => nomatch z)) (fun _ => run_nil ?_)⟩)))
    refine run_ret (ev_and (ev_cmp op_eq (ev_ix ix_tup (ev_v 4 (ev_int ⟨t, _, _, .str "", rfl, rfl, SqT.of et, rfl, ev_str ⟨rfl, _, rfl, ?_⟩⟩)))))
    rw [decide_eq_true rfl]
    refine iteT (ev_last (ev_has GS hr (ea_cons (ev_ix ix_tup (ev_v 4 (ev_int ⟨t, _, _, .ref M, rfl, rfl, SqT.of et, rfl, ?_⟩))))))
    exact ea_cons (ev_v 3 (ea_nil ⟨M, L, bs, as, _, rfl, hM, hL.same s5, ln, q _⟩))
end
end T8
namespace T8
open PySem L2
theorem all_mk {l : PySem.W.OpenLaw} {w : World} {K : PySem.W.Frag} {h : Heap} {mg : Str → Option Value} {fa : Addr} (X : K.In h) (G : h.Ns mainGlobals mg) (hfa : mg "law" = some (.ref fa))
    (h1 : Df K "is_name" sIs) (h2 : Df K "read" sRead) (h3 : Df K "read_row" sRRow) (h4 : Df K "_law_cell_at" sCell) (h5 : Df K "_law_big" sBig) (h6 : Df K "_law_same" s_l_same) (h7 : Df K "_law_which" s_l_which) (h8 : Df K "_law_digit" sDigit) (h9 : Df K "_law_word" sWord) (h10 : Df K "_law_sign" sSign) (h11 : Df K "_law_text" sText) (h12 : Df K "_law_odd" sOdd) (h13 : Df K "_law_is_good" s_l_is_good) (h14 : Df K "_law_due" sDue) (h15 : Df K "_law_asked" s_l_asked) (hl : Df K "law" sLaw)
    {tk1 tk2 : Tok} (s1 : PySem.W.nsIn K mainGlobals "SIGNS" = some (some (.str lets tk1))) (s2 : PySem.W.nsIn K mainGlobals "LONGEST" = some (some (.int 8 tk2)))
    (qc : clB K = true)
    (z : ∀ x ∈ (["isinstance", "str", "tuple", "list", "len", "all", "range", "ValueError"] : List Str), PySem.W.nsIn K mainGlobals x = some none) :
    ∃ fd : FuncData, (∀ (s : Shared) (v : Value), BindsTo s fd ⟨[v], []⟩ [("_law_script", v)]) ∧ ∀ base : Heap, K.In base → base.Ns mainGlobals mg → FnOk l.prog w K mg base CX0 5 fa fd ["_law_script"] (spLaw K) := by
  have T : Txt mg := ⟨PySem.W.mg_none_of X G (z _ (by simp)), PySem.W.mg_none_of X G (z _ (by simp)), PySem.W.mg_none_of X G (z _ (by simp)), PySem.W.mg_none_of X G (z _ (by simp)), PySem.W.mg_none_of X G (z _ (by simp)), PySem.W.mg_none_of X G (z _ (by simp)), PySem.W.mg_none_of X G (z _ (by simp)), PySem.W.mg_none_of X G (z _ (by simp)), ⟨_, PySem.W.mg_of X G s1, _, rfl⟩, ⟨_, PySem.W.mg_of X G s2, _, rfl⟩⟩
  have cl := cl_of X G qc
  refine hl.law X G hfa (fun _ _ _ _ _ _ s v => .of_eq rfl) fun base f fd F => ?_
  have G1 : Has l.prog w K mg base 1 "is_name" ["thing"] (spIs K) := h1.has X G (fun _ _ _ _ _ _ => bd1 fun _ => rfl) fun F => ok_is F T
  have G3 : HasX l.prog w K mg base 2 "read_row" ["part"] (spRRow (cAd K)) := h3.hasX X G (fun _ _ _ _ _ _ => bd1 fun _ => rfl) fun F => ok_rrow F T cl (G1.mono (by decide))
  have G2 : HasX l.prog w K mg base 3 "read" ["text"] (spRead (cAd K)) := h2.hasX X G (fun _ _ _ _ _ _ => bd1 fun _ => rfl) fun F => ok_read F T cl (G3.mono (by decide))
  have G4 : Has l.prog w K mg base 1 "_law_cell_at" ["_law_script", "_law_k"] (spCell K) := h4.has X G (fun _ _ _ _ _ _ => bd2 fun _ _ => rfl) fun F => ok_cell F T
  have G5 : Has l.prog w K mg base 2 "_law_big" ["_law_script", "_law_at"] (spBig K) := h5.has X G (fun _ _ _ _ _ _ => bd2 fun _ _ => rfl) fun F => ok_big F T (G4.mono (by decide))
  have G6 : Has l.prog w K mg base 1 "_law_same" ["_law_told", "_law_due_here"] spSame := h6.has X G (fun _ _ _ _ _ _ => bd2 fun _ _ => rfl) fun F => ok_same F T
  have G7 : HasH l.prog w K mg base 1 "_law_which" ["_law_e"] (spWhich (cAd K)) := h7.hasH X G (fun _ _ _ _ _ _ => bd1 fun _ => rfl) fun F => ok_which F T cl
  have G8 : Has l.prog w K mg base 1 "_law_digit" ["_law_rest", "_law_many"] spDigit := h8.has X G (fun _ _ _ _ _ _ => bd2 fun _ _ => rfl) fun F => ok_digit F T
  have G9 : Has l.prog w K mg base 2 "_law_word" ["_law_rest"] spWord := h9.has X G (fun _ _ _ _ _ _ => bd1 fun _ => rfl) fun F => ok_word F T (G8.mono (by decide))
  have G10 : Has l.prog w K mg base 2 "_law_sign" ["_law_rest"] spSign := h10.has X G (fun _ _ _ _ _ _ => bd1 fun _ => rfl) fun F => ok_sign F T (G8.mono (by decide))
  have G11 : Has l.prog w K mg base 3 "_law_text" ["_law_rest"] spText := h11.has X G (fun _ _ _ _ _ _ => bd1 fun _ => rfl) fun F => ok_text F T (G8.mono (by decide)) (G9.mono (by decide))
  have G12 : Has l.prog w K mg base 3 "_law_odd" ["_law_text_here", "_law_rest"] spOdd := h12.has X G (fun _ _ _ _ _ _ => bd2 fun _ _ => rfl) fun F => ok_odd F T (G8.mono (by decide)) (G10.mono (by decide))
  have G13 : Has l.prog w K mg base 1 "_law_is_good" ["_law_name"] spGd := h13.has X G (fun _ _ _ _ _ _ => bd1 fun _ => rfl) fun F => ok_gd F T
  have G14 : Has l.prog w K mg base 2 "_law_due" ["_law_text_here"] spDue := h14.has X G (fun _ _ _ _ _ _ => bd1 fun _ => rfl) fun F => ok_due F T (G13.mono (by decide))
  have G15 : Has l.prog w K mg base 4 "_law_asked" ["_law_text_here"] spAsk := h15.has X G (fun _ _ _ _ _ _ => bd1 fun _ => rfl) fun F => ok_asked F T cl (G2.mono (by decide)) G7
  exact ok_law F T (G5.mono (by decide)) (G11.mono (by decide)) (G12.mono (by decide)) (G14.mono (by decide)) (G15.mono (by decide)) (G6.mono (by decide))
theorem walk {l : PySem.W.OpenLaw} {q : Program} {loose : List Str} {XP : (Str → Option Value) → Heap → Prop} {YP : World → Heap → Prop} {d : DefRec} {K : Params → PySem.W.Frag} (hn : l.most = some 63) (hdf : d.params.defaults = [])
    (hY : ∀ (w : World) (h : Heap), YP w h → (K w.params).In h)
    (F : ∀ (w : World) (mg : Str → Option Value) (fa : Addr) (h : Heap), (K w.params).In h → h.Ns mainGlobals mg → mg d.name = some (.ref fa) →
      ∃ fd : FuncData, (∀ (s : Shared) (u : Value), BindsTo s fd ⟨[u], []⟩ [("_law_script", u)]) ∧ ∀ base : Heap, (K w.params).In base → base.Ns mainGlobals mg → FnOk l.prog w (K w.params) mg base CX0 5 fa fd ["_law_script"] (spLaw (K w.params))) :
    PySem.W.WalkO q loose XP YP l.row.toRowW d [] (fun f vs => PySem.call f vs) :=
  L2.walk_of (n := 63) (k := 5) (x := "_law_script") (CX := fun _ => CX0) (sp := fun w => spLaw (K w.params)) hn (by decide) hdf ⟨rfl, by decide, by decide⟩ hY F (fun _ _ a ns hl _ hS => ⟨a, ns, rfl, hS, hl, fun _ => rfl⟩) fun _ _ _ _ _ z => z
end T8
-- see NOTE.md
namespace PySem.W.Fast
def tw5608034704291722848 := ()
def tw11333798240539379097 := ()
def tw13440743683927252960 := ()
def tw12820166723333898020 := ()
def tw12322356162764011382 := ()
def tw6520605469389066563 := ()
def tw8625277585393555852 := ()
def tw1329950563052102937 := ()
def tw15323168469253349779 := ()
def tw13106464057006837190 := ()
def tw18357504230648149407 := ()
def tw9489398852870111986 := ()
def tw5250773088309308856 := ()
def tw6426256431763919280 := ()
def tw8914471044359146953 := ()
def tw7547567335403420100 := ()
def tw12856002304894072155 := ()
def tw765042127865983000 := ()
def tw8538225146477860954 := ()
def tw13162108519169262131 := ()
def tw2583269721075693056 := ()
def tw5007020742934603079 := ()
def tw3167933300185975567 := ()
def tw14443223792317196185 := ()
def tw15749263350544721086 := ()
def tw4175830394293551642 := ()
def tw18400194339540622854 := ()
def tw5165428504665159425 := ()
def tw244605898929984295 := ()
def tw15055125232498944447 := ()
def tw14109740205880888011 := ()
def tw18211247931511114278 := ()
def tw11278783487151830501 := ()
def tw15382849446166131897 := ()
def tw10436722830146650692 := ()
def tw14146148935216746389 := ()
def tw11436863991439096000 := ()
def tw4006847533882099995 := ()
end PySem.W.Fast
open PySem PySem.W PyProof.Rows
set_option maxRecDepth 100000 in
set_option maxHeartbeats 0 in
theorem PySem.Challenge.cw_threewebs_k81_texts_judged_holds : PySem.Challenge.rw_threewebs_k81_texts_judged.Holds := by
  w_on; o_law; k_head; (case hw => w_witness2)
  k_fill
  refine T8.walk (l := PySem.Challenge.rw_threewebs_k81_texts_judged) rfl rfl (fun w h Y => PySem.W.kIn_of Y) ?F
  case F =>
    intro w mg fa h KX G hmg
    refine' T8.all_mk KX G hmg ?h1 ?h2 ?h3 ?h4 ?h5 ?h6 ?h7 ?h8 ?h9 ?h10 ?h11 ?h12 ?h13 ?h14 ?h15 ?h0 ?s1 ?s2 ?qc ?zz
    case h1 | h2 | h3 | h4 | h5 | h6 | h7 | h8 | h9 | h10 | h11 | h12 | h13 | h14 | h15 | h0 => refine' L2.df_mk ?a ?l ?c ?k; (case a => k_is); (case l => k_is); (case c => k_is); (case k => k_is)
    case s1 => k_is
    case s2 => k_is
    case qc => kernel_rfl
    case zz =>
      refine' List.forall_mem_cons.mpr ⟨?_, ?_⟩; k_is
      iterate 7 (refine' List.forall_mem_cons.mpr ⟨?_, ?_⟩; k_is)
      exact fun x hx => nomatch hx

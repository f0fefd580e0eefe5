import PyProof.Rows.All
import Wide.All
import OpenK.AllK
import Wide.FinOn
import Lean
import PyProof.EqAt
import PyProof.EqKinds
import PyProof.TupleCall
import KE.KDictLaws
import KE.KDictList
import KE.KDictSum
import KE.KIsAll
import KE.KSortTup
import KE.KUnpack
import KE.KUnpackStar
import PyProof.AttrMissSeq
import PyProof.CallStr
import PyProof.Conv_int_bool
import PyProof.DictItems
import PyProof.DictIter
import PyProof.DictList
import PyProof.EnumFor
import PyProof.EnumMake
import PyProof.EnumStmt
import PyProof.ExcArgsOwn
import PyProof.ExcAttrAll.ValueError
import PyProof.ExcBaseAll.ValueError
import PyProof.NeKinds
import PyProof.NsDelKeeps
import PyProof.Rows.CatchOwn
import PyProof.Rows.CountFlat
import PyProof.Rows.EnumRows
import PyProof.Rows.FStr
import PyProof.Rows.SeqMore
import PyProof.Rows.SortRev
import PyProof.Rows.StrSplitJoin
import PyProof.Rows.StrWeight2
import PyProof.Rows.TupDisplay
import PyProof.RulesTry
import PyProof.SetNew
import PyProof.SetRoads
import PyProof.StationsW
import PyProof.TupleKey
import PyProof.WalkInts
import PyProof.ZipIter
import PySem.Challenge.RW_threewebs_k62_out_and_shrunk_summed
set_option Elab.async false
set_option linter.all false
set_option maxRecDepth 100000
namespace L2
open PySem PySem.Spec PyProof.Rows
noncomputable abbrev Key := Sum Int Str
noncomputable def keyIs : Key → Value → Bool
  | .inl k, v => Value.isInt k v
  | .inr x, v => Value.isStrOf x v
noncomputable def keyH (w : World) : Key → Int
  | .inl k => hashInt k
  | .inr x => hashStr w x
theorem keyIs_shape : ∀ {k : Key} {v : Value}, keyIs k v = true → (∃ i t, k = Sum.inl i ∧ v = Value.int i t) ∨ (∃ x t, k = Sum.inr x ∧ v = Value.str x t)
  | .inl i, v, h => by
    obtain ⟨t, e⟩ := Value.isInt_shape (k := i) (v := v) h
    exact .inl ⟨i, t, rfl, e⟩
  | .inr x, v, h => by
    obtain ⟨t, e⟩ := Value.isStrOf_shape (x := x) (v := v) h
    exact .inr ⟨x, t, rfl, e⟩
theorem keyIs_int (i : Int) (t : Tok) : keyIs (.inl i) (.int i t) = true := by simp [keyIs, Value.isInt]
theorem keyIs_str (x : Str) (t : Tok) : keyIs (.inr x) (.str x t) = true := by simp [keyIs, Value.isStrOf]
theorem key_ll (a b : Int) : decide ((Sum.inl a : Key) = Sum.inl b) = (a == b) := by
  by_cases e : a = b
  · subst e; simp
  · have h : ¬ (Sum.inl a : Key) = Sum.inl b := fun q => e (Sum.inl.inj q)
    rw [decide_eq_false h]
    exact (beq_eq_false_iff_ne.mpr e).symm
theorem key_rr (a b : Str) : decide ((Sum.inr a : Key) = Sum.inr b) = decide (a = b) := by
  by_cases e : a = b
  · subst e; simp
  · have h : ¬ (Sum.inr a : Key) = Sum.inr b := fun q => e (Sum.inr.inj q)
    rw [decide_eq_false h, decide_eq_false e]
theorem key_lr (a : Int) (b : Str) : decide ((Sum.inl a : Key) = Sum.inr b) = false := decide_eq_false (fun q => nomatch q)
theorem key_rl (a : Str) (b : Int) : decide ((Sum.inr a : Key) = Sum.inl b) = false := decide_eq_false (fun q => nomatch q)
noncomputable def mixKind (prog : Program) (w : World) : PySem.KeyKind prog w Key where
  is := keyIs
  hash := keyH w
  inj := fun v a b ha hb => by
    rcases keyIs_shape ha with ⟨i, t, rfl, rfl⟩ | ⟨x, t, rfl, rfl⟩
    · rcases keyIs_shape hb with ⟨j, u, rfl, e⟩ | ⟨y, u, rfl, e⟩
      · injection e with e1 _; rw [e1]
      · exact nomatch e
    · rcases keyIs_shape hb with ⟨j, u, rfl, e⟩ | ⟨y, u, rfl, e⟩
      · exact nomatch e
      · injection e with e1 _; rw [e1]
  byValue := fun k v h => by
    rcases keyIs_shape h with ⟨i, t, rfl, rfl⟩ | ⟨x, t, rfl, rfl⟩ <;> rfl
  pyHash := fun hv h => by
    rcases keyIs_shape hv with ⟨i, t, rfl, rfl⟩ | ⟨x, t, rfl, rfl⟩
    · exact wpAny_pyHash_int h
    · exact wpAny_pyHash_str h
  eqBool := fun hu hv h => by
    rcases keyIs_shape hu with ⟨i, t, rfl, rfl⟩ | ⟨x, t, rfl, rfl⟩
    · rcases keyIs_shape hv with ⟨j, u, rfl, rfl⟩ | ⟨y, u, rfl, rfl⟩
      · rw [key_ll] at h; exact wpAny_eqBool_int h
      · rw [key_lr] at h; exact SeqAt.EqAt.int_str i t y u _ _ _ _ h
    · rcases keyIs_shape hv with ⟨j, u, rfl, rfl⟩ | ⟨y, u, rfl, rfl⟩
      · rw [key_rl] at h; exact SeqAt.EqAt.str_int x t j u _ _ _ _ h
      · rw [key_rr] at h; exact wpAny_eqBool_str h
  «strs» := fun k x t v h => by
    rcases keyIs_shape h with ⟨i, u, rfl, e⟩ | ⟨y, u, rfl, e⟩
    · exact nomatch e
    · injection e with e1 _
      subst e1
      cases v <;> rfl
theorem mixKind_int (prog : Program) (w : World) (i : Int) (t : Tok) : (mixKind prog w).is (.inl i) (.int i t) = true := keyIs_int i t
theorem mixKind_str (prog : Program) (w : World) (x : Str) (t : Tok) : (mixKind prog w).is (.inr x) (.str x t) = true := keyIs_str x t
end L2
namespace L2
open PySem PySem.Spec PyProof.Rows
inductive V where
  | non | bl (b : Bool) | int (i : Int) | str (x : Str) | byt (b : Array UInt8) | flt (b : UInt64) | ref (a : Addr) | ty (n : String)
  deriving DecidableEq
noncomputable def RelV : V → Value → Prop
  | .non, u => u = Value.none
  | .bl b, u => u = Value.bool b
  | .int i, u => ∃ t, u = Value.int i t
  | .str x, u => ∃ t, u = Value.str x t
  | .byt b, u => ∃ t, u = Value.bytes b t
  | .flt b, u => ∃ t, u = Value.float b t
  | .ref a, u => u = Value.ref a
  | .ty n, u => u = Value.type n
noncomputable abbrev Vals : List V → List Value → Prop := Paired RelV
theorem Vals.length {xs : List V} {us : List Value} (r : Vals xs us) : xs.length = us.length := Paired.length r
theorem Vals.get : ∀ {xs : List V} {us : List Value} {i : Nat} {x : V}, Vals xs us → xs[i]? = some x → ∃ u, us[i]? = some u ∧ RelV x u
  | _, _, _, _, .nil, e => by simp at e
  | _, _, 0, _, .cons r _, e => by simp at e; subst e; exact ⟨_, rfl, r⟩
  | _, _, i + 1, x, .cons _ t, e => by
    obtain ⟨u, h1, h2⟩ := Vals.get (i := i) (x := x) t (by simpa using e)
    exact ⟨u, by simpa using h1, h2⟩
theorem Vals.set {x : V} {u : Value} (r : RelV x u) : ∀ {xs : List V} {us : List Value} (i : Nat), Vals xs us → Vals (xs.set i x) (us.set i u)
  | _, _, _, .nil => .nil
  | _, _, 0, .cons _ t => .cons r t
  | _, _, i + 1, .cons q t => .cons q (Vals.set r i t)
theorem Vals.append : ∀ {xs ys : List V} {us ws : List Value}, Vals xs us → Vals ys ws → Vals (xs ++ ys) (us ++ ws)
  | _, _, _, _, .nil, s => s
  | _, _, _, _, .cons r t, s => .cons r (Vals.append t s)
theorem Vals.take : ∀ {xs : List V} {us : List Value} (n : Nat), Vals xs us → Vals (xs.take n) (us.take n)
  | _, _, 0, _ => .nil
  | _, _, _ + 1, .nil => .nil
  | _, _, n + 1, .cons r t => .cons r (Vals.take n t)
theorem Vals.drop : ∀ {xs : List V} {us : List Value} (n : Nat), Vals xs us → Vals (xs.drop n) (us.drop n)
  | _, _, 0, r => r
  | _, _, _ + 1, .nil => .nil
  | _, _, n + 1, .cons _ t => Vals.drop n t
noncomputable def RelO : Option V → Option Value → Prop
  | some v, some u => RelV v u
  | none, none => True
  | _, _ => False
noncomputable def KV {κ : Type} : List (κ × V) → List (κ × Value) → Prop := Paired fun (p : κ × V) (q : κ × Value) => p.1 = q.1 ∧ RelV p.2 q.2
noncomputable def kV : Key → V
  | .inl i => .int i
  | .inr x => .str x
inductive HO where
  | lst (xs : List V)
  | tup (xs : List V)
  | dK (kvs : List (Key × V)) | dT (kvs : List (List Key × V))
  | set (S : Int → Bool) (n : Nat)
  | ins (C dx : Addr) (fs : List (Str × V))
  | own (x : Addr)
  | xd (fs : List (Str × V))
  | met (f x : Addr)
  | rng (lo hi : Int)
  | frz (o : Obj) (u : HO)
  | tbl (ps : Array Value)
  | ext (φ : Heap → Prop)
noncomputable abbrev Hp := Addr → Option HO
noncomputable def upd (H : Hp) (a : Addr) (o : HO) : Hp := fun b => if b = a then some o else H b
theorem upd_same {H : Hp} {a : Addr} {o : HO} : upd H a o a = some o := by unfold upd; rw [if_pos rfl]
theorem upd_ne {H : Hp} {a b : Addr} {o : HO} (h : b ≠ a) : upd H a o b = H b := by unfold upd; rw [if_neg h]
theorem upd_upd {H : Hp} {a : Addr} {o u : HO} : upd (upd H a o) a u = upd H a u := by
  funext b; unfold upd; split <;> rfl
theorem ne_of {H : Hp} {a b : Addr} {o u : HO} (h : H a = some o) (h' : H b = some u) (d : o ≠ u) : a ≠ b := by
  intro e; subst e; rw [h] at h'; exact d (Option.some.inj h')
theorem ne_of_none {H : Hp} {a b : Addr} {o : HO} (h : H a = some o) (h' : H b = none) : a ≠ b := by
  intro e; subst e; rw [h] at h'; cases h'
section
variable (P : Program) (w : World)
noncomputable def ObjOk (H : Hp) (h : Heap) (a : Addr) : HO → Prop
  | .lst xs => xs.length ≤ sizeLine ∧ ∃ (its : List Value) (n : Nat), Vals xs its ∧ h.get? a = some { cls := .type "list", data := .seq its.toArray n }
  | .tup xs => xs.length ≤ sizeLine ∧ ∃ its : List Value, Vals xs its ∧ IsTup h a its.toArray
  | .dK kvs => kvs.length ≤ sizeLine ∧ (a == sysModules) = false ∧ ∃ vs, KV kvs vs ∧ h.DictOf (mixKind P w) a vs
  | .dT kvs => kvs.length ≤ sizeLine ∧ (a == sysModules) = false ∧ ∃ xs : List (List Key × Addr × Value),
      Paired (fun (p : List Key × V) (q : List Key × Addr × Value) => p.1 = q.1 ∧ H q.2.1 = some (.tup (p.1.map kV)) ∧ RelV p.2 q.2.2) kvs xs ∧
      ∃ o es ep, h.get? a = some o ∧ o.ExactDict ∧ o.data = .dict es ep ∧ es.toList = xs.map (entryOfKey (tupleKind (mixKind P w))) ∧ (xs.map (·.1)).Nodup
  | .set S n => h.SetOf (intKind P w) a S n
  | .ins C dx fs => H dx = some (.own a) ∧ fs.length ≤ 1000 ∧ dx ≠ a ∧ h.get? a = some (PySem.W.instObj C dx) ∧
      ∃ mA, h.Ns1 dx mA ∧ (∀ f, RelO (fs.lookup f) (mA f)) ∧ PySem.Within mA (fs.map (·.1))
  | .own _ => ∃ o, h.get? a = some o
  | .xd fs => ∃ mA, h.Ns1 a mA ∧ ∀ f, RelO (fs.lookup f) (mA f)
  | .rng lo hi => ∃ t u v, h.get? a = some { cls := .type "range", data := .fields #[.int lo t, .int hi u, .int 1 v] }
  | .frz o u => h.get? a = some o ∧ ObjOk H h a u
  | .tbl ps => h.get? a = some { cls := .none, data := .fields ps }
  | .met f x => h.get? a = some (PySem.W.methodObj (.ref f) (.ref x))
  | .ext φ => φ h ∧ (∃ o, h.get? a = some o) ∧ ∀ h1 h2 : Heap, φ h1 → (∀ o, h1.get? a = some o → h2.get? a = some o) → φ h2
noncomputable def HOk (H : Hp) (h : Heap) : Prop := ∀ a o, H a = some o → ObjOk P w H h a o
end
section
variable {P : Program} {w : World} {H H' : Hp} {h h' : Heap} {a : Addr} {o : HO}
theorem ObjOk.lt (x : ObjOk P w H h a o) : a < h.objs.size := by
  cases o with
  | lst xs => obtain ⟨_, _, _, _, e⟩ := x; exact Heap.lt_size e
  | tup xs => obtain ⟨_, _, _, p⟩ := x; exact p.lt
  | dK kvs => obtain ⟨_, _, _, _, o, _, _, e, _⟩ := x; exact Heap.lt_size e
  | dT kvs => obtain ⟨_, _, _, _, o, _, _, e, _⟩ := x; exact Heap.lt_size e
  | set S n => obtain ⟨o, _, _, _, e, _⟩ := x; exact Heap.lt_size e
  | ins C dx fs => obtain ⟨_, _, _, e, _⟩ := x; exact Heap.lt_size e
  | own y => obtain ⟨_, e⟩ := x; exact Heap.lt_size e
  | xd fs => obtain ⟨_, ⟨_, _, _, e, _⟩, _⟩ := x; exact Heap.lt_size e
  | rng lo hi => obtain ⟨_, _, _, e⟩ := x; exact Heap.lt_size e
  | frz ob u => obtain ⟨e, _⟩ := x; exact Heap.lt_size e
  | tbl ps => exact Heap.lt_size (show h.get? a = some _ from x)
  | met f y => exact Heap.lt_size (show h.get? a = some _ from x)
  | ext φ => obtain ⟨_, ⟨_, e⟩, _⟩ := x; exact Heap.lt_size e
theorem Paired.mapP {α β : Type} {F G : α → β → Prop} : ∀ {l₁ : List α} {l₂ : List β}, Paired F l₁ l₂ → (∀ a b, F a b → G a b) → Paired G l₁ l₂
  | _, _, .nil, _ => .nil
  | _, _, .cons r t, f => .cons (f _ _ r) (Paired.mapP t f)
theorem ObjOk.stay (x : ObjOk P w H h a o) (k : ∀ b u, (b = a ∨ H b = some (.own a)) → h.get? b = some u → h'.get? b = some u)
    (ho : ∀ b, H b = some (.own a) → H' b = some (.own a)) (ht : ∀ b xs, H b = some (.tup xs) → H' b = some (.tup xs)) : ObjOk P w H' h' a o := by
  induction o with
  | lst xs => obtain ⟨z, its, n, r, e⟩ := x; exact ⟨z, its, n, r, k _ _ (.inl rfl) e⟩
  | tup xs => obtain ⟨z, its, r, ob, e, c⟩ := x; exact ⟨z, its, r, ob, k _ _ (.inl rfl) e, c⟩
  | dK kvs => obtain ⟨z, y, vs, r, ob, es, ep, e, c⟩ := x; exact ⟨z, y, vs, r, ob, es, ep, k _ _ (.inl rfl) e, c⟩
  | dT kvs =>
    obtain ⟨z, y, xs, r, ob, es, ep, e, c⟩ := x
    exact ⟨z, y, xs, Paired.mapP r fun p q z => ⟨z.1, ht _ _ z.2.1, z.2.2⟩, ob, es, ep, k _ _ (.inl rfl) e, c⟩
  | set S n => obtain ⟨ob, es, ep, t, e, c⟩ := x; exact ⟨ob, es, ep, t, k _ _ (.inl rfl) e, c⟩
  | ins C dx fs =>
    obtain ⟨d, z, ne, e, mA, ⟨od, es, ep, e2, c⟩, r⟩ := x
    exact ⟨ho _ d, z, ne, k _ _ (.inl rfl) e, mA, ⟨od, es, ep, k _ _ (.inr d) e2, c⟩, r⟩
  | own y => obtain ⟨ob, e⟩ := x; exact ⟨ob, k _ _ (.inl rfl) e⟩
  | xd fs => obtain ⟨mA, ⟨od, es, ep, e, c⟩, r⟩ := x; exact ⟨mA, ⟨od, es, ep, k _ _ (.inl rfl) e, c⟩, r⟩
  | rng lo hi => obtain ⟨t, u, v, e⟩ := x; exact ⟨t, u, v, k _ _ (.inl rfl) e⟩
  | frz ob u ih => obtain ⟨e, q⟩ := x; exact ⟨k _ _ (.inl rfl) e, ih q⟩
  | tbl ps =>
    have e : h.get? a = some { cls := .none, data := .fields ps } := x
    show h'.get? a = some { cls := .none, data := .fields ps }
    exact k a _ (.inl rfl) e
  | met f y =>
    have e : h.get? a = some (PySem.W.methodObj (.ref f) (.ref y)) := x
    show h'.get? a = some (PySem.W.methodObj (.ref f) (.ref y))
    exact k a _ (.inl rfl) e
  | ext φ => obtain ⟨p, ⟨o, e⟩, st⟩ := x; exact ⟨st _ _ p fun o q => k _ _ (.inl rfl) q, ⟨o, k _ _ (.inl rfl) e⟩, st⟩
theorem HOk.lt (x : HOk P w H h) (e : H a = some o) : a < h.objs.size := (x a o e).lt
theorem HOk.fresh (x : HOk P w H h) (e : h.objs.size ≤ a) : H a = none := by
  cases q : H a with
  | none => rfl
  | some u => exact absurd (Nat.lt_of_lt_of_le (x.lt q) e) (Nat.lt_irrefl _)
theorem HOk.kept (x : HOk P w H h) (k : ∀ b u, h.get? b = some u → h'.get? b = some u) : HOk P w H h' := fun a o e =>
  (x a o e).stay (fun b u _ q => k b u q) (fun _ q => q) fun _ _ q => q
theorem HOk.laid (x : HOk P w H h) (k : ∀ b u, h.get? b = some u → h'.get? b = some u) (hp : h.objs.size ≤ a) (new : ObjOk P w (upd H a o) h' a o) : HOk P w (upd H a o) h' := fun b u e => by
  have hn := x.fresh hp
  by_cases hb : b = a
  · subst hb; rw [upd_same] at e; cases e; exact new
  · rw [upd_ne hb] at e
    exact (x b u e).stay (fun c v _ q => k c v q) (fun c q => by rw [upd_ne (ne_of_none q hn)]; exact q) fun c xs q => by rw [upd_ne (ne_of_none q hn)]; exact q
end
noncomputable def Rd (H : Hp) (a : Addr) (u : HO) : Prop := H a = some u ∨ ∃ o, H a = some (.frz o u)
theorem Rd.ok {P : Program} {w : World} {H : Hp} {h : Heap} {a : Addr} {u : HO} (r : Rd H a u) (x : HOk P w H h) : ObjOk P w H h a u := by
  rcases r with r | ⟨o, r⟩
  · exact x a u r
  · obtain ⟨_, q⟩ := x a _ r
    exact q
noncomputable def Mut : Option HO → Prop
  | some (.lst _) => True
  | some (.dK _) => True
  | some (.dT _) => True
  | some (.set _ _) => True
  | some (.ins _ _ _) => True
  | some (.ext _) => True
  | _ => False
section
variable {P : Program} {w : World} {H : Hp} {h h' : Heap} {x e : Addr} {o' : HO}
theorem HOk.write (ok : HOk P w H h) (mu : Mut (H x)) (he : e = x ∨ H e = some (.own x)) (k : ∀ b u, b ≠ e → h.get? b = some u → h'.get? b = some u) (heo : ∃ u, h'.get? e = some u)
    (new : ObjOk P w (upd H x o') h' x o') : HOk P w (upd H x o') h' := fun b u q => by
  have nown : ∀ c y, H c = some (.own y) → c ≠ x := fun c y r z => by subst z; rw [r] at mu; exact mu
  have ntup : ∀ c xs, H c = some (.tup xs) → c ≠ x := fun c xs r z => by subst z; rw [r] at mu; exact mu
  by_cases hb : b = x
  · subst hb; rw [upd_same] at q; cases q; exact new
  · rw [upd_ne hb] at q
    by_cases hbe : b = e
    · have q' : H b = some (.own x) := by
        rcases he with z | z
        · exact absurd (hbe.trans z) hb
        · rw [hbe]; exact z
      rw [q] at q'; cases q'
      obtain ⟨v, hv⟩ := heo
      exact ⟨v, by rw [hbe]; exact hv⟩
    · refine (ok b u q).stay (fun c v hc r => k c v ?_ r) (fun c r => by rw [upd_ne (nown c b r)]; exact r) fun c xs r => by rw [upd_ne (ntup c xs r)]; exact r
      rcases hc with rfl | hc
      · exact hbe
      · rintro rfl
        rcases he with z | z
        · exact nown c b hc z
        · rw [hc] at z; cases z; exact hb rfl
end
structure Un (fs ex : List Addr) (H H' : Hp) (h h' : Heap) : Prop where
  keep : ∀ b o, h.get? b = some o → H b = none → b ∉ fs → b ∉ ex → h'.get? b = some o
  slot : ∀ b o, h.get? b = some o → H b = none → b ∈ fs → b ∉ ex → ∃ sl, h'.get? b = some { o with slots := sl }
  free : ∀ b o, h.get? b = some o → H b = none → b ∉ ex → H' b = none
  there : ∀ b o, h.get? b = some o → b ∉ ex → ∃ o', h'.get? b = some o'
  tups : ∀ b xs, H b = some (.tup xs) → H' b = some (.tup xs)
  frzs : ∀ b o u, H b = some (.frz o u) → H' b = some (.frz o u)
  tbls : ∀ b ps, H b = some (.tbl ps) → ∃ more, H' b = some (.tbl (ps ++ more))
section
variable {fs fs' ex ex' : List Addr} {H H1 H2 : Hp} {h h1 h2 h' : Heap} {a x e : Addr} {o : HO}
theorem Un.any (u : Un fs ex H H1 h h1) {b : Addr} {ob : Obj} (q : h.get? b = some ob) (n : H b = none) (hx : b ∉ ex) : ∃ sl, h1.get? b = some { ob with slots := sl } := by
  by_cases hb : b ∈ fs
  · exact u.slot b ob q n hb hx
  · exact ⟨ob.slots, u.keep b ob q n hb hx⟩
theorem Un.kept (k : ∀ b u, h.get? b = some u → h'.get? b = some u) : Un fs ex H H h h' :=
  ⟨fun b ob q _ _ _ => k b ob q, fun b ob q _ _ _ => ⟨ob.slots, k b ob q⟩, fun _ _ _ n _ => n, fun b ob q _ => ⟨ob, k b ob q⟩, fun _ _ q => q, fun _ _ _ q => q, fun _ ps q => ⟨#[], by rw [q]; simp⟩⟩
theorem Un.refl : Un fs ex H H h h := Un.kept fun _ _ q => q
theorem Un.laid (k : ∀ b u, h.get? b = some u → h'.get? b = some u) (hp : h.objs.size ≤ a) (hn : H a = none) : Un fs ex H (upd H a o) h h' where
  keep := fun b u q _ _ _ => k b u q
  slot := fun b u q _ _ _ => ⟨u.slots, k b u q⟩
  free := fun b u q n _ => by rw [upd_ne (Nat.ne_of_lt (Nat.lt_of_lt_of_le (Heap.lt_size q) hp))]; exact n
  there := fun b u q _ => ⟨u, k b u q⟩
  tups := fun b xs q => by rw [upd_ne (ne_of_none q hn)]; exact q
  frzs := fun b u xs q => by rw [upd_ne (ne_of_none q hn)]; exact q
  tbls := fun b ps q => ⟨#[], by rw [upd_ne (ne_of_none q hn), q]; simp⟩
theorem Un.write (mu : Mut (H x)) (he : e = x ∨ H e = some (.own x)) (k : ∀ b u, b ≠ e → h.get? b = some u → h'.get? b = some u) (heo : ∃ u, h'.get? e = some u) : Un fs ex H (upd H x o) h h' := by
  have hx : ∀ b, H b = none → b ≠ x := fun b n z => by subst z; rw [n] at mu; exact mu
  have hb : ∀ b, H b = none → b ≠ e := fun b n z => by
    subst z
    rcases he with r | r
    · exact hx b n r
    · rw [n] at r; cases r
  have hm : ∀ b u, H b = some u → ¬ Mut (some u) → b ≠ x := fun b u q nm z => by subst z; rw [q] at mu; exact nm mu
  refine ⟨fun b u q n _ _ => k b u (hb b n) q, fun b u q n _ _ => ⟨u.slots, k b u (hb b n) q⟩, fun b u q n _ => by rw [upd_ne (hx b n)]; exact n, fun b u q _ => ?_,
    fun b xs q => by rw [upd_ne (hm b _ q fun z => z)]; exact q, fun b u xs q => by rw [upd_ne (hm b _ q fun z => z)]; exact q, fun b ps q => ⟨#[], by rw [upd_ne (hm b _ q fun z => z), q]; simp⟩⟩
  by_cases hbe : b = e
  · subst hbe; exact heo
  · exact ⟨u, k b u hbe q⟩
end
noncomputable def trk (h : Heap) (H : Hp) : List Addr := (List.range h.objs.size).filter fun a => (H a).isSome
noncomputable def hidT (h : Heap) (H : Hp) : Heap := PySem.W.hideAll h (trk h H)
theorem hidT_size (h : Heap) (H : Hp) : (hidT h H).objs.size = h.objs.size := PySem.W.hideAll_size _ _
theorem hidT_get {h : Heap} {H : Hp} {b : Addr} {o : Obj} (e : h.get? b = some o) (n : H b = none) : (hidT h H).get? b = some o :=
  PySem.W.hideAll_get _ e fun hm => by
    have q : (H b).isSome = true := (List.mem_filter.mp hm).2
    rw [n] at q; simp at q
theorem of_hidT {h : Heap} {H : Hp} {b : Addr} {o : Obj} (e : (hidT h H).get? b = some o) : h.get? b = some o ∧ H b = none := by
  have e' : h.get? b = some o := PySem.W.of_hideAll (trk h H) e
  refine ⟨e', ?_⟩
  cases q : H b with
  | none => rfl
  | some x =>
    have hm : b ∈ trk h H := List.mem_filter.mpr ⟨List.mem_range.mpr (Heap.lt_size e'), by simp [q]⟩
    have z : (hidT h H).get? b = none := PySem.W.hideAll_none (trk h H) hm
    rw [z] at e; cases e
end L2
namespace L2
open PySem PySem.Spec PyProof.Rows
structure Mod (K : PySem.W.Frag) (mg : Str → Option Value) (base : Heap) : Prop where
  kin : K.In base
  glob : base.Ns mainGlobals mg
  blt : ∃ mb, base.Ns builtinsNs mb ∧ ∀ x : Str, x ≠ "__name__" → mb x = bootBuiltins x
  nolimit : base.NoLimit
structure Cx where
  prog : Program
  w : World
  K : PySem.W.Frag
  mg : Str → Option Value
  base : Heap
  A : Around
  N : List Str
  s₀ : Shared
  H₀ : Hp
  env : Env
  outer : List Env
  stack : List Env
  ex : List Addr
  fn : Str → Bool
  calm : Bool
  pn : List (Addr × Obj)
  xe : Value → Shared → Prop
noncomputable def frs (l : List Env) : List Addr := l.filterMap (·.frame)
noncomputable abbrev Cx.fs (X : Cx) : List Addr := frs X.outer
noncomputable def Vis (sc : Scope) (x : Str) : Prop := sc.names.lookup x = some .local ∨ sc.names.lookup x = some .cell ∨ sc.names.lookup x = some .free
noncomputable def Loc (sc : Scope) (x : Str) : Prop := sc.names.lookup x = some .local ∨ sc.names.lookup x = some .cell
noncomputable def Look (env : Env) (h : Heap) (m : Str → Option Value) (x : Str) (u : Value) : Prop :=
  (env.kindOf x = some .local ∧ m x = some u) ∨ ((env.kindOf x = some .cell ∨ env.kindOf x = some .free) ∧ ∃ c, env.cells.lookup x = some c ∧ h.IsCell c (some u))
structure Cx.Ok (X : Cx) : Prop where
  mod : Mod X.K X.mg X.base
  kind : X.env.scope.kind = .function
  glob : X.env.globals = mainGlobals
  blt : X.env.builtins = builtinsNs
  above : X.s₀.heap.objs.size ≤ X.env.locals
  inj : ∀ x y c, X.env.cells.lookup x = some c → X.env.cells.lookup y = some c → x = y
  has : ∀ x, (X.env.kindOf x = some .cell ∨ X.env.kindOf x = some .free) → ∃ c, X.env.cells.lookup x = some c
  cab : ∀ x c, X.fn x = true → X.env.cells.lookup x = some c → X.s₀.heap.objs.size ≤ c
  hd : X.calm = true → X.A.handled = none
  frames : X.A.frames = some X.stack
  stk : X.stack = X.outer ∨ (X.stack = X.env :: X.outer ∧ X.env.frame = some X.env.locals)
  exf : ∀ b ∈ X.ex, b ≠ X.env.locals ∧ ∀ x c, X.env.cells.lookup x = some c → c ≠ b
  bs : ∀ b o, X.base.get? b = some o → X.s₀.heap.get? b = some o ∧ X.H₀ b = none
  bsz : X.base.objs.size ≤ X.s₀.heap.objs.size
  noex : ∀ b o, X.base.get? b = some o → b ∉ X.ex
  exfs : ∀ b ∈ X.ex, b ∉ X.fs
  funs : X.s₀.heap.FunFrames X.base X.outer
  frf : ∀ b ∈ X.fs, X.H₀ b = none
structure Inv (X : Cx) (pins : List (Addr × Obj)) (σ : List (Option V)) (H : Hp) (s : Shared) : Prop where
  ok : X.Ok
  os : s.os = X.s₀.os
  bare : AllBare s.gens
  base : Un X.fs X.ex X.H₀ H X.s₀.heap s.heap
  loc : ∃ m, s.heap.Ns X.env.locals m ∧ ∀ (i : Nat) (x : Str) (v : V), X.N[i]? = some x → σ[i]? = some (some v) → Vis X.env.scope x → ∃ u, RelV v u ∧ Look X.env s.heap m x u
  cell : ∀ x c, X.env.cells.lookup x = some c → ∃ v, s.heap.IsCell c v
  free : H X.env.locals = none
  freeC : ∀ x c, X.env.cells.lookup x = some c → H c = none
  pin : ∀ p ∈ X.pn ++ pins, s.heap.get? p.1 = some p.2 ∧ H p.1 = none ∧ p.1 ≠ X.env.locals ∧ p.1 ∉ X.fs ∧ ∀ v, p.2.data ≠ .cell v
  hok : HOk X.prog X.w H s.heap
  len : σ.length = X.N.length
section
variable {X : Cx} {pins : List (Addr × Obj)} {σ : List (Option V)} {H H' : Hp} {s : Shared} {h' : Heap}
theorem Cx.Ok.nofr (ok : X.Ok) {b : Addr} {o : Obj} (e : X.base.get? b = some o) : b ∉ X.fs := fun hb => by
  have := (ok.funs.mem hb).1
  rw [e] at this; cases this
theorem Inv.bs (I : Inv X pins σ H s) : ∀ b o, X.base.get? b = some o → s.heap.get? b = some o ∧ H b = none := fun b o e =>
  ⟨I.base.keep b o (I.ok.bs b o e).1 (I.ok.bs b o e).2 (I.ok.nofr e) (I.ok.noex b o e), I.base.free b o (I.ok.bs b o e).1 (I.ok.bs b o e).2 (I.ok.noex b o e)⟩
theorem Inv.bk (I : Inv X pins σ H s) : ∀ b o, X.base.get? b = some o → s.heap.get? b = some o := fun b o e => (I.bs b o e).1
theorem Inv.mod (I : Inv X pins σ H s) : Mod X.K X.mg X.base := I.ok.mod
theorem Inv.kIn (I : Inv X pins σ H s) : X.K.In s.heap := I.ok.mod.kin.keeps I.bk
theorem Inv.lt (I : Inv X pins σ H s) : X.env.locals < s.heap.objs.size := let ⟨_, hn, _⟩ := I.loc; hn.lt
theorem Inv.sz (I : Inv X pins σ H s) : X.s₀.heap.objs.size ≤ s.heap.objs.size := Nat.le_trans I.ok.above (Nat.le_of_lt I.lt)
theorem Inv.nofs (I : Inv X pins σ H s) {a : Addr} (h : s.heap.objs.size ≤ a) : a ∉ X.fs := fun hb => by
  obtain ⟨_, o, ho, _⟩ := I.ok.funs.mem hb
  exact absurd (Nat.lt_of_lt_of_le (Heap.lt_size ho) (Nat.le_trans I.sz h)) (Nat.lt_irrefl _)
theorem Inv.cne (I : Inv X pins σ H s) : ∀ x c, X.env.cells.lookup x = some c → c ≠ X.env.locals := fun x c e z => by
  obtain ⟨v, o, ho, hd⟩ := I.cell x c e
  obtain ⟨m, ⟨o', es, ep, ho', hd', _⟩, _⟩ := I.loc
  rw [z, ho'] at ho; cases ho; rw [hd'] at hd; cases hd
theorem Inv.funs (I : Inv X pins σ H s) : s.heap.FunFrames X.base X.outer := by
  have all : ∀ (l : List Env), (∀ b ∈ frs l, b ∈ X.fs) → X.s₀.heap.FunFrames X.base l → s.heap.FunFrames X.base l := by
    intro l
    induction l with
    | nil => intro _ _; trivial
    | cons env r ih =>
      intro hs hl
      obtain ⟨hk, ⟨L, o, hf, hn, ho, hd⟩, hr⟩ := hl
      have hL : L ∈ X.fs := hs L (by unfold frs; rw [List.filterMap_cons, hf]; exact List.mem_cons_self)
      obtain ⟨sl, e⟩ := I.base.slot L o ho (I.ok.frf L hL) hL fun z => I.ok.exfs L z hL
      exact ⟨hk, ⟨L, _, hf, hn, e, hd⟩, ih (fun b hb => hs b (by unfold frs; rw [List.filterMap_cons, hf]; exact List.mem_cons_of_mem _ hb)) hr⟩
  exact all X.outer (fun _ hb => hb) I.ok.funs
theorem Inv.stack (I : Inv X pins σ H s) : s.heap.FunFrames X.base X.stack := by
  rcases I.ok.stk with e | ⟨e, hf⟩
  · rw [e]; exact I.funs
  · rw [e]
    obtain ⟨m, hn, _⟩ := I.loc
    refine .cons (by rw [I.ok.kind]; decide) hf hn ?_ I.funs
    exact Heap.get?_none_of_le (Nat.le_trans I.ok.bsz I.ok.above)
theorem Inv.stkSub (I : Inv X pins σ H s) : ∀ b ∈ frs X.stack, b ∈ X.env.locals :: X.fs := fun b hb => by
  rcases I.ok.stk with e | ⟨e, hf⟩
  · rw [e] at hb; exact List.mem_cons_of_mem _ hb
  · rw [e] at hb
    unfold frs at hb
    rw [List.filterMap_cons, hf] at hb
    exact hb
theorem Inv.stkFree (I : Inv X pins σ H s) : ∀ b ∈ frs X.stack, H b = none := fun b hb => by
  rcases List.mem_cons.mp (I.stkSub b hb) with e | hb
  · rw [e]; exact I.free
  · obtain ⟨_, o, ho, _⟩ := I.ok.funs.mem hb
    exact I.base.free b o ho (I.ok.frf b hb) fun z => I.ok.exfs b z hb
theorem Inv.step {g' : Array GenState} {t' : Nat} {d' : Drawn} {ch : List Addr} (I : Inv X pins σ H s)
    (hch : ∀ b ∈ ch, (b ∈ X.ex ∨ X.s₀.heap.objs.size ≤ b) ∧ b ≠ X.env.locals ∧ (∀ x c, X.env.cells.lookup x = some c → c ≠ b) ∧ ∀ p ∈ X.pn ++ pins, p.1 ≠ b)
    (keep : ∀ b o, b ≠ X.env.locals → b ∉ X.fs → b ∉ ch → s.heap.get? b = some o → H b = none → h'.get? b = some o)
    (slot : ∀ b o, b ≠ X.env.locals → b ∈ X.fs → b ∉ ch → s.heap.get? b = some o → H b = none → ∃ sl, h'.get? b = some { o with slots := sl }) (free : ∀ b o, b ∉ ch → s.heap.get? b = some o → H b = none → H' b = none)
    (there : ∀ b o, b ∉ ch → s.heap.get? b = some o → ∃ o', h'.get? b = some o')
    (tups : ∀ b xs, H b = some (.tup xs) → H' b = some (.tup xs)) (frzs : ∀ b o u, H b = some (.frz o u) → H' b = some (.frz o u)) (tbls : ∀ b ps, H b = some (.tbl ps) → ∃ more, H' b = some (.tbl (ps ++ more)))
    (ns : ∀ m, s.heap.Ns X.env.locals m → h'.Ns X.env.locals m) (hok : HOk X.prog X.w H' h') (hg : AllBare g') :
    Inv X pins σ H' { s with heap := h', gens := g', drawn := d', toks := t' } := by
  have neL : ∀ b o, X.s₀.heap.get? b = some o → b ≠ X.env.locals := fun b o e => Nat.ne_of_lt (Nat.lt_of_lt_of_le (Heap.lt_size e) I.ok.above)
  have neC : ∀ b o, X.s₀.heap.get? b = some o → b ∉ X.ex → b ∉ ch := fun b o e hx hb => by
    rcases (hch b hb).1 with z | z
    · exact hx z
    · exact absurd (Nat.lt_of_lt_of_le (Heap.lt_size e) z) (Nat.lt_irrefl _)
  have cellK : ∀ x c, X.env.cells.lookup x = some c → ∀ v, s.heap.IsCell c v → h'.IsCell c v := fun x c e v ⟨o, ho, hd⟩ => by
    have nch : c ∉ ch := fun z => (hch c z).2.2.1 x c e rfl
    by_cases hc : c ∈ X.fs
    · obtain ⟨sl, q⟩ := slot c o (I.cne x c e) hc nch ho (I.freeC x c e)
      exact ⟨_, q, hd⟩
    · exact ⟨o, keep c o (I.cne x c e) hc nch ho (I.freeC x c e), hd⟩
  refine ⟨I.ok, I.os, hg, ⟨fun b o e n hb hx => ?_, fun b o e n hb hx => ?_, fun b o e n hx => ?_, fun b o e hx => ?_, fun b xs e => tups b xs (I.base.tups b xs e), fun b o xs e => frzs b o xs (I.base.frzs b o xs e), fun b ps e => ?_⟩, ?_, fun x c e => ?_, ?_, fun x c e => ?_, fun p hp => ?_, hok, I.len⟩
  · exact keep b o (neL b o e) hb (neC b o e hx) (I.base.keep b o e n hb hx) (I.base.free b o e n hx)
  · obtain ⟨sl, e1⟩ := I.base.slot b o e n hb hx
    obtain ⟨sl', e2⟩ := slot b _ (neL b o e) hb (neC b o e hx) e1 (I.base.free b o e n hx)
    exact ⟨sl', e2⟩
  · obtain ⟨o', e1⟩ := I.base.there b o e hx
    exact free b o' (neC b o e hx) e1 (I.base.free b o e n hx)
  · obtain ⟨o', e1⟩ := I.base.there b o e hx
    exact there b o' (neC b o e hx) e1
  · obtain ⟨m1, e1⟩ := I.base.tbls b ps e
    obtain ⟨m2, e2⟩ := tbls b _ e1
    exact ⟨m1 ++ m2, by rw [e2, Array.append_assoc]⟩
  · obtain ⟨m, hn, hl⟩ := I.loc
    refine ⟨m, ns m hn, fun i x v e1 e2 e3 => ?_⟩
    obtain ⟨u, r, l⟩ := hl i x v e1 e2 e3
    refine ⟨u, r, ?_⟩
    rcases l with l | ⟨k, c, e, z⟩
    · exact .inl l
    · exact .inr ⟨k, c, e, cellK x c e _ z⟩
  · obtain ⟨v, z⟩ := I.cell x c e
    exact ⟨v, cellK x c e v z⟩
  · obtain ⟨m, ⟨o, _, _, ho, _⟩, _⟩ := I.loc
    exact free _ o (fun z => (hch _ z).2.1 rfl) ho I.free
  · obtain ⟨v, o, ho, hd⟩ := I.cell x c e
    exact free c o (fun z => (hch c z).2.2.1 x c e rfl) ho (I.freeC x c e)
  · obtain ⟨e, n, ne, nf, d⟩ := I.pin p hp
    have nch : p.1 ∉ ch := fun z => (hch p.1 z).2.2.2 p hp rfl
    exact ⟨keep p.1 p.2 ne nf nch e n, free p.1 p.2 nch e n, ne, nf, d⟩
theorem Inv.un {t' : Nat} (I : Inv X pins σ H s) (u : Un X.fs [] H H' s.heap h') (hok : HOk X.prog X.w H' h') : Inv X pins σ H' { s with heap := h', toks := t' } := by
  obtain ⟨m, ⟨o, es, ep, ho, r⟩, _⟩ := id I.loc
  obtain ⟨sl, hL⟩ := u.any ho I.free (by simp)
  exact I.step (g' := s.gens) (d' := s.drawn) (ch := []) (fun _ z => nomatch z) (fun b o _ hb _ e n => u.keep b o e n hb (by simp)) (fun b o _ hb _ e n => u.slot b o e n hb (by simp)) (fun b o _ e n => u.free b o e n (by simp)) (fun b o _ e => u.there b o e (by simp)) u.tups u.frzs u.tbls (fun m' hm => by
    obtain ⟨o', es', ep', ho', r'⟩ := hm
    rw [ho] at ho'; cases ho'
    exact ⟨_, es', ep', hL, r'⟩) hok I.bare
theorem Inv.call {g' : Array GenState} {t' : Nat} {d' : Drawn} {ch : List Addr} (I : Inv X pins σ H s) (u : Un (frs X.stack) ch H H' s.heap h') (hok : HOk X.prog X.w H' h') (hg : AllBare g')
    (hch : ∀ b ∈ ch, (b ∈ X.ex ∨ X.s₀.heap.objs.size ≤ b) ∧ b ≠ X.env.locals ∧ (∀ x c, X.env.cells.lookup x = some c → c ≠ b) ∧ ∀ p ∈ X.pn ++ pins, p.1 ≠ b) :
    Inv X pins σ H' { s with heap := h', gens := g', drawn := d', toks := t' } := by
  obtain ⟨m, ⟨o, es, ep, ho, r⟩, _⟩ := id I.loc
  obtain ⟨sl, hL⟩ := u.any ho I.free fun z => (hch _ z).2.1 rfl
  exact I.step (ch := ch) hch (fun b o hL hb hc e n => u.keep b o e n (fun z => (List.mem_cons.mp (I.stkSub b z)).elim hL hb) hc) (fun b o _ _ hc e n => u.any e n hc) (fun b o hc e n => u.free b o e n hc) (fun b o hc e => u.there b o e hc) u.tups u.frzs u.tbls (fun m' hm => by
    obtain ⟨o', es', ep', ho', r'⟩ := hm
    rw [ho] at ho'; cases ho'
    exact ⟨_, es', ep', hL, r'⟩) hok hg
theorem Inv.turned {t' : Nat} {it : Addr} (I : Inv X pins σ H s) (k : ∀ b o, b ≠ it → s.heap.get? b = some o → h'.get? b = some o) (hn : H it = none) (hL : it ≠ X.env.locals)
    (h1 : it ∈ X.ex ∨ X.s₀.heap.objs.size ≤ it) (h2 : ∀ x c, X.env.cells.lookup x = some c → c ≠ it) (h3 : ∀ p ∈ X.pn ++ pins, p.1 ≠ it) : Inv X pins σ H { s with heap := h', toks := t' } := by
  have nit : ∀ b u, H b = some u → b ≠ it := fun b u e z => by rw [z, hn] at e; cases e
  refine I.step (g' := s.gens) (d' := s.drawn) (ch := [it]) (fun b hb => ?_) (fun b o _ _ hc e _ => k b o (fun z => hc (by simp [z])) e) (fun b o _ _ hc e _ => ⟨o.slots, k b o (fun z => hc (by simp [z])) e⟩) (fun _ _ _ _ n => n)
    (fun b o hc e => ⟨o, k b o (fun z => hc (by simp [z])) e⟩) (fun _ _ e => e) (fun _ _ _ e => e) (fun b ps e => ⟨#[], by rw [e]; simp⟩) (fun m hm => ?_) (fun b u e => ?_) I.bare
  · have e : b = it := by simpa using hb
    subst e
    exact ⟨h1, hL, h2, h3⟩
  · obtain ⟨o, es, ep, ho, r⟩ := hm
    exact ⟨o, es, ep, k _ o (Ne.symm hL) ho, r⟩
  · refine (I.hok b u e).stay (fun c v hc q => k c v ?_ q) (fun _ q => q) fun _ _ q => q
    rcases hc with z | z
    · rw [z]; exact nit b u e
    · exact nit c _ z
theorem Inv.tok (I : Inv X pins σ H s) (t : Nat) : Inv X pins σ H { s with toks := t } := I.un (h' := s.heap) (t' := t) Un.refl I.hok
theorem Inv.kept {t' : Nat} (I : Inv X pins σ H s) (k : ∀ b u, s.heap.get? b = some u → h'.get? b = some u) : Inv X pins σ H { s with heap := h', toks := t' } := I.un (Un.kept k) (I.hok.kept k)
theorem Inv.laid {a : Addr} {o : HO} {t' : Nat} (I : Inv X pins σ H s) (k : ∀ b u, s.heap.get? b = some u → h'.get? b = some u) (hp : s.heap.objs.size ≤ a) (new : ObjOk X.prog X.w (upd H a o) h' a o) :
    Inv X pins σ (upd H a o) { s with heap := h', toks := t' } := I.un (Un.laid k hp (I.hok.fresh hp)) (I.hok.laid k hp new)
theorem Inv.write {x e : Addr} {o : HO} {t' : Nat} (I : Inv X pins σ H s) (mu : Mut (H x)) (he : e = x ∨ H e = some (.own x)) (k : ∀ b u, b ≠ e → s.heap.get? b = some u → h'.get? b = some u) (heo : ∃ u, h'.get? e = some u)
    (new : ObjOk X.prog X.w (upd H x o) h' x o) : Inv X pins σ (upd H x o) { s with heap := h', toks := t' } := I.un (Un.write mu he k heo) (I.hok.write mu he k heo new)
theorem Inv.pins_of {pins' : List (Addr × Obj)} (I : Inv X pins σ H s) (h : ∀ p ∈ pins', s.heap.get? p.1 = some p.2 ∧ H p.1 = none ∧ p.1 ≠ X.env.locals ∧ p.1 ∉ X.fs ∧ ∀ v, p.2.data ≠ .cell v) : Inv X pins' σ H s :=
  ⟨I.ok, I.os, I.bare, I.base, I.loc, I.cell, I.free, I.freeC, fun p hp => (List.mem_append.mp hp).elim (fun z => I.pin p (List.mem_append_left _ z)) (h p), I.hok, I.len⟩
theorem nodup_ix {N : List Str} (hN : N.Nodup) {i j : Nat} {x : Str} (a : N[i]? = some x) (b : N[j]? = some x) : i = j := by
  obtain ⟨h1, e1⟩ := List.getElem?_eq_some_iff.mp a
  obtain ⟨h2, e2⟩ := List.getElem?_eq_some_iff.mp b
  exact (List.getElem_inj hN).mp (e1.trans e2.symm)
theorem store_ok2 {M : Model} {A : Around} {E : Value → Shared → Prop} {i : Nat} {x : Str} {v : V} {u : Value} {Q : Unit → Shared → Prop} (I : Inv X pins σ H s) (hN : X.N.Nodup) (hi : X.N[i]? = some x) (hx : Loc X.env.scope x) (r : RelV v u)
    (h : ∀ s', Inv X pins (σ.set i (some v)) H s' → (∃ a, Heap.SameBut a s.heap s'.heap ∧ (a = X.env.locals ∨ X.env.cells.lookup x = some a)) → Q () s') (hf : X.fn x = true ∨ X.env.scope.names.lookup x = some .local := by first | exact .inl rfl | exact .inr rfl | assumption) : wpAny M A (storeName X.env x u) Q E s := by
  obtain ⟨m, hn, hl⟩ := id I.loc
  have hcls : (X.env.scope.kind == .class || (X.env.scope.kind == .module && X.env.locals != X.env.globals)) = false := by rw [I.ok.kind]; rfl
  have hiσ : i < σ.length := by rw [I.len]; exact (List.getElem?_eq_some_iff.mp hi).1
  have cne := I.cne
  have tracked : ∀ {a : Addr} {h' : Heap}, (∃ o, s.heap.get? a = some o ∧ H a = none) → Heap.SameBut a s.heap h' → HOk X.prog X.w H h' := fun {a h'} ha hs b ob e => by
    obtain ⟨_, _, hfree⟩ := ha
    refine (I.hok b ob e).stay (fun c w' hc q => (hs.2 c ?_).trans q) (fun _ q => q) fun _ _ q => q
    rintro rfl
    rcases hc with rfl | hc
    · rw [hfree] at e; cases e
    · rw [hfree] at hc; cases hc
  rcases hx with hk | hk
  · refine wpAny_storeName_local hk hn (fun h' hn' hs => ?_) hcls
    obtain ⟨oL, _, _, hoL, _⟩ := id hn
    refine h _ ⟨I.ok, I.os, I.bare, ⟨fun b o e n hb hx => ?_, fun b o e n hb hx => ?_, I.base.free, fun b o e hx => ?_, I.base.tups, I.base.frzs, I.base.tbls⟩, ⟨_, hn', fun j y v' e1 e2 e3 => ?_⟩, fun y c e => ?_, I.free, I.freeC, fun p hp => ?_, tracked ⟨oL, hoL, I.free⟩ hs, by simpa using I.len⟩ ⟨_, hs, .inl rfl⟩
    · exact (hs.2 b (Nat.ne_of_lt (Nat.lt_of_lt_of_le (Heap.lt_size e) I.ok.above))).trans (I.base.keep b o e n hb hx)
    · obtain ⟨sl, e1⟩ := I.base.slot b o e n hb hx
      exact ⟨sl, (hs.2 b (Nat.ne_of_lt (Nat.lt_of_lt_of_le (Heap.lt_size e) I.ok.above))).trans e1⟩
    · obtain ⟨o', e1⟩ := I.base.there b o e hx
      exact ⟨o', (hs.2 b (Nat.ne_of_lt (Nat.lt_of_lt_of_le (Heap.lt_size e) I.ok.above))).trans e1⟩
    · by_cases hj : j = i
      · subst hj
        rw [hi] at e1; cases e1
        rw [List.getElem?_set_self hiσ] at e2
        cases e2
        exact ⟨u, r, .inl ⟨hk, by simp⟩⟩
      · rw [List.getElem?_set_ne (Ne.symm hj)] at e2
        obtain ⟨u', r', q⟩ := hl j y v' e1 e2 e3
        refine ⟨u', r', ?_⟩
        rcases q with ⟨k, e⟩ | ⟨k, c, e, z⟩
        · refine .inl ⟨k, ?_⟩
          have : y ≠ x := fun e => hj (nodup_ix hN e1 (e ▸ hi))
          simp [this, e]
        · exact .inr ⟨k, c, e, z.sameBut hs (cne y c e)⟩
    · obtain ⟨w', z⟩ := I.cell y c e
      exact ⟨w', z.sameBut hs (cne y c e)⟩
    · obtain ⟨e, n, ne, nf, d⟩ := I.pin p hp
      exact ⟨(hs.2 p.1 ne).trans e, n, ne, nf, d⟩
  · have hfn : X.fn x = true := by
      rcases hf with z | z
      · exact z
      · rw [z] at hk; cases hk
    obtain ⟨c, hc⟩ := I.ok.has x (.inl hk)
    obtain ⟨w', z⟩ := I.cell x c hc
    refine wpAny_storeName_cell I.ok.kind hk hc z (fun h' hc' hs => ?_)
    obtain ⟨oc, hoc, hocd⟩ := id z
    refine h { s with heap := h' } ⟨I.ok, I.os, I.bare, ⟨fun b o e n hb hx => ?_, fun b o e n hb hx => ?_, I.base.free, fun b o e hx => ?_, I.base.tups, I.base.frzs, I.base.tbls⟩, ⟨m, hn.sameBut hs (Ne.symm (cne x c hc)), fun j y v' e1 e2 e3 => ?_⟩, fun y c' e => ?_, I.free, I.freeC, fun p hp => ?_, tracked ⟨oc, hoc, I.freeC x c hc⟩ hs, by simpa using I.len⟩ ⟨c, hs, .inr hc⟩
    · exact (hs.2 b (Nat.ne_of_lt (Nat.lt_of_lt_of_le (Heap.lt_size e) (I.ok.cab x c hfn hc)))).trans (I.base.keep b o e n hb hx)
    · obtain ⟨sl, e1⟩ := I.base.slot b o e n hb hx
      exact ⟨sl, (hs.2 b (Nat.ne_of_lt (Nat.lt_of_lt_of_le (Heap.lt_size e) (I.ok.cab x c hfn hc)))).trans e1⟩
    · obtain ⟨o', e1⟩ := I.base.there b o e hx
      exact ⟨o', (hs.2 b (Nat.ne_of_lt (Nat.lt_of_lt_of_le (Heap.lt_size e) (I.ok.cab x c hfn hc)))).trans e1⟩
    · by_cases hj : j = i
      · subst hj
        rw [hi] at e1; cases e1
        rw [List.getElem?_set_self hiσ] at e2
        cases e2
        exact ⟨u, r, .inr ⟨.inl hk, c, hc, hc'⟩⟩
      · rw [List.getElem?_set_ne (Ne.symm hj)] at e2
        obtain ⟨u', r', q⟩ := hl j y v' e1 e2 e3
        refine ⟨u', r', ?_⟩
        rcases q with q | ⟨k, c', e, z'⟩
        · exact .inl q
        · refine .inr ⟨k, c', e, z'.sameBut hs ?_⟩
          rintro rfl
          exact hj (nodup_ix hN e1 (I.ok.inj _ _ _ e hc ▸ hi))
    · by_cases hcc : c' = c
      · subst hcc; exact ⟨_, hc'⟩
      · obtain ⟨w2, z2⟩ := I.cell y c' e
        exact ⟨w2, z2.sameBut hs hcc⟩
    · obtain ⟨e, n, ne, nf, d⟩ := I.pin p hp
      refine ⟨(hs.2 p.1 ?_).trans e, n, ne, nf, d⟩
      intro q
      rw [q, hoc] at e
      have q' : oc = p.2 := Option.some.inj e
      exact d w' (by rw [← q']; exact hocd)
theorem store_ok {M : Model} {A : Around} {E : Value → Shared → Prop} {i : Nat} {x : Str} {v : V} {u : Value} {Q : Unit → Shared → Prop} (I : Inv X pins σ H s) (hN : X.N.Nodup) (hi : X.N[i]? = some x) (hx : Loc X.env.scope x) (r : RelV v u)
    (h : ∀ s', Inv X pins (σ.set i (some v)) H s' → Q () s') (hf : X.fn x = true ∨ X.env.scope.names.lookup x = some .local := by first | exact .inl rfl | exact .inr rfl | assumption) : wpAny M A (storeName X.env x u) Q E s :=
  store_ok2 I hN hi hx r (fun s' I' _ => h s' I') hf
theorem Inv.call' {s' : Shared} {ch : List Addr} (I : Inv X pins σ H s) (ho : s'.os = s.os) (u : Un (frs X.stack) ch H H' s.heap s'.heap) (hok : HOk X.prog X.w H' s'.heap) (hg : AllBare s'.gens)
    (hch : ∀ b ∈ ch, (b ∈ X.ex ∨ X.s₀.heap.objs.size ≤ b) ∧ b ≠ X.env.locals ∧ (∀ x c, X.env.cells.lookup x = some c → c ≠ b) ∧ ∀ p ∈ X.pn ++ pins, p.1 ≠ b) : Inv X pins σ H' s' := by
  obtain ⟨h', g', d', t', o'⟩ := s'
  have e : o' = s.os := ho
  subst e
  exact I.call (g' := g') (t' := t') (d' := d') u hok hg hch
end
noncomputable abbrev XK := Value → Option Addr → Hp → Prop
noncomputable abbrev St := List (Option V)
noncomputable abbrev VK := V → Hp → Prop
noncomputable abbrev TE := St → Hp → VK → Prop
noncomputable abbrev TT := St → Hp → (Bool → Hp → Prop) → Prop
noncomputable abbrev TA := St → Hp → (List V → Hp → Prop) → Prop
structure Ends where
  nx : St → Hp → Prop
  rt : VK
  bk : St → Hp → Prop := fun _ _ => False
  ct : St → Hp → Prop := fun _ _ => False
noncomputable abbrev TS := Ends → St → Hp → Prop
noncomputable def EP (X : Cx) (pins : List (Addr × Obj)) (σ : St) (Q : VK) (u : Value) (s' : Shared) : Prop := ∃ v H', Inv X pins σ H' s' ∧ RelV v u ∧ Q v H'
noncomputable def TP (X : Cx) (pins : List (Addr × Obj)) (σ : St) (Q : Bool → Hp → Prop) (b : Bool) (s' : Shared) : Prop := ∃ H', Inv X pins σ H' s' ∧ Q b H'
noncomputable def AP (X : Cx) (pins : List (Addr × Obj)) (σ : St) (Q : List V → Hp → Prop) (us : List Value) (s' : Shared) : Prop := ∃ vs H', Inv X pins σ H' s' ∧ Vals vs us ∧ Q vs H'
noncomputable def SP (X : Cx) (pins : List (Addr × Obj)) (D : Ends) (f : Flow) (s' : Shared) : Prop :=
  match f with
  | .next => ∃ σ' H', Inv X pins σ' H' s' ∧ D.nx σ' H'
  | .brk => ∃ σ' H', Inv X pins σ' H' s' ∧ D.bk σ' H'
  | .cont => ∃ σ' H', Inv X pins σ' H' s' ∧ D.ct σ' H'
  | .ret u => ∃ v σ' H', Inv X pins σ' H' s' ∧ RelV v u ∧ D.rt v H'
noncomputable def PE (X : Cx) (e : Expr) (t : TE) : Prop :=
  ∀ (pins : List (Addr × Obj)) (s : Shared) (σ : St) (H : Hp) (Q : VK), Inv X pins σ H s → t σ H Q → wpAny (model X.prog X.w) X.A (eval e X.env) (EP X pins σ Q) X.xe s
noncomputable def PT (X : Cx) (e : Expr) (t : TT) : Prop :=
  ∀ (pins : List (Addr × Obj)) (s : Shared) (σ : St) (H : Hp) (Q : Bool → Hp → Prop), Inv X pins σ H s → t σ H Q → wpAny (model X.prog X.w) X.A (isTrue e X.env (eval e X.env)) (TP X pins σ Q) X.xe s
noncomputable def PW (X : Cx) (e : Expr) (t : TT) : Prop :=
  ∀ (whole : Sem Value) (pins : List (Addr × Obj)) (s : Shared) (σ : St) (H : Hp) (Q : Bool → Hp → Prop), Inv X pins σ H s → t σ H Q → wpAny (model X.prog X.w) X.A (isTrue e X.env whole) (TP X pins σ Q) X.xe s
noncomputable def PA (X : Cx) (es : List Expr) (t : TA) : Prop :=
  ∀ (pos : Pos) (pins : List (Addr × Obj)) (s : Shared) (σ : St) (H : Hp) (Q : List V → Hp → Prop), Inv X pins σ H s → t σ H Q → wpAny (model X.prog X.w) X.A (spliced (backTo pos (starEach es X.env))) (AP X pins σ Q) X.xe s
noncomputable def PS (X : Cx) (st : Stmt) (t : TS) : Prop :=
  ∀ (pins : List (Addr × Obj)) (s : Shared) (σ : St) (H : Hp) (D : Ends), Inv X pins σ H s → t D σ H → wpAny (model X.prog X.w) X.A (exec st X.env) (SP X pins D) X.xe s
noncomputable def PSs (X : Cx) (st : List Stmt) (t : TS) : Prop :=
  ∀ (pins : List (Addr × Obj)) (s : Shared) (σ : St) (H : Hp) (D : Ends), Inv X pins σ H s → t D σ H → wpAny (model X.prog X.w) X.A (execs st X.env) (SP X pins D) X.xe s
theorem thn {α : Type} {t : Sem α} {Q Q' : α → Shared → Prop} {M : Model} {A : Around} {E : Value → Shared → Prop} {s : Shared} (h : wpAny M A t Q E s) (hQ : ∀ a s, Q a s → Q' a s) : wpAny M A t Q' E s := wpAny_mono h hQ fun _ _ x => x
end L2
namespace L2
open PySem PySem.Spec PyProof.Rows
section
variable {X : Cx}
theorem bin {a b : Expr} {ta tb : TE} (ha : PE X a ta) (hb : PE X b tb) {pins : List (Addr × Obj)} {s : Shared} {σ : St} {H : Hp} {R : V → V → Hp → Prop} (I : Inv X pins σ H s) (h : ta σ H fun x H1 => tb σ H1 fun y H2 => R x y H2)
    {α : Type} {Q : α → Shared → Prop} {f : Value → Value → Sem α}
    (hf : ∀ v u s2 x y H2, Inv X pins σ H2 s2 → RelV x v → RelV y u → R x y H2 → wpAny (model X.prog X.w) X.A (f v u) Q X.xe s2) :
    wpAny (model X.prog X.w) X.A (eval a X.env) (fun v s₁ => wpAny (model X.prog X.w) X.A (eval b X.env) (fun u s₂ => wpAny (model X.prog X.w) X.A (f v u) Q X.xe s₂) X.xe s₁) X.xe s := by
  refine thn (ha pins s σ H _ I h) fun v s1 ⟨x, H1, I1, r1, q1⟩ => ?_
  refine thn (hb pins s1 σ H1 _ I1 q1) fun u s2 ⟨y, H2, I2, r2, q2⟩ => ?_
  exact hf v u s2 x y H2 I2 r1 r2 q2
noncomputable def tVar (i : Nat) : TE := fun σ H Q => ∃ v, σ[i]? = some (some v) ∧ Q v H
noncomputable def tC (v : V) : TE := fun _ H Q => Q v H
theorem pe_var {i : Nat} {x : Str} {pos : Pos} (hN : X.N[i]? = some x) (hv : Vis X.env.scope x) (hd : (x == ("__debug__" : Str)) = false := by decide) (hcd : (x == ("__classdict__" : Str)) = false := by decide) : PE X (.Name x pos) (tVar i) := by
  intro pins s σ H Q I h
  obtain ⟨v, e, h⟩ := h
  obtain ⟨m, hn, hl⟩ := I.loc
  obtain ⟨u, r, l⟩ := hl i x v hN e hv
  have fin : EP X pins σ Q u s := ⟨v, H, I, r, h⟩
  rcases l with ⟨hk, hm⟩ | ⟨hk, c, hc, hcell⟩
  · exact wpAny_Name (wpAny_loadName_local I.ok.kind hk hn hm fin) hd
  · rcases hk with hk | hk
    · exact wpAny_Name (wpAny_loadName_cell I.ok.kind hk hc hcell fin) hd
    · exact wpAny_Name (wpAny_loadName_free I.ok.kind hk hc hcell fin hcd) hd
theorem pe_int {i j pos} : PE X (.Constant (.int i) j pos) (tC (.int i)) := fun _ _ _ H _ I h => wpAny_Constant_int ⟨.int i, H, I.tok _, ⟨_, rfl⟩, h⟩
theorem pe_bl {b j pos} : PE X (.Constant (.bool b) j pos) (tC (.bl b)) := fun _ _ _ H _ I h => Constant_bool ⟨.bl b, H, I, rfl, h⟩
theorem pe_str {x j pos} : PE X (.Constant (.str x) j pos) (tC (.str x)) := fun _ _ _ H _ I h => Calls.Constant_str ⟨.str x, H, I.tok _, ⟨_, rfl⟩, h⟩
noncomputable def Gl (X : Cx) (x : Str) : Prop := X.env.kindOf x = some .globalImplicit
theorem ld_glob {E : Value → Shared → Prop} {pins : List (Addr × Obj)} {s : Shared} {σ : St} {H : Hp} {x : Str} {u : Value} {pos : Pos} {Q : Value → Shared → Prop} (I : Inv X pins σ H s) (hg : Gl X x) (hm : X.mg x = some u) (h : Q u s)
    (hd : (x == ("__debug__" : Str)) = false := by decide) : wpAny (model X.prog X.w) X.A (eval (.Name x pos) X.env) Q E s :=
  Calls.Name_function_global I.ok.kind hg (Calls.loadGlobal_global (by rw [I.ok.glob]; exact I.mod.glob.keeps I.bk) hm h) hd
theorem ld_blt {E : Value → Shared → Prop} {pins : List (Addr × Obj)} {s : Shared} {σ : St} {H : Hp} {x : Str} {u : Value} {pos : Pos} {Q : Value → Shared → Prop} (I : Inv X pins σ H s) (hg : Gl X x) (hm : X.mg x = none) (hv : bootBuiltins x = some u) (h : Q u s)
    (hn : x ≠ "__name__" := by decide) (hd : (x == ("__debug__" : Str)) = false := by decide) : wpAny (model X.prog X.w) X.A (eval (.Name x pos) X.env) Q E s := by
  obtain ⟨mb, h1, h2⟩ := I.mod.blt
  exact Calls.Name_function_global I.ok.kind hg (Calls.loadGlobal_builtin (by rw [I.ok.glob]; exact I.mod.glob.keeps I.bk) hm (by rw [I.ok.blt]; exact h1.keeps I.bk) ((h2 x hn).trans hv) h) hd
theorem pe_bltn {x : Str} {v : V} {u : Value} {pos : Pos} (hg : Gl X x) (hm : X.mg x = none) (hv : bootBuiltins x = some u) (r : RelV v u) (hn : x ≠ "__name__" := by decide) (hd : (x == ("__debug__" : Str)) = false := by decide) : PE X (.Name x pos) (tC v) :=
  fun _ _ _ H _ I h => ld_blt I hg hm hv ⟨v, H, I, r, h⟩ hn hd
variable {a b : Expr} {ta tb : TE} {pos : Pos}
noncomputable def PC (X : Cx) (op : CmpOp) (a b : Expr) (t : TE) : Prop :=
  ∀ (pins : List (Addr × Obj)) (s : Shared) (σ : St) (H : Hp) (Q : VK), Inv X pins σ H s → t σ H Q →
    wpAny (model X.prog X.w) X.A (eval a X.env) (fun v s₁ => wpAny (model X.prog X.w) X.A (eval b X.env) (fun u s₂ => wpAny (model X.prog X.w) X.A (compareOp op v u) (EP X pins σ Q) X.xe s₂) X.xe s₁) X.xe s
noncomputable def tB (t : TE) : TT := fun σ H Q => t σ H fun x H1 => ∃ c, x = .bl c ∧ Q c H1
theorem pt_cmp {op : CmpOp} {t : TE} (h : PC X op a b t) (h1 : behindInMarks op b = false := by first | exact nobehind _ (by decide) (by decide) | rfl) : PT X (.Compare a [op] [b] pos) (tB t) := by
  intro pins s σ H Q I hw
  refine wpAny_isTrue_Compare1 (thn (h pins s σ H _ I hw) fun v s1 h1 => thn h1 fun u s2 h2 => thn h2 fun c s3 ⟨x, H1, I1, r1, q1⟩ => ?_) h1
  obtain ⟨d, rfl, q⟩ := q1
  cases r1
  exact wpAny_truthy_bool ⟨H1, I1, q⟩
theorem pt_val {e : Expr} {t : TE} (h : PE X e t) (he : ∀ whole, isTrue e X.env whole = (do let v ← whole; standAt e.pos; holding [v] (truthy v)) := by intro _; rfl) : PT X e (tB t) := by
  intro pins s σ H Q I hw
  refine isTrue_plain (thn (h pins s σ H _ I hw) fun v s1 ⟨x, H1, I1, r1, q1⟩ => ?_) (he _)
  obtain ⟨d, rfl, q⟩ := q1
  cases r1
  exact wpAny_truthy_bool ⟨H1, I1, q⟩
variable {tA tB' : TT} {rest : List Expr}
noncomputable def tAnd (t u : TT) : TT := fun σ H Q => t σ H fun c H1 => if c = true then u σ H1 Q else Q false H1
theorem pw_and1 (ha : PT X a tA) : PW X (.BoolOp .And [a] pos) tA := by
  intro wh pins s σ H Q I h
  refine isTrue_and (thn (ha pins s σ H Q I h) fun c s1 e => ?_)
  cases c with
  | true => exact isTrue_and_nil e
  | false => exact e
theorem pw_and (ha : PT X a tA) (hb : PW X (.BoolOp .And (b :: rest) pos) tB') : PW X (.BoolOp .And (a :: b :: rest) pos) (tAnd tA tB') := by
  intro wh pins s σ H Q I h
  refine isTrue_and (thn (ha pins s σ H _ I h) fun c s1 ⟨H1, I1, q1⟩ => ?_)
  cases c with
  | true => exact hb wh pins s1 σ H1 Q I1 q1
  | false => exact ⟨H1, I1, q1⟩
noncomputable def tAndV (ta tb : TE) : TE := fun σ H Q => ta σ H fun x H1 => ∃ c, x = .bl c ∧ if c = true then tb σ H1 Q else Q (.bl false) H1
noncomputable def tNotV (ta : TE) : TE := fun σ H Q => ta σ H fun x H1 => ∃ c, x = .bl c ∧ Q (.bl (!c)) H1
theorem pe_one {op} {t : TE} (h : PE X a t) : PE X (.BoolOp op [a] pos) t := fun pins s σ H Q I hw => BoolOp_one (h pins s σ H Q I hw)
theorem pe_and (ha : PE X a ta) (hb : PE X (.BoolOp .And (b :: rest) pos) tb) : PE X (.BoolOp .And (a :: b :: rest) pos) (tAndV ta tb) := by
  intro pins s σ H Q I h
  refine BoolOp_and (thn (ha pins s σ H _ I h) fun v s1 ⟨x, H1, I1, r1, q1⟩ => ?_)
  obtain ⟨c, rfl, q1⟩ := q1
  cases r1
  refine wpAny_truthy_bool ?_
  cases c with
  | true => exact hb pins s1 σ H1 Q I1 q1
  | false => exact ⟨.bl false, H1, I1, rfl, q1⟩
theorem pe_not (ha : PE X a ta) : PE X (.UnaryOp .Not a pos) (tNotV ta) := by
  intro pins s σ H Q I h
  refine UnaryOp_ (thn (ha pins s σ H _ I h) fun v s1 ⟨x, H1, I1, r1, q1⟩ => ?_)
  obtain ⟨c, rfl, q1⟩ := q1
  cases r1
  exact not_of (wpAny_truthy_bool ⟨.bl (!c), H1, I1, rfl, q1⟩)
end
end L2
namespace L2
open PySem PySem.Spec PyProof.Rows
noncomputable def SqL (K : PySem.W.Frag) (H : Hp) (a : Addr) (xs : List V) : Prop :=
  Rd H a (.lst xs) ∨
    ∃ (o : Obj) (its : Array Value) (n : Nat), K.lookup a = some o ∧ o.cls = .type "list" ∧ o.dict = none ∧ o.data = .seq its n ∧ its.size ≤ sizeLine ∧ Vals xs its.toList
noncomputable def SqT (K : PySem.W.Frag) (H : Hp) (a : Addr) (xs : List V) : Prop :=
  Rd H a (.tup xs) ∨
    ∃ (o : Obj) (its : Array Value) (n : Nat), K.lookup a = some o ∧ o.cls = .type "tuple" ∧ o.data = .seq its n ∧ its.size ≤ sizeLine ∧ Vals xs its.toList
noncomputable def absV : Value → Option V
  | .none => some .non
  | .bool b => some (.bl b)
  | .int i _ => some (.int i)
  | .str x _ => some (.str x)
  | .bytes b _ => some (.byt b)
  | .float b _ => some (.flt b)
  | .ref a => some (.ref a)
  | .type n => some (.ty n)
  | _ => none
theorem RelV.abs {x : V} {u : Value} (r : RelV x u) : absV u = some x := by
  cases x with
  | non => cases r; rfl
  | bl _ => cases r; rfl
  | int _ => obtain ⟨t, rfl⟩ := r; rfl
  | str _ => obtain ⟨t, rfl⟩ := r; rfl
  | byt _ => obtain ⟨t, rfl⟩ := r; rfl
  | flt _ => obtain ⟨t, rfl⟩ := r; rfl
  | ref _ => cases r; rfl
  | ty _ => cases r; rfl
theorem RelV.inj {x y : V} {u : Value} (r : RelV x u) (q : RelV y u) : x = y := Option.some.inj (r.abs.symm.trans q.abs)
theorem Vals.inj : ∀ {xs ys : List V} {us : List Value}, Vals xs us → Vals ys us → xs = ys
  | _, _, _, .nil, .nil => rfl
  | _, _, _, .cons r t, .cons r' t' => by rw [r.inj r', Vals.inj t t']
section
variable {X : Cx} {pins : List (Addr × Obj)} {σ : St} {H : Hp} {s : Shared} {a : Addr} {xs ys : List V}
theorem SqL.of {K : PySem.W.Frag} (h : H a = some (.lst xs)) : SqL K H a xs := .inl (.inl h)
theorem SqT.of {K : PySem.W.Frag} (h : H a = some (.tup xs)) : SqT K H a xs := .inl (.inl h)
theorem Inv.list (I : Inv X pins σ H s) (h : SqL X.K H a xs) : ∃ its : List Value, Vals xs its ∧ PlainL s.heap a its.toArray ∧ xs.length ≤ sizeLine := by
  rcases h with h | ⟨o, its, n, hk, hc, hd, hs, hz, r⟩
  · obtain ⟨z, its, n, r, e⟩ := h.ok I.hok
    exact ⟨its, r, ⟨_, n, e, rfl, rfl, rfl⟩, z⟩
  · refine ⟨its.toList, r, ⟨o, n, I.kIn a o hk, hc, hd, by simpa using hs⟩, ?_⟩
    have e := r.length
    simp only [Array.length_toList] at e
    omega
theorem Inv.tuple (I : Inv X pins σ H s) (h : SqT X.K H a xs) : ∃ its : List Value, Vals xs its ∧ IsTup s.heap a its.toArray ∧ xs.length ≤ sizeLine := by
  rcases h with h | ⟨o, its, n, hk, hc, hs, hz, r⟩
  · obtain ⟨z, its, r, p⟩ := h.ok I.hok
    exact ⟨its, r, p, z⟩
  · refine ⟨its.toList, r, ⟨o, I.kIn a o hk, hc, n, by simpa using hs⟩, ?_⟩
    have e := r.length
    simp only [Array.length_toList] at e
    omega
theorem Inv.list_inj (I : Inv X pins σ H s) (h : SqL X.K H a xs) (h' : SqL X.K H a ys) : xs = ys := by
  obtain ⟨its, r, ⟨o, n, e, _, _, d⟩, _⟩ := I.list h
  obtain ⟨its', r', ⟨o', n', e', _, _, d'⟩, _⟩ := I.list h'
  rw [e] at e'; cases e'
  rw [d] at d'
  injection d' with d1 _
  have : its = its' := by simpa using congrArg Array.toList d1
  subst this
  exact r.inj r'
theorem Inv.tuple_inj (I : Inv X pins σ H s) (h : SqT X.K H a xs) (h' : SqT X.K H a ys) : xs = ys := by
  obtain ⟨its, r, ⟨o, e, _, n, d⟩, _⟩ := I.tuple h
  obtain ⟨its', r', ⟨o', e', _, n', d'⟩, _⟩ := I.tuple h'
  rw [e] at e'; cases e'
  rw [d] at d'
  injection d' with d1 _
  have : its = its' := by simpa using congrArg Array.toList d1
  subst this
  exact r.inj r'
end
noncomputable abbrev Cx.wish (X : Cx) (E : Value → Shared → Prop) : Cx := { X with xe := E }
noncomputable abbrev Cx.nox (X : Cx) : Cx := X.wish fun _ _ => False
theorem Cx.Ok.wish {X : Cx} (ok : X.Ok) (E : Value → Shared → Prop) : (X.wish E).Ok :=
  ⟨ok.mod, ok.kind, ok.glob, ok.blt, ok.above, ok.inj, ok.has, ok.cab, ok.hd, ok.frames, ok.stk, ok.exf, ok.bs, ok.bsz, ok.noex, ok.exfs, ok.funs, ok.frf⟩
theorem Cx.Ok.unwish {X : Cx} {E : Value → Shared → Prop} (ok : (X.wish E).Ok) : X.Ok :=
  ⟨ok.mod, ok.kind, ok.glob, ok.blt, ok.above, ok.inj, ok.has, ok.cab, ok.hd, ok.frames, ok.stk, ok.exf, ok.bs, ok.bsz, ok.noex, ok.exfs, ok.funs, ok.frf⟩
section
variable {X : Cx} {pins : List (Addr × Obj)} {σ : St} {H : Hp} {s : Shared} {E : Value → Shared → Prop}
theorem Inv.wish (I : Inv X pins σ H s) (E : Value → Shared → Prop) : Inv (X.wish E) pins σ H s := ⟨I.ok.wish E, I.os, I.bare, I.base, I.loc, I.cell, I.free, I.freeC, I.pin, I.hok, I.len⟩
theorem Inv.unwish (I : Inv (X.wish E) pins σ H s) : Inv X pins σ H s := ⟨I.ok.unwish, I.os, I.bare, I.base, I.loc, I.cell, I.free, I.freeC, I.pin, I.hok, I.len⟩
theorem SP.unwish {D : Ends} {f : Flow} {s' : Shared} (h : SP (X.wish E) pins D f s') : SP X pins D f s' := by
  cases f with
  | next => obtain ⟨σ', H', I, q⟩ := h; exact ⟨σ', H', I.unwish, q⟩
  | brk => obtain ⟨σ', H', I, q⟩ := h; exact ⟨σ', H', I.unwish, q⟩
  | cont => obtain ⟨σ', H', I, q⟩ := h; exact ⟨σ', H', I.unwish, q⟩
  | ret u => obtain ⟨v, σ', H', I, r, q⟩ := h; exact ⟨v, σ', H', I.unwish, r, q⟩
theorem PSs.nox {st : List Stmt} {t : TS} (h : PSs X.nox st t) : PSs X st t := fun pins s σ H D I hw =>
  wpAny_mono (h pins s σ H D (I.wish _) hw) (fun _ _ q => q.unwish) fun _ _ z => False.elim z
end
section
variable {X : Cx} {st : Stmt} {rest : List Stmt} {t u : TS} {e : Expr} {te : TE} {pos : Pos}
noncomputable def tNext : TS := fun D σ H => D.nx σ H
noncomputable def tSeq (t u : TS) : TS := fun D σ H => t { D with nx := u D } σ H
theorem pss_nil : PSs X [] tNext := fun _ _ σ H _ I h => wpAny_execs_nil ⟨σ, H, I, h⟩
theorem pss_cons (h1 : PS X st t) (h2 : PSs X rest u) : PSs X (st :: rest) (tSeq t u) := by
  intro pins s σ H D I h
  refine wpAny_execs_cons (thn (h1 pins s σ H { D with nx := u D } I h) fun f s1 q => ?_)
  cases f with
  | next =>
    obtain ⟨σ', H', I', q⟩ := q
    exact h2 pins s1 σ' H' D I' q
  | ret v => exact q
  | brk => exact q
  | cont => exact q
theorem Inv.quiet {pins : List (Addr × Obj)} {σ : St} {H : Hp} {s : Shared} (I : Inv X pins σ H s) : interactive X.env = false := by simp [interactive, I.ok.kind]
noncomputable def tDrop (te : TE) : TS := fun D σ H => te σ H fun _ H1 => D.nx σ H1
theorem ps_expr (he : PE X e te) (hs : swapsWith e none pos.line X.env = pure false := by rfl) : PS X (.Expr e pos) (tDrop te) := by
  intro pins s σ H D I h
  exact wpAny_Expr_any (thn (he pins s σ H _ I h) fun v s1 ⟨x, H1, I1, r1, q1⟩ => ⟨σ, H1, I1, q1⟩) I.quiet hs
noncomputable def tRet (te : TE) : TS := fun D σ H => te σ H D.rt
theorem ps_ret (he : PE X e te) : PS X (.Return (some e) pos) (tRet te) := by
  intro pins s σ H D I h
  exact wpAny_Return_some (thn (he pins s σ H _ I h) fun v s1 ⟨x, H1, I1, r1, q1⟩ => ⟨x, σ, H1, I1, r1, q1⟩)
noncomputable def tIfS (c : TT) (t u : TS) : TS := fun D σ H => c σ H fun b H1 => if b = true then t D σ H1 else u D σ H1
theorem ps_if {c : Expr} {a b : List Stmt} {tc : TT} (hc : PT X c tc) (ha : PSs X a t) (hb : PSs X b u) : PS X (.If c a b pos) (tIfS tc t u) := by
  intro pins s σ H D I h
  refine wpAny_If (thn (hc pins s σ H _ I h) fun d s1 ⟨H1, I1, q1⟩ => ?_)
  cases d with
  | true => exact ha pins s1 σ H1 D I1 q1
  | false => exact hb pins s1 σ H1 D I1 q1
end
noncomputable abbrev TG := V → St → Hp → (St → Hp → Prop) → Prop
noncomputable abbrev TGs := List V → St → Hp → (St → Hp → Prop) → Prop
noncomputable def PG (X : Cx) (target : Expr) (t : TG) : Prop :=
  ∀ (pins : List (Addr × Obj)) (s : Shared) (σ : St) (H : Hp) (v : V) (u : Value) (Q : St → Hp → Prop), Inv X pins σ H s → RelV v u → t v σ H Q →
    wpAny (model X.prog X.w) X.A (assign target X.env u) (fun _ s' => ∃ σ' H', Inv X pins σ' H' s' ∧ Q σ' H') X.xe s
noncomputable def PGs (X : Cx) (ts : List Expr) (t : TGs) : Prop :=
  ∀ (pins : List (Addr × Obj)) (s : Shared) (σ : St) (H : Hp) (vs : List V) (us : List Value) (Q : St → Hp → Prop), Inv X pins σ H s → Vals vs us → t vs σ H Q →
    wpAny (model X.prog X.w) X.A (assignInOrder ((assignEach ts X.env).map (·.2)) us) (fun _ s' => ∃ σ' H', Inv X pins σ' H' s' ∧ Q σ' H') X.xe s
noncomputable abbrev TSet := V → V → V → Hp → (Hp → Prop) → Prop
noncomputable def PSet (X : Cx) (t : TSet) : Prop :=
  ∀ (pins : List (Addr × Obj)) (s : Shared) (σ : St) (H : Hp) (o i v : V) (ov iv u : Value) (Q : Hp → Prop), Inv X pins σ H s → RelV o ov → RelV i iv → RelV v u → t o i v H Q →
    wpAny (model X.prog X.w) X.A (setItem ov iv u) (fun _ s' => ∃ H', Inv X pins σ H' s' ∧ Q H') X.xe s
noncomputable abbrev TIp := V → V → Hp → VK → Prop
noncomputable def PIp (X : Cx) (op : Operator) (t : TIp) : Prop :=
  ∀ (pins : List (Addr × Obj)) (s : Shared) (σ : St) (H : Hp) (x y : V) (v u : Value) (Q : VK), Inv X pins σ H s → RelV x v → RelV y u → t x y H Q →
    wpAny (model X.prog X.w) X.A (inplaceOp op v u) (EP X pins σ Q) X.xe s
section
variable {X : Cx} {pos : Pos}
noncomputable def gName (i : Nat) : TG := fun v σ H Q => Q (σ.set i (some v)) H
theorem pg_name {i : Nat} {x : Str} (hN : X.N.Nodup) (hi : X.N[i]? = some x) (hx : Loc X.env.scope x) (hf : X.fn x = true ∨ X.env.scope.names.lookup x = some .local := by first | exact .inl rfl | exact .inr rfl | assumption) : PG X (.Name x pos) (gName i) := by
  intro pins s σ H v u Q I r h
  exact wpAny_assign_Name (store_ok I hN hi hx r (fun s' I' => ⟨_, H, I', h⟩) hf)
noncomputable def gNil : TGs := fun vs σ H Q => vs = [] ∧ Q σ H
noncomputable def gCons (t : TG) (u : TGs) : TGs := fun vs σ H Q => ∃ v r, vs = v :: r ∧ t v σ H fun σ' H' => u r σ' H' Q
theorem pgs_nil : PGs X [] gNil := by
  intro pins s σ H vs us Q I r h
  obtain ⟨e, h⟩ := h
  subst e
  cases r
  exact assignInOrder_nil ⟨σ, H, I, h⟩
theorem pgs_cons {e : Expr} {es : List Expr} {t : TG} {u : TGs} (h1 : PG X e t) (h2 : PGs X es u)
    (hs : (assignEach (e :: es) X.env).map (·.2) = assign e X.env :: (assignEach es X.env).map (·.2) := by rfl) : PGs X (e :: es) (gCons t u) := by
  intro pins s σ H vs us Q I r h
  obtain ⟨v, vr, e1, h⟩ := h
  subst e1
  cases r with
  | cons r rr =>
    rw [hs]
    refine assignInOrder_cons (thn (h1 pins s σ H _ _ _ I r h) fun _ s1 ⟨σ1, H1, I1, q1⟩ => ?_)
    exact h2 pins s1 σ1 H1 _ _ Q I1 rr q1
noncomputable def gTup (K : PySem.W.Frag) (n : Nat) (t : TGs) : TG := fun v σ H Q => ∃ a xs, v = .ref a ∧ SqT K H a xs ∧ xs.length = n ∧ t xs σ H Q
theorem pg_tup {es : List Expr} {k : Nat} {t : TGs} {n : Nat} (hc : X.calm = true) (h : PGs X es t)
    (hn : (assignEach es X.env).length = n := by rfl) (hst : (assignEach es X.env).findIdx? (·.1) = none := by rfl) : PG X (.Tuple es k pos) (gTup X.K n t) := by
  intro pins s σ H v u Q I r hw
  obtain ⟨a, xs, e1, hq, hl, hw⟩ := hw
  subst e1
  cases r
  obtain ⟨its, rv, ht, hz⟩ := I.tuple hq
  refine assign_Tuple_tuple (I.ok.hd hc) ht (by simp [hn, ← hl, rv.length]) hst fun h' hx => ?_
  have I1 : Inv X pins σ H { s with heap := h' } := I.kept (t' := s.toks) fun b o e => hx b o (Nat.ne_of_lt (Heap.lt_size e)) e
  exact h pins _ σ H xs _ Q I1 (by simpa using rv) hw
noncomputable def tAsg (te : TE) (g : TG) : TS := fun D σ H => te σ H fun x H1 => g x σ H1 D.nx
theorem ps_set {i : Nat} {x : Str} {e : Expr} {te : TE} {pos' : Pos} (hN : X.N.Nodup) (hi : X.N[i]? = some x) (hx : Loc X.env.scope x) (he : PE X e te) (hs : swapsWith e (some (.Name x pos')) pos.line X.env = pure false := by rfl) (hf : X.fn x = true ∨ X.env.scope.names.lookup x = some .local := by first | exact .inl rfl | exact .inr rfl | assumption) :
    PS X (.Assign [.Name x pos'] e pos) (tAsg te (gName i)) := by
  intro pins s σ H D I h
  refine wpAny_Assign_Name (thn (he pins s σ H _ I h) fun v s1 ⟨y, H1, I1, r1, q1⟩ => ?_) hs
  exact store_ok I1 hN hi hx r1 (fun s2 I2 => ⟨_, H1, I2, q1⟩) hf
noncomputable def tAugS (to ti te : TE) (tget : V → V → Hp → VK → Prop) (tip : TIp) (tset : TSet) : TS := fun D σ H => to σ H fun o H1 => ti σ H1 fun i H2 => tget o i H2 fun x H3 => te σ H3 fun y H4 => tip x y H4 fun z H5 => tset o i z H5 fun H6 => D.nx σ H6
noncomputable def PGet (X : Cx) (t : V → V → Hp → VK → Prop) : Prop :=
  ∀ (pins : List (Addr × Obj)) (s : Shared) (σ : St) (H : Hp) (o i : V) (ov iv : Value) (Q : VK), Inv X pins σ H s → RelV o ov → RelV i iv → t o i H Q →
    wpAny (model X.prog X.w) X.A (getItem ov iv) (EP X pins σ Q) X.xe s
theorem ps_augS {o i e : Expr} {to ti te : TE} {tget : V → V → Hp → VK → Prop} {tip : TIp} {tset : TSet} {op : Operator} {tpos : Pos} (ho : PE X o to) (hi : PE X i ti) (hg : PGet X tget) (he : PE X e te) (hp : PIp X op tip) (hs : PSet X tset)
    (ha : ∀ ov iv new, augStore i ov iv new = (do holding [new, ov, iv] (setItem ov iv new); release [new, ov, iv] []; pure .next) := by intros; rfl) : PS X (.AugAssign (.Subscript o i tpos) op e pos) (tAugS to ti te tget tip tset) := by
  intro pins s σ H D I h
  refine wpAny_AugAssign_SubscriptAny (thn (ho pins s σ H _ I h) fun ov s1 ⟨x1, H1, I1, r1, q1⟩ => ?_) ha
  refine thn (hi pins s1 σ H1 _ I1 q1) fun iv s2 ⟨x2, H2, I2, r2, q2⟩ => ?_
  refine thn (hg pins s2 σ H2 x1 x2 ov iv _ I2 r1 r2 q2) fun old s3 ⟨x3, H3, I3, r3, q3⟩ => ?_
  refine thn (he pins s3 σ H3 _ I3 q3) fun v s4 ⟨x4, H4, I4, r4, q4⟩ => ?_
  refine thn (hp pins s4 σ H4 x3 x4 old v _ I4 r3 r4 q4) fun new s5 ⟨x5, H5, I5, r5, q5⟩ => ?_
  exact thn (hs pins s5 σ H5 x1 x2 x5 ov iv new _ I5 r1 r2 r5 q5) fun _ s6 ⟨H6, I6, q6⟩ => ⟨σ, H6, I6, q6⟩
noncomputable def ipI (f : Int → Int → Int) : TIp := fun x y H Q => ∃ i j, x = .int i ∧ y = .int j ∧ Q (.int (f i j)) H
theorem ip_add : PIp X .Add (ipI fun i j => i + j) := by
  intro pins s σ H x y v u Q I r1 r2 h
  obtain ⟨i, j, e1, e2, q⟩ := h
  subst e1; subst e2
  obtain ⟨t, rfl⟩ := r1
  obtain ⟨t', rfl⟩ := r2
  exact iadd_int ⟨.int _, H, I.tok _, ⟨_, rfl⟩, q⟩
theorem ip_sub : PIp X .Sub (ipI fun i j => i - j) := by
  intro pins s σ H x y v u Q I r1 r2 h
  obtain ⟨i, j, e1, e2, q⟩ := h
  subst e1; subst e2
  obtain ⟨t, rfl⟩ := r1
  obtain ⟨t', rfl⟩ := r2
  exact isub_int ⟨.int _, H, I.tok _, ⟨_, rfl⟩, q⟩
end
section
variable {X : Cx} {pos : Pos}
noncomputable def tWhile (c : TT) (tb : TS) : TS := fun D σ H => ∃ W : Nat → St → Hp → Prop, (∃ m, W m σ H) ∧ ∀ m σ H, W m σ H →
  c σ H fun b H1 => if b = true then ∃ N : St → Hp → Prop, (∀ σ' H', N σ' H' → ∃ m', m' < m ∧ W m' σ' H') ∧ tb { D with nx := N, ct := N, bk := D.nx } σ H1 else D.nx σ H1
theorem ps_while {c : Expr} {body : List Stmt} {tc : TT} {tb : TS} (hp : PassesOwn (model X.prog X.w) X.A X.env X.xe) (hc : PT X c tc) (hb : PSs X body tb) : PS X (.While c body [] pos) (tWhile tc tb) := by
  intro pins s σ H D I h
  obtain ⟨W, ⟨m0, w0⟩, turn⟩ := h
  refine wpAny_While (codeAny_whileLoop (fun n s' => ∃ σ' H', Inv X pins σ' H' s' ∧ W n σ' H') ?_ m0 ⟨σ, H, I, w0⟩)
  rintro n s1 ⟨σ1, H1, I1, w1⟩
  refine wpAny_passesOwn hp (thn (hc pins s1 σ1 H1 _ I1 (turn n σ1 H1 w1)) fun b s2 ⟨H2, I2, q2⟩ => ?_)
  cases b with
  | true =>
    obtain ⟨N, hN, q2⟩ := q2
    rw [if_pos rfl]
    refine wpAny_passesOwn hp (thn (hb pins s2 σ1 H2 _ I2 q2) fun f s3 q3 => ?_)
    cases f with
    | next =>
      obtain ⟨σ3, H3, I3, n3⟩ := q3
      obtain ⟨m', hm, w3⟩ := hN σ3 H3 n3
      exact ⟨m', hm, σ3, H3, I3, w3⟩
    | cont =>
      obtain ⟨σ3, H3, I3, n3⟩ := q3
      obtain ⟨m', hm, w3⟩ := hN σ3 H3 n3
      exact ⟨m', hm, σ3, H3, I3, w3⟩
    | brk => exact q3
    | ret v => exact q3
  | false =>
    rw [if_neg Bool.false_ne_true]
    exact wpAny_execs_nil ⟨σ1, H2, I2, q2⟩
end
structure It where
  go : Nat → Hp → Prop
  yld : Nat → Hp → V → Hp → Prop
  stop : Nat → Hp → Prop
noncomputable def FpOk (X : Cx) (pins : List (Addr × Obj)) (H : Hp) (b : Addr) : Prop :=
  H b = none ∧ b ≠ X.env.locals ∧ b ∉ X.fs ∧ (b ∈ X.ex ∨ X.s₀.heap.objs.size ≤ b) ∧ (∀ x c, X.env.cells.lookup x = some c → c ≠ b) ∧ ∀ p ∈ X.pn ++ pins, p.1 ≠ b
theorem Inv.fpOk {X : Cx} {pins : List (Addr × Obj)} {σ : St} {H H' : Hp} {s : Shared} {b : Addr} (I : Inv X pins σ H s) (hb : s.heap.objs.size ≤ b) (hn : H' b = none) : FpOk X pins H' b := by
  refine ⟨hn, Nat.ne_of_gt (Nat.lt_of_lt_of_le I.lt hb), I.nofs hb, .inr (Nat.le_trans I.sz hb), fun x c e z => ?_, fun p hp z => ?_⟩
  · obtain ⟨v, q⟩ := I.cell x c e
    exact absurd (Nat.lt_of_lt_of_le q.lt (by rw [z]; exact hb)) (Nat.lt_irrefl _)
  · exact absurd (Nat.lt_of_lt_of_le (Heap.lt_size (I.pin p hp).1) (by rw [z]; exact hb)) (Nat.lt_irrefl _)
structure Turn (P : Program) (w : World) (K : PySem.W.Frag) (tg : Expr) (J : It) (fp : List Addr) (it : Addr) (tn : Nat → Heap → Prop) : Prop where
  mem : it ∈ fp
  obj : ∀ i h, tn i h → ∀ b ∈ fp, ∃ o, h.get? b = some o ∧ ∀ v, o.data ≠ .cell v
  keep : ∀ i h h', tn i h → (∀ b ∈ fp, ∀ o, h.get? b = some o → h'.get? b = some o) → tn i h'
  item : ∀ (X : Cx), X.prog = P → X.w = w → X.K = K → X.calm = true → ∀ (i : Nat) (pins : List (Addr × Obj)) (s : Shared) (σ : St) (H : Hp) (E : Value → Shared → Prop), Inv X pins σ H s → (∀ b ∈ fp, FpOk X pins H b) → tn i s.heap → J.go i H →
    wpAny (model P w) X.A (pyNext (.ref it)) (fun r s1 => ∃ u, r = some u ∧
      wpAny (model P w) X.A (letOwnedTupleGo tg (.ref it) u) (fun _ s2 => ∃ x H', Inv X pins σ H' s2 ∧ RelV x u ∧ J.yld i H x H' ∧ tn (i + 1) s2.heap ∧ ∀ b ∈ fp, H' b = none) E s1) E s
  done : ∀ (X : Cx), X.prog = P → X.w = w → X.K = K → X.calm = true → ∀ (i : Nat) (pins : List (Addr × Obj)) (s : Shared) (σ : St) (H : Hp) (E : Value → Shared → Prop), Inv X pins σ H s → (∀ b ∈ fp, FpOk X pins H b) → tn i s.heap → J.stop i H →
    wpAny (model P w) X.A (pyNext (.ref it)) (fun r s1 => r = none ∧ Inv X pins σ H s1) E s
  self : ∀ (A : Around) (i : Nat) (s : Shared) (Q : Value → Shared → Prop) (E : Value → Shared → Prop), tn i s.heap → Q (.ref it) s → wpAny (model P w) A (pyIter (.ref it)) Q E s
noncomputable abbrev TI := St → Hp → (It → Hp → Prop) → Prop
noncomputable def PIE (X : Cx) (pins : List (Addr × Obj)) (σ : St) (tg : Expr) (R : It → Hp → Prop) (itv : Value) (s2 : Shared) : Prop :=
  ∃ (it : Addr) (fp : List Addr) (tn : Nat → Heap → Prop) (J : It) (H' : Hp), itv = .ref it ∧ Inv X pins σ H' s2 ∧ Turn X.prog X.w X.K tg J fp it tn ∧ tn 0 s2.heap ∧ (∀ b ∈ fp, FpOk X pins H' b) ∧ R J H'
noncomputable def PI (X : Cx) (tg iter : Expr) (wi : TI) : Prop :=
  ∀ (pins : List (Addr × Obj)) (s : Shared) (σ : St) (H : Hp) (R : It → Hp → Prop), Inv X pins σ H s → wi σ H R →
    wpAny (model X.prog X.w) X.A (eval iter X.env) (fun v s1 => wpAny (model X.prog X.w) X.A (pyIter v) (PIE X pins σ tg R) X.xe s1) X.xe s
theorem go_of {M : Model} {A : Around} {E : Value → Shared → Prop} {s : Shared} {tg : Expr} {it : Addr} {u : Value} {o : Obj} {n : String} {vs : Array Value} {Q : Unit → Shared → Prop} (ho : s.heap.get? it = some o) (hc : o.cls = .type n) (hd : o.data = .fields vs)
    (hn : ["enumerate", "zip", "dict_itemiterator", "dict_reverseitemiterator", "odict_iterator", "itertools.zip_longest", "itertools.pairwise"].contains n = false) (hQ : Q () s) : wpAny M A (letOwnedTupleGo tg (.ref it) u) Q E s := by
  unfold letOwnedTupleGo
  cases tg <;> first
    | exact wpAny_pure hQ
    | (cases u <;> first
        | exact wpAny_pure hQ
        | (refine wpAny_bind (wpAny_load ho ?_)
           rw [hc, hd]
           show wpAny M A (if (["enumerate", "zip", "dict_itemiterator", "dict_reverseitemiterator", "odict_iterator", "itertools.zip_longest", "itertools.pairwise"].contains n && vs[0]? == some (rawInt _)) = true then _ else _) Q E s
           rw [if_neg (by intro h; rw [hn, Bool.false_and] at h; cases h)]
           exact wpAny_pure hQ))
noncomputable def Itl (K : PySem.W.Frag) (a : Addr) : It :=
  ⟨fun i H => ∃ xs x, SqL K H a xs ∧ xs[i]? = some x, fun i H x H' => H' = H ∧ ∀ xs, SqL K H a xs → xs[i]? = some x, fun i H => ∃ xs, SqL K H a xs ∧ xs.length ≤ i⟩
noncomputable def Itt (K : PySem.W.Frag) (a : Addr) : It :=
  ⟨fun i H => ∃ xs x, SqT K H a xs ∧ xs[i]? = some x, fun i H x H' => H' = H ∧ ∀ xs, SqT K H a xs → xs[i]? = some x, fun i H => ∃ xs, SqT K H a xs ∧ xs.length ≤ i⟩
noncomputable def Itr (lo : Int) (n : Nat) : It := ⟨fun i _ => i < n, fun i H x H' => H' = H ∧ x = .int (lo + i), fun i _ => n ≤ i⟩
theorem turn_list {P : Program} {w : World} {K : PySem.W.Frag} {tg : Expr} (a it : Addr) : Turn P w K tg (Itl K a) [it] it (fun i h => h.IsListIter it a i) where
  mem := by simp
  obj := fun i h st b hb => by
    have e : b = it := by simpa using hb
    subst e
    obtain ⟨o, e, c, d⟩ := st
    exact ⟨o, e, fun v z => by rw [d] at z; cases z⟩
  keep := fun i h h' st k => st.at fun o e => k it (by simp) o e
  item := by
    intro X hP hw hK hc i pins s σ H E I hf st hg
    subst hP hw hK
    obtain ⟨xs, x, hq, hx⟩ := hg
    obtain ⟨its, rv, p, hz⟩ := I.list hq
    obtain ⟨u, hu, ru⟩ := rv.get hx
    obtain ⟨f0, f1, f2, f3, f4, f5⟩ := hf it (by simp)
    refine wpAny_pyNext_list_item st p.isList (x := u) (by simpa using hu) fun h' st' sb => ?_
    have I1 : Inv X pins σ H { s with heap := h' } := I.turned (t' := s.toks) (fun b o hb e => (sb.2 b hb).trans e) f0 f1 f3 f4 f5
    obtain ⟨o, e, c, d⟩ := id st'
    exact ⟨u, rfl, go_of (s := { s with heap := h' }) e c d (by decide) ⟨x, H, I1, ru, ⟨rfl, fun ys hy => by rw [I.list_inj hy hq]; exact hx⟩, st', fun b hb => (hf b hb).1⟩⟩
  done := by
    intro X hP hw hK hc i pins s σ H E I hf st hg
    subst hP hw hK
    obtain ⟨xs, hq, hx⟩ := hg
    obtain ⟨its, rv, p, hz⟩ := I.list hq
    obtain ⟨f0, f1, f2, f3, f4, f5⟩ := hf it (by simp)
    have hl := rv.length
    exact wpAny_pyNext_list_end (I.ok.hd hc) st p.isList (by simp; omega) fun h' eb => ⟨rfl, I.turned (t' := s.toks) (fun b o hb e => eb b o hb e) f0 f1 f3 f4 f5⟩
  self := fun _ _ _ _ _ st h => wpAny_pyIter_listiter st h
theorem turn_tuple {P : Program} {w : World} {K : PySem.W.Frag} {tg : Expr} (a it : Addr) : Turn P w K tg (Itt K a) [it] it (fun i h => h.IsTupleIter it a i) where
  mem := by simp
  obj := fun i h st b hb => by
    have e : b = it := by simpa using hb
    subst e
    obtain ⟨o, e, c, d⟩ := st
    exact ⟨o, e, fun v z => by rw [d] at z; cases z⟩
  keep := fun i h h' st k => st.at fun o e => k it (by simp) o e
  item := by
    intro X hP hw hK hc i pins s σ H E I hf st hg
    subst hP hw hK
    obtain ⟨xs, x, hq, hx⟩ := hg
    obtain ⟨its, rv, p, hz⟩ := I.tuple hq
    obtain ⟨u, hu, ru⟩ := rv.get hx
    obtain ⟨f0, f1, f2, f3, f4, f5⟩ := hf it (by simp)
    refine wpAny_pyNext_tuple_item st (show s.heap.IsTuple a its.toArray from p) (x := u) (by simpa using hu) fun h' st' sb => ?_
    have I1 : Inv X pins σ H { s with heap := h' } := I.turned (t' := s.toks) (fun b o hb e => (sb.2 b hb).trans e) f0 f1 f3 f4 f5
    obtain ⟨o, e, c, d⟩ := id st'
    exact ⟨u, rfl, go_of (s := { s with heap := h' }) e c d (by decide) ⟨x, H, I1, ru, ⟨rfl, fun ys hy => by rw [I.tuple_inj hy hq]; exact hx⟩, st', fun b hb => (hf b hb).1⟩⟩
  done := by
    intro X hP hw hK hc i pins s σ H E I hf st hg
    subst hP hw hK
    obtain ⟨xs, hq, hx⟩ := hg
    obtain ⟨its, rv, p, hz⟩ := I.tuple hq
    obtain ⟨f0, f1, f2, f3, f4, f5⟩ := hf it (by simp)
    have hl := rv.length
    exact wpAny_pyNext_tuple_end (I.ok.hd hc) st (show s.heap.IsTuple a its.toArray from p) (by simp; omega) fun h' eb => ⟨rfl, I.turned (t' := s.toks) (fun b o hb e => eb b o hb e) f0 f1 f3 f4 f5⟩
  self := fun _ _ _ _ _ st h => wpAny_pyIter_tupleiter st h
theorem turn_range {P : Program} {w : World} {K : PySem.W.Frag} {tg : Expr} (it : Addr) (lo : Int) (n : Nat) : Turn P w K tg (Itr lo n) [it] it (fun i h => IsRangeIter h it (lo + (i : Nat) * 1) ((n : Int) - (i : Nat)) 1) where
  mem := by simp
  obj := fun i h st b hb => by
    have e : b = it := by simpa using hb
    subst e
    exact ⟨_, st, fun v z => by
      have z' : Data.fields _ = Data.cell v := z
      cases z'⟩
  keep := fun i h h' st k => k it (by simp) _ st
  item := by
    intro X hP hw hK hc i pins s σ H E I hf st hg
    subst hP hw hK
    obtain ⟨f0, f1, f2, f3, f4, f5⟩ := hf it (by simp)
    have W := Walks.range (prog := X.prog) (w := X.w) (I.ok.hd hc) it lo 1 n
    refine W.item i s _ _ hg st fun v h' tk hv st' kk => ?_
    obtain ⟨t, rfl⟩ := hv
    have I1 : Inv X pins σ H { s with heap := h', toks := tk } := I.turned (fun b o hb e => kk b o (by simpa using hb) e) f0 f1 f3 f4 f5
    refine ⟨_, rfl, go_of (s := { s with heap := h', toks := tk }) (n := "range_iterator") st' rfl rfl (by decide) ⟨.int (lo + i), H, I1, ⟨t, ?_⟩, ⟨rfl, rfl⟩, st', fun b hb => (hf b hb).1⟩⟩
    rw [Int.mul_one]
  done := by
    intro X hP hw hK hc i pins s σ H E I hf st hg
    subst hP hw hK
    obtain ⟨f0, f1, f2, f3, f4, f5⟩ := hf it (by simp)
    exact wpAny_pyNext_range_end (I.ok.hd hc) st (by have : n ≤ i := hg; omega) fun h' eb => ⟨rfl, I.turned (t' := s.toks) (fun b o hb e => eb b o hb e) f0 f1 f3 f4 f5⟩
  self := fun _ _ _ _ _ st h => wpAny_pyIter_rangeiter st h
end L2
namespace L2
open PySem PySem.Spec PyProof.Rows
section
variable {X : Cx} {tg : Expr}
noncomputable def iList (K : PySem.W.Frag) (tl : TE) : TI := fun σ H R => tl σ H fun x H1 => ∃ a, x = .ref a ∧ (∃ xs, SqL K H1 a xs) ∧ R (Itl K a) H1
noncomputable def iTup (K : PySem.W.Frag) (tl : TE) : TI := fun σ H R => tl σ H fun x H1 => ∃ a, x = .ref a ∧ (∃ xs, SqT K H1 a xs) ∧ R (Itt K a) H1
theorem pi_list {l : Expr} {tl : TE} (hl : PE X l tl) : PI X tg l (iList X.K tl) := by
  intro pins s σ H R I h
  refine thn (hl pins s σ H _ I h) fun v s1 ⟨x, H1, I1, r1, q1⟩ => ?_
  obtain ⟨a, e, ⟨xs, hq⟩, q⟩ := q1
  subst e
  cases r1
  obtain ⟨its, rv, p, hz⟩ := I1.list hq
  refine wpAny_pyIter_list p.isList ?_
  refine ⟨s1.heap.objs.size, [s1.heap.objs.size], _, _, H1, rfl, I1.kept (t' := s1.toks) fun b o e => Heap.get?_push_of_some _ e, turn_list a _, ⟨_, Heap.get?_push_size _ rfl, rfl, rfl⟩, fun b hb => ?_, q⟩
  have e : b = s1.heap.objs.size := by simpa using hb
  subst e
  exact I1.fpOk (Nat.le_refl _) (I1.hok.fresh (Nat.le_refl _))
theorem pi_tup {l : Expr} {tl : TE} (hl : PE X l tl) : PI X tg l (iTup X.K tl) := by
  intro pins s σ H R I h
  refine thn (hl pins s σ H _ I h) fun v s1 ⟨x, H1, I1, r1, q1⟩ => ?_
  obtain ⟨a, e, ⟨xs, hq⟩, q⟩ := q1
  subst e
  cases r1
  obtain ⟨its, rv, p, hz⟩ := I1.tuple hq
  refine wpAny_pyIter_tuple (show s1.heap.IsTuple a its.toArray from p) ?_
  refine ⟨s1.heap.objs.size, [s1.heap.objs.size], _, _, H1, rfl, I1.kept (t' := s1.toks) fun b o e => Heap.get?_push_of_some _ e, turn_tuple a _, ⟨_, Heap.get?_push_size _ rfl, rfl, rfl⟩, fun b hb => ?_, q⟩
  have e : b = s1.heap.objs.size := by simpa using hb
  subst e
  exact I1.fpOk (Nat.le_refl _) (I1.hok.fresh (Nat.le_refl _))
theorem range_it {pins : List (Addr × Obj)} {σ : St} {H : Hp} {s : Shared} {R : It → Hp → Prop} {E : Value → Shared → Prop} {lo hi : Int} {t u v : Tok} {tk : Nat} (I : Inv X pins σ H s) (h1 : -(2 ^ 62) ≤ lo) (h2 : lo < 2 ^ 62) (h3 : -(2 ^ 62) ≤ hi) (h4 : hi < 2 ^ 62)
    (q : R (Itr lo (hi - lo).toNat) H) : wpAny (model X.prog X.w) X.A (pyIter (.ref s.heap.objs.size)) (PIE X pins σ tg R) E { s with heap := s.heap.push { cls := .type "range", data := .fields #[.int lo t, .int hi u, .int 1 v] }, toks := tk } := by
  refine wpAny_pyIter_range (IsRange.new ..) (small_one h1 h2 h3 h4) ?_
  have I1 : Inv X pins σ H { s with heap := s.heap.push { cls := .type "range", data := .fields #[.int lo t, .int hi u, .int 1 v] }, toks := tk } := I.kept fun b o e => Heap.get?_push_of_some _ e
  refine ⟨(s.heap.push { cls := .type "range", data := .fields #[.int lo t, .int hi u, .int 1 v] }).objs.size, [(s.heap.push { cls := .type "range", data := .fields #[.int lo t, .int hi u, .int 1 v] }).objs.size], _, _, H, rfl,
    I1.kept (t' := tk) fun b o e => Heap.get?_push_of_some _ e, turn_range _ lo (hi - lo).toNat, ?_, fun b hb => ?_, q⟩
  · have e1 : lo + ((0 : Nat) : Int) * 1 = lo := by simp
    have e2 : (((hi - lo).toNat : Nat) : Int) - ((0 : Nat) : Int) = Builtin.Range.rangeSize lo hi 1 := by rw [rangeSize_one]; split <;> omega
    show IsRangeIter _ _ (lo + ((0 : Nat) : Int) * 1) ((((hi - lo).toNat : Nat) : Int) - ((0 : Nat) : Int)) 1
    rw [e1, e2]
    exact Heap.get?_push_size _ rfl
  · have e : b = (s.heap.push { cls := .type "range", data := .fields #[.int lo t, .int hi u, .int 1 v] }).objs.size := by simpa using hb
    subst e
    exact I1.fpOk (Nat.le_refl _) (I1.hok.fresh (Nat.le_refl _))
noncomputable def iRng1 (ta : TA) : TI := fun σ H R => ta σ H fun vs H1 => ∃ j : Int, vs = [.int j] ∧ -(2 ^ 62) ≤ j ∧ j < 2 ^ 62 ∧ R (Itr 0 j.toNat) H1
noncomputable def iRng2 (ta : TA) : TI := fun σ H R => ta σ H fun vs H1 => ∃ i j : Int, vs = [.int i, .int j] ∧ (-(2 ^ 62) ≤ i ∧ i < 2 ^ 62 ∧ -(2 ^ 62) ≤ j ∧ j < 2 ^ 62) ∧ R (Itr i (j - i).toNat) H1
theorem pi_range1 {a : Expr} {ta : TA} {p pos : Pos} (hg : Gl X "range") (hm : X.mg "range" = none) (ha : PA X [a] ta) (hs : starEach [a] X.env = [(false, eval a X.env)] := by rfl) : PI X tg (.Call (.Name "range" p) [a] [] pos) (iRng1 ta) := by
  intro pins s σ H R I h
  refine Call_ (ld_blt I hg hm boot_range (PyProof.Rows.callWith_type1 (thn (ha pos pins s σ H _ I h) fun us s1 ⟨vs, H1, I1, r1, q1⟩ => ?_) hs rfl))
  obtain ⟨j, e, q1, q2, q⟩ := q1
  subst e
  cases r1 with
  | cons r rr =>
    cases rr
    obtain ⟨t, rfl⟩ := r
    exact call_range_1 (range_it I1 (by omega) (by omega) q1 q2 (by simpa using q))
theorem pi_range2 {a b : Expr} {ta : TA} {p pos : Pos} (hg : Gl X "range") (hm : X.mg "range" = none) (ha : PA X [a, b] ta) (hs : starEach [a, b] X.env = [(false, eval a X.env), (false, eval b X.env)] := by rfl) (hs2 : starEach [b] X.env = [(false, eval b X.env)] := by rfl) :
    PI X tg (.Call (.Name "range" p) [a, b] [] pos) (iRng2 ta) := by
  intro pins s σ H R I h
  refine Call_ (ld_blt I hg hm boot_range (PyProof.Rows.callWith_type1 (thn (ha pos pins s σ H _ I h) fun us s1 ⟨vs, H1, I1, r1, q1⟩ => ?_) (by rw [hs, hs2]) (by rw [hs2]; rfl)))
  obtain ⟨i, j, e, ⟨q1, q2, q3, q4⟩, q⟩ := q1
  subst e
  cases r1 with
  | cons r rr =>
    cases rr with
    | cons r' rr =>
      cases rr
      obtain ⟨t, rfl⟩ := r
      obtain ⟨t', rfl⟩ := r'
      exact call_range_2 (range_it I1 q1 q2 q3 q4 q)
noncomputable def tFor (wi : TI) (g : TG) (tb : TS) : TS := fun D σ H => wi σ H fun J H1 => ∃ W : Nat → Nat → St → Hp → Prop, (∃ m, W 0 m σ H1) ∧ ∀ i m σ H, W i m σ H →
  (J.stop i H ∧ D.nx σ H) ∨ (J.go i H ∧ ∃ N : St → Hp → Prop, (∀ σ' H', N σ' H' → ∃ m', m' < m ∧ W (i + 1) m' σ' H') ∧ ∀ x H', J.yld i H x H' → g x σ H' fun σ2 H2 => tb { D with nx := N, ct := N, bk := D.nx } σ2 H2)
noncomputable def pinsAt (fp : List Addr) (h : Heap) : List (Addr × Obj) := fp.filterMap fun b => (h.get? b).map fun o => (b, o)
theorem mem_pinsAt {fp : List Addr} {h : Heap} {b : Addr} {o : Obj} (hb : b ∈ fp) (e : h.get? b = some o) : (b, o) ∈ pinsAt fp h := List.mem_filterMap.mpr ⟨b, hb, by rw [e]; rfl⟩
theorem of_pinsAt {fp : List Addr} {h : Heap} {p : Addr × Obj} (hp : p ∈ pinsAt fp h) : p.1 ∈ fp ∧ h.get? p.1 = some p.2 := by
  obtain ⟨b, hb, e⟩ := List.mem_filterMap.mp hp
  cases q : h.get? b with
  | none => rw [q] at e; cases e
  | some o =>
    rw [q] at e
    have e' : (b, o) = p := Option.some.inj e
    subst e'
    exact ⟨hb, q⟩
theorem Inv.pinned {pins : List (Addr × Obj)} {σ : St} {H : Hp} {s : Shared} {fp : List Addr} (I : Inv X pins σ H s) (hf : ∀ b ∈ fp, FpOk X pins H b) (ho : ∀ b ∈ fp, ∃ o, s.heap.get? b = some o ∧ ∀ v, o.data ≠ .cell v) : Inv X (pins ++ pinsAt fp s.heap) σ H s :=
  I.pins_of fun p hp => (List.mem_append.mp hp).elim (fun z => I.pin p (List.mem_append_right _ z)) fun z => by
    obtain ⟨hb, e⟩ := of_pinsAt z
    obtain ⟨f0, f1, f2, _⟩ := hf p.1 hb
    obtain ⟨o, e', d⟩ := ho p.1 hb
    rw [e] at e'; cases e'
    exact ⟨e, f0, f1, f2, d⟩
theorem Inv.unpinned {pins pl : List (Addr × Obj)} {σ : St} {H : Hp} {s : Shared} (I : Inv X (pins ++ pl) σ H s) : Inv X pins σ H s := I.pins_of fun p hp => I.pin p (List.mem_append_right _ (List.mem_append_left _ hp))
theorem ps_for {iter : Expr} {body : List Stmt} {wi : TI} {g : TG} {tb : TS} {pos : Pos} (hp : PassesOwn (model X.prog X.w) X.A X.env X.xe) (hc : X.calm = true) (hi : PI X tg iter wi) (hg : PG X tg g) (hb : PSs X body tb)
    (hs : ∀ x, foldedSetIterable iter X.env x = pure x := by intro _; rfl) : PS X (.For tg iter body [] pos) (tFor wi g tb) := by
  intro pins s σ H D I h
  refine wpAny_For (thn (hi pins s σ H _ I h) fun v s1 h1 => thn h1 fun itv s2 h2 => ?_) hs
  obtain ⟨it, fp, tn, J, H2, e, I2, T, st2, f2, W, ⟨m0, w0⟩, turn⟩ := h2
  subst e
  have stat : ∀ {H' : Hp}, (∀ b ∈ fp, H' b = none) → ∀ b ∈ fp, FpOk X pins H' b := fun hn b hb => ⟨hn b hb, (f2 b hb).2⟩
  refine codeAny_forLoop_any (fun n s' => ∃ i σ' H', Inv X pins σ' H' s' ∧ tn i s'.heap ∧ (∀ b ∈ fp, H' b = none) ∧ W i n σ' H') ?_ m0 ⟨0, σ, H2, I2, st2, fun b hb => (f2 b hb).1, w0⟩
  rintro n s3 ⟨i, σ3, H3, I3, st3, fr3, w3⟩
  rcases turn i n σ3 H3 w3 with ⟨stop, qn⟩ | ⟨go, N, hN, step⟩
  · refine wpAny_passesOwn hp (thn (T.done X rfl rfl rfl hc i pins s3 σ3 H3 X.xe I3 (stat fr3) st3 stop) fun r s4 ⟨hr, I4⟩ => ?_)
    subst hr
    exact wpAny_execs_nil ⟨σ3, H3, I4, qn⟩
  · refine wpAny_passesOwn hp (thn (T.item X rfl rfl rfl hc i pins s3 σ3 H3 X.xe I3 (stat fr3) st3 go) fun r s4 ⟨u, hr, h4⟩ => ?_)
    subst hr
    refine wpAny_passesOwn hp (thn h4 fun _ s5 ⟨x, H5, I5, r5, y5, st5, fr5⟩ => ?_)
    have I5' := I5.pinned (stat fr5) (T.obj _ _ st5)
    refine wpAny_passesOwn hp (thn (hg _ s5 σ3 H5 x u _ I5' r5 (step x H5 y5)) fun _ s6 ⟨σ6, H6, I6, q6⟩ => ?_)
    refine wpAny_passesOwn hp (thn (hb _ s6 σ6 H6 _ I6 q6) fun f s7 q7 => ?_)
    have again : ∀ {σ7 : St} {H7 : Hp}, Inv X (pins ++ pinsAt fp s5.heap) σ7 H7 s7 → N σ7 H7 → ∃ m, m < n ∧ ∃ i σ' H', Inv X pins σ' H' s7 ∧ tn i s7.heap ∧ (∀ b ∈ fp, H' b = none) ∧ W i m σ' H' := fun {σ7 H7} I7 n7 => by
      obtain ⟨m', hm, w7⟩ := hN σ7 H7 n7
      refine ⟨m', hm, i + 1, σ7, H7, I7.unpinned, T.keep _ _ _ st5 fun b hb o e => (I7.pin (b, o) (List.mem_append_right _ (List.mem_append_right _ (mem_pinsAt hb e)))).1, fun b hb => ?_, w7⟩
      obtain ⟨o, e, d⟩ := T.obj _ _ st5 b hb
      exact (I7.pin (b, o) (List.mem_append_right _ (List.mem_append_right _ (mem_pinsAt hb e)))).2.1
    cases f with
    | next => obtain ⟨σ7, H7, I7, n7⟩ := q7; exact again I7 n7
    | cont => obtain ⟨σ7, H7, I7, n7⟩ := q7; exact again I7 n7
    | brk => obtain ⟨σ7, H7, I7, q7⟩ := q7; exact ⟨σ7, H7, I7.unpinned, q7⟩
    | ret v => obtain ⟨x7, σ7, H7, I7, r7, q7⟩ := q7; exact ⟨x7, σ7, H7, I7.unpinned, r7, q7⟩
end
end L2
namespace L2
open PySem PySem.Spec PyProof.Rows
noncomputable abbrev R2 := V → V → Hp → VK → Prop
noncomputable def OpR (X : Cx) (f : Value → Value → Sem Value) (r : R2) : Prop :=
  ∀ (pins : List (Addr × Obj)) (s : Shared) (σ : St) (H : Hp) (x y : V) (v u : Value) (Q : VK), Inv X pins σ H s → RelV x v → RelV y u → r x y H Q →
    wpAny (model X.prog X.w) X.A (f v u) (EP X pins σ Q) X.xe s
noncomputable def CallR (X : Cx) (f : Value) (r : List V → Hp → VK → Prop) : Prop :=
  ∀ (pins : List (Addr × Obj)) (s : Shared) (σ : St) (H : Hp) (xs : List V) (us : List Value) (Q : VK), Inv X pins σ H s → Vals xs us → r xs H Q →
    wpAny (model X.prog X.w) X.A (call f us) (EP X pins σ Q) X.xe s
noncomputable def TruR (X : Cx) (r : V → Hp → (Bool → Hp → Prop) → Prop) : Prop :=
  ∀ (pins : List (Addr × Obj)) (s : Shared) (σ : St) (H : Hp) (x : V) (v : Value) (Q : Bool → Hp → Prop), Inv X pins σ H s → RelV x v → r x H Q →
    wpAny (model X.prog X.w) X.A (truthy v) (TP X pins σ Q) X.xe s
noncomputable def tOp (r : R2) (ta tb : TE) : TE := fun σ H Q => ta σ H fun x H1 => tb σ H1 fun y H2 => r x y H2 Q
noncomputable def rI (C : Int → Int → Prop) (g : Int → Int → V) : R2 := fun x y H Q => ∃ i j, x = .int i ∧ y = .int j ∧ C i j ∧ Q (g i j) H
noncomputable def rI0 (g : Int → Int → V) : R2 := fun x y H Q => ∃ i j, x = .int i ∧ y = .int j ∧ Q (g i j) H
section
variable {X : Cx} {a b c : Expr} {ta tb tc : TE} {pos : Pos}
theorem binT (ha : PE X a ta) (hb : PE X b tb) {pins : List (Addr × Obj)} {s : Shared} {σ : St} {H : Hp} {R : V → V → Hp → Prop} (I : Inv X pins σ H s)
    (h : ta σ H fun x H1 => tb σ H1 fun y H2 => R x y H2) {Q : Value → Shared → Prop} {f : Value → Value → Sem Value}
    (hf : ∀ v u s2 x y H2, Inv X pins σ H2 s2 → RelV x v → RelV y u → R x y H2 → wpAny (model X.prog X.w) X.A (f v u) Q X.xe s2) :
    wpAny (model X.prog X.w) X.A (eval a X.env) (fun v s₁ => wpAny (model X.prog X.w) X.A (eval b X.env) (fun u s₂ => wpAny (model X.prog X.w) X.A (f v u) Q X.xe s₂) X.xe s₁) X.xe s := by
  refine thn (ha pins s σ H _ I h) fun v s1 ⟨x, H1, I1, r1, q1⟩ => ?_
  refine thn (hb pins s1 σ H1 _ I1 q1) fun u s2 ⟨y, H2, I2, r2, q2⟩ => ?_
  exact hf v u s2 x y H2 I2 r1 r2 q2
theorem pe_op {op : Operator} {r : R2} (ho : OpR X (binaryOp op) r) (ha : PE X a ta) (hb : PE X b tb) : PE X (.BinOp a op b pos) (tOp r ta tb) := by
  intro pins s σ H Q I h
  exact wpAny_BinOp (binT ha hb I h fun v u s2 x y H2 I2 rx ry q => ho pins s2 σ H2 x y v u Q I2 rx ry q)
theorem opI {f : Value → Value → Sem Value} {C : Int → Int → Prop} {g : Int → Int → Int}
    (rule : ∀ (i j : Int) (t u : Tok) (s : Shared) (Q : Value → Shared → Prop) (E : Value → Shared → Prop), C i j → Q (.int (g i j) s.toks) { s with toks := s.toks + 1 } → wpAny (model X.prog X.w) X.A (f (.int i t) (.int j u)) Q E s) :
    OpR X f (rI C fun i j => .int (g i j)) := by
  intro pins s σ H x y v u Q I rx ry h
  obtain ⟨i, j, rfl, rfl, hc, q⟩ := h
  obtain ⟨t, rfl⟩ := rx
  obtain ⟨t', rfl⟩ := ry
  exact rule i j t t' s _ _ hc ⟨.int (g i j), H, I.tok _, ⟨_, rfl⟩, q⟩
theorem opI0 {f : Value → Value → Sem Value} {g : Int → Int → Int}
    (rule : ∀ (i j : Int) (t u : Tok) (s : Shared) (Q : Value → Shared → Prop) (E : Value → Shared → Prop), Q (.int (g i j) s.toks) { s with toks := s.toks + 1 } → wpAny (model X.prog X.w) X.A (f (.int i t) (.int j u)) Q E s) :
    OpR X f (rI0 fun i j => .int (g i j)) := by
  intro pins s σ H x y v u Q I rx ry h
  obtain ⟨i, j, rfl, rfl, q⟩ := h
  obtain ⟨t, rfl⟩ := rx
  obtain ⟨t', rfl⟩ := ry
  exact rule i j t t' s _ _ ⟨.int (g i j), H, I.tok _, ⟨_, rfl⟩, q⟩
theorem opB0 {f : Value → Value → Sem Value} {g : Int → Int → Bool}
    (rule : ∀ (i j : Int) (t u : Tok) (s : Shared) (Q : Value → Shared → Prop) (E : Value → Shared → Prop), Q (.bool (g i j)) s → wpAny (model X.prog X.w) X.A (f (.int i t) (.int j u)) Q E s) :
    OpR X f (rI0 fun i j => .bl (g i j)) := by
  intro pins s σ H x y v u Q I rx ry h
  obtain ⟨i, j, rfl, rfl, q⟩ := h
  obtain ⟨t, rfl⟩ := rx
  obtain ⟨t', rfl⟩ := ry
  exact rule i j t t' s _ _ ⟨.bl (g i j), H, I, rfl, q⟩
noncomputable def CDiv (i j : Int) : Prop := 0 < j ∧ j < 1073741824
noncomputable def CPow (i j : Int) : Prop := 0 ≤ j ∧ j ≤ 1000000 ∧ i.natAbs < 2 ^ 64
noncomputable def CMul (i j : Int) : Prop := (-(2 ^ 64) < i ∧ i < 2 ^ 64) ∨ (-(2 ^ 64) < j ∧ j < 2 ^ 64)
theorem CMul.ok {i j : Int} (h : CMul i j) : IntMulOk i j := by
  rcases h with ⟨h1, h2⟩ | ⟨h1, h2⟩
  · exact .of_left (intBits_le_64 h1 h2)
  · exact .of_right (intBits_le_64 h1 h2)
theorem op_add : OpR X (binaryOp .Add) (rI0 fun i j => .int (i + j)) := opI0 fun _ _ _ _ _ _ _ q => add_int q
theorem op_sub : OpR X (binaryOp .Sub) (rI0 fun i j => .int (i - j)) := opI0 fun _ _ _ _ _ _ _ q => sub_int q
theorem op_mul : OpR X (binaryOp .Mult) (rI CMul fun i j => .int (i * j)) := opI fun _ _ _ _ _ _ _ hc q => mul_int q hc.ok
theorem op_fdiv : OpR X (binaryOp .FloorDiv) (rI CDiv fun i j => .int (i / j)) := opI fun i j _ _ _ _ _ hc q => by
  have h1 : (0 : Int) < j := hc.1
  have h2 : j < 1073741824 := hc.2
  exact floordiv_int (by omega) (by rw [Int.fdiv_eq_ediv_of_nonneg i (by omega)]; exact q) (.inl (PyProof.noPylong_small (by omega)))
theorem op_mod : OpR X (binaryOp .Mod) (rI (fun _ j => 0 < j) fun i j => .int (i % j)) := opI fun i j _ _ _ _ _ hc q => by
  have h1 : (0 : Int) < j := hc
  exact mod_int' (by omega) (by rw [Int.fmod_eq_emod_of_nonneg i (by omega)]; exact q)
theorem op_pow : OpR X (binaryOp .Pow) (rI CPow fun i j => .int (i ^ j.toNat)) := opI fun _ _ _ _ _ _ _ hc q => pow_int_small hc.1 hc.2.1 hc.2.2 q
end
noncomputable def scal : V → V → Bool
  | .non, .non => true | .non, .int _ => true | .int _, .non => true | .non, .bl _ => true | .bl _, .non => true | .non, .str _ => true | .str _, .non => true
  | .int _, .int _ => true | .bl _, .bl _ => true | .str _, .str _ => true | .byt _, .byt _ => true
  | .int _, .str _ => true | .str _, .int _ => true | .bl _, .str _ => true | .str _, .bl _ => true
  | _, _ => false
noncomputable def rEq : R2 := fun x y H Q => scal x y = true ∧ Q (.bl (decide (x = y))) H
noncomputable def rNe : R2 := fun x y H Q => scal x y = true ∧ Q (.bl (!decide (x = y))) H
theorem dec_int {i j : Int} : decide (V.int i = V.int j) = (i == j) := by
  rw [Bool.eq_iff_iff]
  simp
theorem dec_bl {i j : Bool} : decide (V.bl i = V.bl j) = (i == j) := by
  rw [Bool.eq_iff_iff]
  simp
theorem dec_str {i j : Str} : decide (V.str i = V.str j) = (i == j) := by
  rw [Bool.eq_iff_iff]
  simp
theorem dec_byt {i j : Array UInt8} : decide (V.byt i = V.byt j) = (i.toList == j.toList) := by
  rw [Bool.eq_iff_iff]
  cases i
  cases j
  simp
section
variable {X : Cx} {a b c : Expr} {ta tb tc : TE} {pos : Pos}
theorem fin_bl {pins : List (Addr × Obj)} {σ : St} {H : Hp} {s : Shared} {Q : VK} {k k' : Bool} (I : Inv X pins σ H s) (q : Q (.bl k) H) (e : k = k') : EP X pins σ Q (.bool k') s := by
  subst e
  exact ⟨.bl k, H, I, rfl, q⟩
theorem op_eq : OpR X (compareOp .Eq) rEq := by
  intro pins s σ H x y v u Q I rx ry h
  obtain ⟨hs, q⟩ := h
  cases x with
  | non =>
    cases rx
    cases y with
    | non => cases ry; exact PySem.EqNone.eq_none_none (fin_bl I q (by simp))
    | bl j => cases ry; exact PySem.EqNone.eq_none_bool (fin_bl I q (by simp))
    | int j => obtain ⟨t', rfl⟩ := ry; exact PySem.EqNone.eq_none_int (fin_bl I q (by simp))
    | str j => obtain ⟨t', rfl⟩ := ry; exact PySem.EqNone.eq_none_str (fin_bl I q (by simp))
    | _ => exact absurd (show false = true from hs) Bool.false_ne_true
  | bl i =>
    cases rx
    cases y with
    | non => cases ry; exact PySem.EqNone.eq_bool_none (fin_bl I q (by simp))
    | bl j => cases ry; exact eq_bool (fin_bl I q dec_bl)
    | str j => obtain ⟨t', rfl⟩ := ry; exact PySem.EqMixed.eq_bool_str (fin_bl I q (by simp))
    | _ => exact absurd (show false = true from hs) Bool.false_ne_true
  | int i =>
    obtain ⟨t, rfl⟩ := rx
    cases y with
    | non => cases ry; exact PySem.EqNone.eq_int_none (fin_bl I q (by simp))
    | int j => obtain ⟨t', rfl⟩ := ry; exact eq_int (fin_bl I q dec_int)
    | str j => obtain ⟨t', rfl⟩ := ry; exact PySem.EqMixed.eq_int_str (fin_bl I q (by simp))
    | _ => exact absurd (show false = true from hs) Bool.false_ne_true
  | str i =>
    obtain ⟨t, rfl⟩ := rx
    cases y with
    | non => cases ry; exact PySem.EqNone.eq_str_none (fin_bl I q (by simp))
    | bl j => cases ry; exact PySem.EqMixed.eq_str_bool (fin_bl I q (by simp))
    | int j => obtain ⟨t', rfl⟩ := ry; exact PySem.EqMixed.eq_str_int (fin_bl I q (by simp))
    | str j => obtain ⟨t', rfl⟩ := ry; exact eq_str (fin_bl I q dec_str)
    | _ => exact absurd (show false = true from hs) Bool.false_ne_true
  | byt i =>
    obtain ⟨t, rfl⟩ := rx
    cases y with
    | byt j => obtain ⟨t', rfl⟩ := ry; exact PySem.W.eq_bytes (fin_bl I q dec_byt)
    | _ => exact absurd (show false = true from hs) Bool.false_ne_true
  | _ => cases y <;> exact absurd (show false = true from hs) Bool.false_ne_true
theorem op_ne : OpR X (compareOp .NotEq) rNe := by
  intro pins s σ H x y v u Q I rx ry h
  obtain ⟨hs, q⟩ := h
  cases x with
  | non =>
    cases rx
    cases y with
    | non => cases ry; exact PySem.EqNone.ne_none_none (fin_bl I q (by simp))
    | bl j => cases ry; exact PySem.EqNone.ne_none_bool (fin_bl I q (by simp))
    | int j => obtain ⟨t', rfl⟩ := ry; exact PySem.EqNone.ne_none_int (fin_bl I q (by simp))
    | str j => obtain ⟨t', rfl⟩ := ry; exact PySem.EqNone.ne_none_str (fin_bl I q (by simp))
    | _ => exact absurd (show false = true from hs) Bool.false_ne_true
  | bl i =>
    cases rx
    cases y with
    | non => cases ry; exact PySem.EqNone.ne_bool_none (fin_bl I q (by simp))
    | bl j => cases ry; exact ne_bool (fin_bl I q (congrArg not dec_bl))
    | str j => obtain ⟨t', rfl⟩ := ry; exact PySem.EqMixed.ne_bool_str (fin_bl I q (by simp))
    | _ => exact absurd (show false = true from hs) Bool.false_ne_true
  | int i =>
    obtain ⟨t, rfl⟩ := rx
    cases y with
    | non => cases ry; exact PySem.EqNone.ne_int_none (fin_bl I q (by simp))
    | int j => obtain ⟨t', rfl⟩ := ry; exact ne_int (fin_bl I q (congrArg not dec_int))
    | str j => obtain ⟨t', rfl⟩ := ry; exact PySem.EqMixed.ne_int_str (fin_bl I q (by simp))
    | _ => exact absurd (show false = true from hs) Bool.false_ne_true
  | str i =>
    obtain ⟨t, rfl⟩ := rx
    cases y with
    | non => cases ry; exact PySem.EqNone.ne_str_none (fin_bl I q (by simp))
    | bl j => cases ry; exact PySem.EqMixed.ne_str_bool (fin_bl I q (by simp))
    | int j => obtain ⟨t', rfl⟩ := ry; exact PySem.EqMixed.ne_str_int (fin_bl I q (by simp))
    | str j => obtain ⟨t', rfl⟩ := ry; exact ne_str (fin_bl I q (congrArg not dec_str))
    | _ => exact absurd (show false = true from hs) Bool.false_ne_true
  | byt i =>
    obtain ⟨t, rfl⟩ := rx
    cases y with
    | byt j => obtain ⟨t', rfl⟩ := ry; exact PySem.W.ne_bytes (fin_bl I q (congrArg not dec_byt))
    | _ => exact absurd (show false = true from hs) Bool.false_ne_true
  | _ => cases y <;> exact absurd (show false = true from hs) Bool.false_ne_true
theorem op_lt : OpR X (compareOp .Lt) (rI0 fun i j => .bl (decide (i < j))) := opB0 fun _ _ _ _ _ _ _ q => lt_int q
theorem op_gt : OpR X (compareOp .Gt) (rI0 fun i j => .bl (decide (j < i))) := opB0 fun _ _ _ _ _ _ _ q => gt_int q
theorem pe_cmpR {op : CmpOp} {r : R2} (ho : OpR X (compareOp op) r) (ha : PE X a ta) (hb : PE X b tb) (hm : behindInMarks op b = false) : PE X (.Compare a [op] [b] pos) (tOp r ta tb) := by
  intro pins s σ H Q I h
  exact wpAny_Compare1 (binT ha hb I h fun v u s2 x y H2 I2 rx ry q => ho pins s2 σ H2 x y v u Q I2 rx ry q) hm
noncomputable def tTest (t : TE) : TT := fun σ H Q => t σ H fun x H' => ∃ k, x = .bl k ∧ Q k H'
theorem pt_cmpR {op : CmpOp} {r : R2} (ho : OpR X (compareOp op) r) (ha : PE X a ta) (hb : PE X b tb) (hm : behindInMarks op b = false) : PT X (.Compare a [op] [b] pos) (tTest (tOp r ta tb)) := by
  intro pins s σ H Q I h
  refine wpAny_isTrue_Compare1 (thn (ha pins s σ H _ I h) fun v s1 ⟨x, H1, I1, r1, q1⟩ => thn (hb pins s1 σ H1 _ I1 q1) fun u s2 ⟨y, H2, I2, r2, q2⟩ =>
    thn (ho pins s2 σ H2 x y v u _ I2 r1 r2 q2) fun c s3 ⟨z, H3, I3, r3, k, e, q3⟩ => ?_) hm
  subst e
  cases r3
  exact wpAny_truthy_bool ⟨H3, I3, q3⟩
noncomputable def TruV (K : PySem.W.Frag) (x : V) (H : Hp) (k : Bool) : Prop :=
  match x with
  | .non => k = false
  | .bl b => k = b
  | .int i => k = (i != 0)
  | .str y => y.length ≤ sizeLine ∧ k = ((y.length : Int) != 0)
  | .byt y => y.size ≤ sizeLine ∧ k = ((y.size : Int) != 0)
  | .ref p => (∃ xs, SqL K H p xs ∧ k = !xs.isEmpty) ∨ (∃ xs, SqT K H p xs ∧ k = !xs.isEmpty) ∨ ∃ kvs, H p = some (.dK kvs) ∧ k = !kvs.isEmpty
  | _ => False
theorem isEmpty_kv {κ : Type} {kvs : List (κ × V)} {vs : List (κ × Value)} (r : KV kvs vs) : (!vs.isEmpty) = !kvs.isEmpty := by
  cases r <;> rfl
theorem isEmpty_of {xs : List V} {its : List Value} (r : Vals xs its) : (!its.toArray.isEmpty) = !xs.isEmpty := by
  cases r <;> simp
theorem line63 : (sizeLine : Nat) < 2 ^ 63 := by rw [sizeLine_eq]; decide
theorem tru_ok : TruR X (fun x H Q => ∃ k, TruV X.K x H k ∧ Q k H) := by
  intro pins s σ H x v Q I rx h
  obtain ⟨k, e, q⟩ := h
  have hl := line63
  have hs : sizeLine = 16777216 := sizeLine_eq
  cases x with
  | non =>
    cases rx
    have e' : k = false := e
    subst e'
    exact truthy_none ⟨H, I, q⟩
  | bl b =>
    cases rx
    have e' : k = b := e
    subst e'
    exact wpAny_truthy_bool ⟨H, I, q⟩
  | int i =>
    obtain ⟨t, rfl⟩ := rx
    have e' : k = (i != 0) := e
    subst e'
    exact PySem.P.truthy_int ⟨H, I, q⟩
  | str y =>
    obtain ⟨t, rfl⟩ := rx
    obtain ⟨hy, e'⟩ : y.length ≤ sizeLine ∧ k = ((y.length : Int) != 0) := e
    subst e'
    exact PySem.P.truthy_str (by omega) ⟨H, I.tok _, q⟩
  | byt y =>
    obtain ⟨t, rfl⟩ := rx
    obtain ⟨hy, e'⟩ : y.size ≤ sizeLine ∧ k = ((y.size : Int) != 0) := e
    subst e'
    exact PySem.W.truthy_bytes (by omega) ⟨H, I.tok _, q⟩
  | ref p =>
    cases rx
    have e' : (∃ xs, SqL X.K H p xs ∧ k = !xs.isEmpty) ∨ (∃ xs, SqT X.K H p xs ∧ k = !xs.isEmpty) ∨ ∃ kvs, H p = some (.dK kvs) ∧ k = !kvs.isEmpty := e
    rcases e' with ⟨xs, hx, e'⟩ | ⟨xs, hx, e'⟩ | ⟨kvs, hx, e'⟩
    · subst e'
      obtain ⟨its, r, pl, hz⟩ := I.list hx
      have hlen := r.length
      exact wpAny_truthy_list pl.isList (by simp only [List.size_toArray]; omega) ⟨H, I.tok _, by rw [isEmpty_of r]; exact q⟩
    · subst e'
      obtain ⟨its, r, pl, hz⟩ := I.tuple hx
      have hlen := r.length
      exact truthy_tuple pl (by simp only [List.size_toArray]; omega) ⟨H, I.tok _, by rw [isEmpty_of r]; exact q⟩
    · subst e'
      obtain ⟨hz, hS, vs, r, m⟩ : kvs.length ≤ sizeLine ∧ (p == sysModules) = false ∧ ∃ vs, KV kvs vs ∧ s.heap.DictOf (mixKind X.prog X.w) p vs := I.hok p _ hx
      have hlen : kvs.length = vs.length := Paired.length r
      exact wpAny_truthy_dict hS m (by omega) ⟨H, I.tok _, by rw [isEmpty_kv r]; exact q⟩
  | _ => exact (show False from e).elim
theorem pt_truth (ha : PE X a ta) (he : ∀ whole, isTrue a X.env whole = (do let v ← whole; standAt a.pos; holding [v] (truthy v))) :
    PT X a (fun σ H Q => ta σ H fun x H' => ∃ k, TruV X.K x H' k ∧ Q k H') := by
  intro pins s σ H Q I h
  exact isTrue_plain (thn (ha pins s σ H _ I h) fun v s1 ⟨x, H1, I1, r1, q1⟩ => tru_ok pins s1 σ H1 x v Q I1 r1 q1) (he _)
theorem op_add_str : OpR X (binaryOp .Add) (fun x y H Q => ∃ i j, x = .str i ∧ y = .str j ∧ i.length + j.length ≤ sizeLine ∧ Q (.str (i ++ j)) H) := by
  intro pins s σ H x y v u Q I rx ry h
  obtain ⟨i, j, rfl, rfl, hz, q⟩ := h
  obtain ⟨t, rfl⟩ := rx
  obtain ⟨t', rfl⟩ := ry
  exact add_str (fun t' tk => ⟨.str (i ++ j), H, I.tok _, ⟨_, rfl⟩, q⟩) hz
theorem vals1 {x : V} {us : List Value} (r : Vals [x] us) : ∃ u, us = [u] ∧ RelV x u := by
  cases r with
  | cons r1 r2 => cases r2; exact ⟨_, rfl, r1⟩
theorem vals2 {x y : V} {us : List Value} (r : Vals [x, y] us) : ∃ u w', us = [u, w'] ∧ RelV x u ∧ RelV y w' := by
  cases r with
  | cons r1 r2 =>
    cases r2 with
    | cons r3 r4 => cases r4; exact ⟨_, _, rfl, r1, r3⟩
theorem call_max2 (hc : X.calm = true) : CallR X (.builtin "max") (fun xs H Q => ∃ i j, xs = [.int i, .int j] ∧ Q (.int (if j > i then j else i)) H) := by
  intro pins s σ H xs us Q I r h
  obtain ⟨i, j, rfl, q⟩ := h
  obtain ⟨u, w', rfl, ⟨t, rfl⟩, ⟨t', rfl⟩⟩ := vals2 r
  refine max_two_ints (I.ok.hd hc) fun h' tk k => ⟨_, H, I.kept k, ?_, q⟩
  by_cases hj : j > i
  · rw [if_pos hj, if_pos hj]; exact ⟨_, rfl⟩
  · rw [if_neg hj, if_neg hj]; exact ⟨_, rfl⟩
end
end L2
namespace L2
open PySem PySem.Spec PyProof.Rows
structure ObjM (h : Heap) (x dx C : Addr) (mA : Str → Option Value) : Prop where
  obj : h.get? x = some (PySem.W.instObj C dx)
  ns : h.Ns1 dx mA
  ne : dx ≠ x
theorem lookIn_ns {h : Heap} {dx : Addr} {mA : Str → Option Value} (n : h.Ns1 dx mA) : ∃ od, h.get? dx = some od ∧ ∀ name, PySem.W.lookIn name od = some (mA name) := by
  obtain ⟨o, es, ep, ho, hd, hk, _, hm⟩ := n
  refine ⟨o, ho, fun name => ?_⟩
  have e := hm name
  unfold nsFind findBy at e
  rw [← Array.find?_toList] at e
  unfold PySem.W.lookIn
  rw [hd]
  dsimp only
  split
  · rename_i y q
    rw [q] at e
    exact congrArg some e
  · rename_i q
    rw [q] at e
    have a : es.toList.any (·.refKey) = false := by
      rw [List.any_eq_false]
      intro y hy
      obtain ⟨z, t, hkey⟩ := hk y (Array.mem_toList_iff.mp hy)
      simp [DictEntry.refKey, hkey]
    have a' : ¬ es.toList.any (·.refKey) = true := by rw [a]; exact Bool.false_ne_true
    rw [if_neg a']
    exact congrArg some e
theorem ObjM.look {h : Heap} {x dx C : Addr} {mA : Str → Option Value} (I : ObjM h x dx C mA) : ∃ od, PySem.W.InstAt h x (PySem.W.instObj C dx) C (some od) ∧ ∀ name, PySem.W.lookIn name od = some (mA name) :=
  let ⟨od, ho, hl⟩ := lookIn_ns I.ns
  ⟨od, ⟨I.obj, rfl, rfl, ho⟩, hl⟩
section
variable {prog : Program} {w : World} {A : Around} {E : Value → Shared → Prop} {s : Shared} {K : PySem.W.Frag} {x dx C f : Addr} {mA : Str → Option Value} {name : Str} {v : Value}
end
theorem RelO.some_of {v : V} {o : Option Value} (r : RelO (some v) o) : ∃ u, o = some u ∧ RelV v u := by
  cases o with
  | none => exact (show False from r).elim
  | some u => exact ⟨u, rfl, r⟩
section
variable {P : Program} {w : World} {H H' : Hp} {h h' : Heap} {a C dx : Addr} {fs fs' : List (Str × V)}
theorem ins_get (hok : HOk P w H h) (e : H a = some (.ins C dx fs)) : ∃ mA, ObjM h a dx C mA ∧ (∀ f, RelO (fs.lookup f) (mA f)) ∧ PySem.Within mA (fs.map (·.1)) ∧ fs.length ≤ 1000 ∧ H dx = some (.own a) := by
  obtain ⟨d, z, ne, ob, mA, n, r, q⟩ := (show ObjOk P w H h a (.ins C dx fs) from hok a _ e)
  exact ⟨mA, ⟨ob, n, ne⟩, r, q, z, d⟩
end
structure Cls (K : PySem.W.Frag) (C : Addr) : Prop where
  pg : PySem.W.plainGet K C Str.empty = true
  hd : PySem.W.hasDictIn K C = true
  po : PySem.W.plainOver K C = true
  sa : PySem.W.findIn K (.ref C) "__setattr__" = some (some (.builtin "object.__setattr__"))
theorem Cls.get {K : PySem.W.Frag} {C : Addr} (c : Cls K C) (f : Str) : PySem.W.plainGet K C f = true := c.pg
section
variable {X : Cx} {pins : List (Addr × Obj)} {σ : St} {H : Hp} {s : Shared} {a C dx : Addr} {fs : List (Str × V)} {f : Str} {v : V} {A : Around} {E : Value → Shared → Prop}
end
section
variable {X : Cx} {o e value : Expr} {f : Str} {pos pos' tpos : Pos} {ta tv : TE}
end
section
variable {X : Cx} {pins : List (Addr × Obj)} {σ : St} {H : Hp} {s : Shared} {A : Around} {E : Value → Shared → Prop} {Q : Value → Shared → Prop} {c : Value} {b : Bool}
inductive TyOf (K : PySem.W.Frag) (H : Hp) : V → Value → Prop where
  | non : TyOf K H .non (.type "NoneType")
  | bl (x : Bool) : TyOf K H (.bl x) (.type "bool")
  | int (i : Int) : TyOf K H (.int i) (.type "int")
  | str (x : Str) : TyOf K H (.str x) (.type "str")
  | flt (x : UInt64) : TyOf K H (.flt x) (.type "float")
  | lst {a : Addr} {xs : List V} (e : H a = some (.lst xs)) : TyOf K H (.ref a) (.type "list")
  | frz {a : Addr} {o : Obj} {xs : List V} (e : H a = some (.frz o (.lst xs))) : TyOf K H (.ref a) (.type "list")
  | tup {a : Addr} {xs : List V} (e : H a = some (.tup xs)) : TyOf K H (.ref a) (.type "tuple")
  | dK {a : Addr} {kvs : List (Key × V)} (e : H a = some (.dK kvs)) : TyOf K H (.ref a) (.type "dict")
  | dT {a : Addr} {kvs : List (List Key × V)} (e : H a = some (.dT kvs)) : TyOf K H (.ref a) (.type "dict")
  | ins {a C dx : Addr} {fs : List (Str × V)} (e : H a = some (.ins C dx fs)) (cl : Cls K C) (ha : PySem.W.findIn K (.ref C) "__class__" = some (some (.builtin "object.__class__")))
      (hn : PySem.W.specialIn K (.builtin "object.__class__") "__get__" = some (some (.builtin "getset_descriptor.__get__"))) (htk : PySem.W.takesIn K (.builtin "object.__class__") = some true)
      (hm : PySem.W.mroIn K C (.type "object") = some true) : TyOf K H (.ref a) (.ref C)
theorem isinst_ok {x : V} {u t : Value} (I : Inv X pins σ H s) (rx : RelV x u) (ty : TyOf X.K H x t) (e : PySem.W.kitOne X.K t c = some b) (h : ∀ tk, Q (.bool b) { s with toks := tk }) :
    wpAny (model X.prog X.w) A (call (.builtin "isinstance") [u, c]) Q E s := by
  cases ty with
  | non => cases (show u = Value.none from rx); exact PySem.W.kia_one PySem.W.kitx_none I.kIn True.intro e (fun z => nomatch z) h
  | bl y => cases (show u = Value.bool y from rx); exact PySem.W.kia_one PySem.W.kitx_bool I.kIn True.intro e (fun z => nomatch z) h
  | int i => obtain ⟨t, q⟩ := (show ∃ t, u = Value.int i t from rx); cases q; exact PySem.W.kia_one PySem.W.kitx_int I.kIn True.intro e (fun z => nomatch z) h
  | str y => obtain ⟨t, q⟩ := (show ∃ t, u = Value.str y t from rx); cases q; exact PySem.W.kia_one PySem.W.kitx_str I.kIn True.intro e (fun z => nomatch z) h
  | flt y => obtain ⟨t, q⟩ := (show ∃ t, u = Value.float y t from rx); cases q; exact PySem.W.kia_one PySem.W.kitx_float I.kIn True.intro e (fun z => nomatch z) h
  | @lst a xs ea =>
    cases (show u = Value.ref a from rx)
    obtain ⟨_, _, n, _, h1⟩ := (show ObjOk X.prog X.w H s.heap a (.lst xs) from I.hok a _ ea)
    exact PySem.W.kia_one PySem.W.kitx_list I.kIn ⟨_, h1, rfl⟩ e (fun z => nomatch z) h
  | @frz a ob xs ea =>
    cases (show u = Value.ref a from rx)
    obtain ⟨_, _, _, n, _, h1⟩ := (show ObjOk X.prog X.w H s.heap a (.frz ob (.lst xs)) from I.hok a _ ea)
    exact PySem.W.kia_one PySem.W.kitx_list I.kIn ⟨_, h1, rfl⟩ e (fun z => nomatch z) h
  | @tup a xs ea =>
    cases (show u = Value.ref a from rx)
    obtain ⟨_, _, _, p⟩ := (show ObjOk X.prog X.w H s.heap a (.tup xs) from I.hok a _ ea)
    obtain ⟨o, h1, h2, _⟩ := p
    exact PySem.W.kia_one PySem.W.kitx_tuple I.kIn ⟨o, h1, h2⟩ e (fun z => nomatch z) h
  | @dK a kvs ea =>
    cases (show u = Value.ref a from rx)
    obtain ⟨_, _, vs, _, p⟩ := (show ObjOk X.prog X.w H s.heap a (.dK kvs) from I.hok a _ ea)
    obtain ⟨o, es, ep, h1, h2, _⟩ := p
    exact PySem.W.kia_one PySem.W.kitx_dict I.kIn ⟨o, h1, h2.1⟩ e (fun z => nomatch z) h
  | @dT a kvs ea =>
    cases (show u = Value.ref a from rx)
    obtain ⟨_, _, xs, _, o, es, ep, h1, h2, _⟩ := (show ObjOk X.prog X.w H s.heap a (.dT kvs) from I.hok a _ ea)
    exact PySem.W.kia_one PySem.W.kitx_dict I.kIn ⟨o, h1, h2.1⟩ e (fun z => nomatch z) h
  | @ins a C dx fs ea cl ha hn htk hm =>
    cases (show u = Value.ref a from rx)
    obtain ⟨mA, O, _⟩ := ins_get I.hok ea
    obtain ⟨od, J, _⟩ := O.look
    exact PySem.W.kia_one (PySem.W.kitx_own (cl.get _) cl.hd ha hn htk hm) I.kIn J e (fun z => nomatch z) h
end
end L2
namespace L2
open PySem PySem.Spec PyProof.Rows
structure Room (k : Nat) (A : Around) : Prop where
  hd : A.handled = none
  dp : A.depth + 3 * k + 5 < recursionLimit
  un : A.units + 16 * k + 200 < cLine
theorem Room.mono {j k : Nat} {A : Around} (r : Room k A) (h : j ≤ k) : Room j A := ⟨r.hd, by have := r.dp; omega, by have := r.un; omega⟩
theorem Room.deeper {k : Nat} {A : Around} (r : Room (k + 1) A) (env : Env) : Room k (A.deeper env) :=
  ⟨r.hd, by have := r.dp; show A.depth + 1 + 3 * k + 5 < _; omega, by have := r.un; show A.units + 3 + 16 * k + 200 < _; omega⟩
theorem Room.depth {k : Nat} {A : Around} (r : Room k A) : A.depth < recursionLimit := by have := r.dp; omega
noncomputable def tNil : TA := fun _ H Q => Q [] H
noncomputable def tCons (ta : TE) (tr : TA) : TA := fun σ H Q => ta σ H fun x H1 => tr σ H1 fun xs H2 => Q (x :: xs) H2
section
variable {X : Cx} {e : Expr} {es : List Expr} {te : TE} {t : TA} {pos : Pos}
theorem pa_nil : PA X [] tNil := fun _ _ _ _ H Q I h => Calls.spliced_nil ⟨[], H, I, .nil, h⟩
theorem pa_cons (ha : PE X e te) (hr : PA X es t) (hs : starEach (e :: es) X.env = (false, eval e X.env) :: starEach es X.env := by rfl) : PA X (e :: es) (tCons te t) := by
  intro pos pins s σ H Q I h
  rw [hs]
  show wpAny _ _ (spliced ((false, eval e X.env) :: backTo pos (starEach es X.env))) _ _ s
  refine Calls.spliced_cons (thn (ha pins s σ H _ I h) fun u s1 ⟨x, H1, I1, r1, q1⟩ => ?_)
  exact thn (hr pos pins s1 σ H1 _ I1 q1) fun us s2 ⟨xs, H2, I2, r2, q2⟩ => ⟨x :: xs, H2, I2, .cons r1 r2, q2⟩
noncomputable def tTup (t : TA) : TE := fun σ H Q => t σ H fun xs H1 => xs.length ≤ sizeLine ∧ ∀ p, H1 p = none → Q (.ref p) (upd H1 p (.tup xs))
noncomputable def tLst (t : TA) : TE := fun σ H Q => t σ H fun xs H1 => xs.length ≤ sizeLine ∧ ∀ p, H1 p = none → Q (.ref p) (upd H1 p (.lst xs))
theorem pe_tup {x1} (h : PA X es t) : PE X (.Tuple es x1 pos) (tTup t) := by
  intro pins s σ H Q I hq
  refine wpAny_Tuple_spliced (thn (h pos pins s σ H _ I hq) fun us s1 ⟨xs, H1, I1, r, z, q⟩ => ⟨by rw [← r.length]; exact z, ?_⟩)
  have hf : H1 s1.heap.objs.size = none := I1.hok.fresh (Nat.le_refl _)
  refine ⟨.ref s1.heap.objs.size, upd H1 s1.heap.objs.size (.tup xs), I1.laid (t' := s1.toks) (fun b u e => Heap.get?_push_of_some _ e) (Nat.le_refl _) ?_, rfl, q _ hf⟩
  exact ⟨z, us, r, ⟨_, Heap.get?_push_size _ rfl, rfl, _, rfl⟩⟩
theorem pe_lst (h : PA X es t) : PE X (.List es pos) (tLst t) := by
  intro pins s σ H Q I hq
  refine wpAny_List_spliced (thn (h pos pins s σ H _ I hq) fun us s1 ⟨xs, H1, I1, r, z, q⟩ => ⟨by rw [← r.length]; exact z, ?_⟩)
  have hf : H1 s1.heap.objs.size = none := I1.hok.fresh (Nat.le_refl _)
  refine ⟨.ref s1.heap.objs.size, upd H1 s1.heap.objs.size (.lst xs), I1.laid (t' := s1.toks) (fun b u e => Heap.get?_push_of_some _ e) (Nat.le_refl _) ?_, rfl, q _ hf⟩
  exact ⟨z, us, 0, r, Heap.get?_push_size _ rfl⟩
end
noncomputable abbrev Sp := List V → Hp → VK → XK → Prop
noncomputable abbrev CXT := List Env → Hp → Shared → XK → Value → Shared → Prop
structure Env0 (P : Program) (w : World) (K : PySem.W.Frag) (mg : Str → Option Value) (base : Heap) (A : Around) (outer : List Env) (s : Shared) (H : Hp) : Prop where
  frames : A.frames = some outer
  mod : Mod K mg base
  bs : ∀ b o, base.get? b = some o → s.heap.get? b = some o ∧ H b = none
  bsz : base.objs.size ≤ s.heap.objs.size
  funs : s.heap.FunFrames base outer
  frf : ∀ b ∈ frs outer, H b = none
  hok : HOk P w H s.heap
  bare : AllBare s.gens
noncomputable def CE (outer : List Env) (P : Program) (w : World) (H : Hp) (s : Shared) (Q : VK) (u : Value) (s' : Shared) : Prop :=
  ∃ v H', s'.os = s.os ∧ AllBare s'.gens ∧ Un (frs outer) [] H H' s.heap s'.heap ∧ HOk P w H' s'.heap ∧ RelV v u ∧ Q v H'
noncomputable def CR (CX : CXT) (outer : List Env) (P : Program) (w : World) (H : Hp) (s : Shared) (Q : VK) (E : XK) (r : Result) (s' : Shared) : Prop :=
  match r with
  | .ok (.ret u) => CE outer P w H s Q u s'
  | .ok _ => False
  | .error e => CX outer H s E e s'
structure FnOk (P : Program) (w : World) (K : PySem.W.Frag) (mg : Str → Option Value) (base : Heap) (CX : CXT) (k : Nat) (f : Addr) (fd : FuncData) (ps : List Str) (sp : Sp) : Prop where
  len : ∀ vs H Q E, sp vs H Q E → vs.length = ps.length
  run : ∀ (A : Around) (outer : List Env) (s : Shared) (H : Hp) (args : Args) (us : List Value) (vs : List V) (Q : VK) (E : XK), Room k A → Env0 P w K mg base A outer s H → BindsTo s fd args (ps.zip us) → Vals vs us → sp vs H Q E →
    codeAny (model P w) A (.call (.ref f) args) (CR CX outer P w H s Q E) s
theorem FnOk.mono {P : Program} {w : World} {K : PySem.W.Frag} {mg : Str → Option Value} {base : Heap} {CX : CXT} {j k : Nat} {f : Addr} {fd : FuncData} {ps : List Str} {sp : Sp} (F : FnOk P w K mg base CX j f fd ps sp) (h : j ≤ k) :
    FnOk P w K mg base CX k f fd ps sp := ⟨F.len, fun A outer s H args us vs Q E hr => F.run A outer s H args us vs Q E (hr.mono h)⟩
section
variable {X : Cx} {pins : List (Addr × Obj)} {σ : St} {H : Hp} {s s' : Shared}
theorem Inv.env0 (I : Inv X pins σ H s) : Env0 X.prog X.w X.K X.mg X.base X.A X.stack s H :=
  ⟨I.ok.frames, I.ok.mod, I.bs, Nat.le_trans I.ok.bsz I.sz, I.stack, I.stkFree, I.hok, I.bare⟩
theorem Inv.after {Q : VK} {u : Value} (I : Inv X pins σ H s) (h : CE X.stack X.prog X.w H s Q u s') : EP X pins σ Q u s' := by
  obtain ⟨v, H', os, bare, un, hok, r, q⟩ := h
  obtain ⟨hh, g, d, t, os'⟩ := s'
  obtain rfl : os' = s.os := os
  exact ⟨v, H', I.call (h' := hh) (g' := g) (d' := d) (t' := t) (ch := []) un hok bare (fun b z => absurd z (by simp)), r, q⟩
end
noncomputable def tCall (sp : Sp) (dvs : List V) (E : XK) (t : TA) : TE := fun σ H Q => t σ H fun vs H1 => sp (vs ++ dvs) H1 Q E
noncomputable def Binds (K : PySem.W.Frag) (fd : FuncData) (ps : List Str) (ds : List Value) : Prop :=
  ∀ (s : Shared) (us : List Value), K.In s.heap → (us ++ ds).length = ps.length → BindsTo s fd ⟨us, []⟩ (ps.zip (us ++ ds))
theorem Binds.all {K : PySem.W.Frag} {fd : FuncData} {ps : List Str} (h : ∀ us : List Value, us.length = ps.length → bindArgs fd ⟨us, []⟩ = pure (ps.zip us)) : Binds K fd ps [] := fun s us _ hl => by
  rw [List.append_nil] at hl ⊢
  exact .of_eq (h us hl)
noncomputable def Passes (CX : CXT) (X : Cx) (E : XK) : Prop := ∀ (pins : List (Addr × Obj)) (σ : St) (H : Hp) (s : Shared) (e : Value) (s' : Shared), Inv X pins σ H s → CX X.stack H s E e s' → X.xe e s'
section
variable {X : Cx} {CX : CXT} {k : Nat} {f C : Addr} {fd : FuncData} {ps : List Str} {sp : Sp} {dvs : List V} {ds : List Value} {E : XK} {x m : Str} {p pos apos : Pos} {e o : Expr} {es : List Expr} {ta : TE} {t : TA}
theorem run_fn {pins : List (Addr × Obj)} {σ : St} {H : Hp} {s : Shared} {Q : VK} {us : List Value} {vs : List V} (F : FnOk X.prog X.w X.K X.mg X.base CX k f fd ps sp) (hr : Room k X.A) (hb : Binds X.K fd ps ds) (hd : Vals dvs ds) (hx : Passes CX X E)
    (I : Inv X pins σ H s) (r : Vals vs us) (h : sp (vs ++ dvs) H Q E) : wpAny (model X.prog X.w) X.A (call (.ref f) us) (EP X pins σ Q) X.xe s := by
  have r2 : Vals (vs ++ dvs) (us ++ ds) := r.append hd
  have hl : (us ++ ds).length = ps.length := by rw [← r2.length]; exact F.len _ _ _ _ h
  refine wpAny_call (codeAny_mono (F.run X.A X.stack s H ⟨us, []⟩ (us ++ ds) (vs ++ dvs) Q E hr I.env0 (hb s us I.kIn hl) r2 h) fun r s' hq => ?_)
  cases r with
  | error e => exact hx pins σ H s e s' I hq
  | ok fl =>
    cases fl with
    | ret u => exact I.after hq
    | next => exact False.elim hq
    | brk => exact False.elim hq
    | cont => exact False.elim hq
theorem pe_call (F : FnOk X.prog X.w X.K X.mg X.base CX k f fd ps sp) (hr : Room k X.A) (hg : Gl X x) (hm : X.mg x = some (.ref f)) (hk : PySem.W.keepIn X.K (.ref f) = true) (hb : Binds X.K fd ps ds) (hd : Vals dvs ds) (hx : Passes CX X E)
    (ha : PA X (e :: es) t) (hdb : (x == ("__debug__" : Str)) = false := by decide) (he : starEach (e :: es) X.env = (false, eval e X.env) :: starEach es X.env := by rfl) (hpl : (backTo pos (starEach es X.env)).any (·.1) = false := by rfl) :
    PE X (.Call (.Name x p) (e :: es) [] pos) (tCall sp dvs E t) := by
  intro pins s σ H Q I h
  refine wpAny_Call_Name_kw (ld_glob I hg hm ?_ hdb)
  refine PySem.W.callWith_K (h₀ := X.base) I.ok.mod.kin hk (thn (ha pos pins s σ H _ I h) fun us s1 ⟨vs, H1, I1, r, q⟩ => ⟨I1.kIn, ?_⟩) he hpl
  exact run_fn F hr hb hd hx I1 r q
end
section
variable {X : Cx} {CX : CXT} {k : Nat} {f C : Addr} {fd : FuncData} {ps ks : List Str} {sp : Sp} {E : XK} {x m : Str} {p pos apos kpos : Pos} {e o : Expr} {es : List Expr} {kws : List Keyword} {te ta : TE} {t tk : TA} {nm : Option Str}
variable {g : List Value → List Value → List Value} {gV : List V → List V → List V}
end
structure FnScope (N P : List Str) (sc : Scope) : Prop where
  kind : sc.kind = .function
  co : sc.isCoroutine = false
  gen : sc.isGenerator = false
  nd : N.Nodup
  pre : N.take P.length = P
  par : ∀ x ∈ P, sc.names.lookup x = some .local ∨ sc.names.lookup x = some .cell
  nofree : ∀ y ∈ sc.names, y.2 ≠ .free
theorem bindL_out {kindOf : Str → Option NameKind} {x : Str} : ∀ {binds : List (Str × Value)} {m : Str → Option Value}, (∀ v, (x, v) ∉ binds) → bindL kindOf binds m x = m x
  | [], _, _ => rfl
  | (n, v) :: r, m, h => by
    unfold bindL
    rw [bindL_out fun w hw => h w (List.mem_cons_of_mem _ hw)]
    split
    · have : x ≠ n := by rintro rfl; exact h v List.mem_cons_self
      simp [this]
    · rfl
theorem bindC_out {kindOf : Str → Option NameKind} {x : Str} : ∀ {binds : List (Str × Value)} {m : Str → Option Value}, (∀ v, (x, v) ∉ binds) → bindC kindOf binds m x = m x
  | [], _, _ => rfl
  | (n, v) :: r, m, h => by
    unfold bindC
    rw [bindC_out fun w hw => h w (List.mem_cons_of_mem _ hw)]
    split
    · rfl
    · have : x ≠ n := by rintro rfl; exact h v List.mem_cons_self
      simp [this]
theorem bindL_get {kindOf : Str → Option NameKind} {x : Str} {v : Value} : ∀ {P : List Str} {vs : List Value} {i : Nat} {m : Str → Option Value}, P.Nodup → P[i]? = some x → vs[i]? = some v → kindOf x = some .local →
    bindL kindOf (P.zip vs) m x = some v
  | [], _, _, _, _, h, _, _ => by simp at h
  | _ :: _, [], _, _, _, _, h, _ => by simp at h
  | p :: P, w :: vs, 0, m, nd, h1, h2, hk => by
    simp at h1 h2; subst h1; subst h2
    show bindL kindOf ((p, w) :: P.zip vs) m p = _
    unfold bindL
    rw [bindL_out fun v hv => (List.nodup_cons.mp nd).1 (List.of_mem_zip hv).1, if_pos hk]
    simp
  | p :: P, w :: vs, i + 1, m, nd, h1, h2, hk => by
    show bindL kindOf ((p, w) :: P.zip vs) m x = _
    unfold bindL
    exact bindL_get (i := i) (List.nodup_cons.mp nd).2 (by simpa using h1) (by simpa using h2) hk
theorem bindC_get {kindOf : Str → Option NameKind} {x : Str} {v : Value} : ∀ {P : List Str} {vs : List Value} {i : Nat} {m : Str → Option Value}, P.Nodup → P[i]? = some x → vs[i]? = some v → kindOf x ≠ some .local →
    bindC kindOf (P.zip vs) m x = some v
  | [], _, _, _, _, h, _, _ => by simp at h
  | _ :: _, [], _, _, _, _, h, _ => by simp at h
  | p :: P, w :: vs, 0, m, nd, h1, h2, hk => by
    simp at h1 h2; subst h1; subst h2
    show bindC kindOf ((p, w) :: P.zip vs) m p = _
    unfold bindC
    rw [bindC_out fun v hv => (List.nodup_cons.mp nd).1 (List.of_mem_zip hv).1, if_neg hk]
    simp
  | p :: P, w :: vs, i + 1, m, nd, h1, h2, hk => by
    show bindC kindOf ((p, w) :: P.zip vs) m x = _
    unfold bindC
    exact bindC_get (i := i) (List.nodup_cons.mp nd).2 (by simpa using h1) (by simpa using h2) hk
noncomputable def start (N : List Str) (vs : List V) : St := vs.map some ++ List.replicate (N.length - vs.length) none
noncomputable def cxOf (CX : CXT) (P : Program) (w : World) (K : PySem.W.Frag) (mg : Str → Option Value) (base : Heap) (N : List Str) (qual : Str) (scope : Scope) (f : Addr) (cd : Value) (A : Around) (outer : List Env) (s : Shared) (H : Hp) (E : XK) : Cx where
  prog := P
  w := w
  K := K
  mg := mg
  base := base
  A := A.deeper (envOfC qual scope s.heap.objs.size f cd)
  N := N
  s₀ := s
  H₀ := H
  env := envOfC qual scope s.heap.objs.size f cd
  outer := outer
  stack := envOfC qual scope s.heap.objs.size f cd :: outer
  ex := []
  calm := true
  fn := fun _ => true
  pn := []
  xe := fun e s' => wpAny (model P w) (A.deeper (envOfC qual scope s.heap.objs.size f cd)) (leaving (envOfC qual scope s.heap.objs.size f cd) e) (fun _ s'' => CX outer H s E e s'') (fun e' s'' => CX outer H s E e' s'') s'
theorem cell_has {sc : Scope} {n : Nat} {x : Str} (h : sc.names.lookup x = some .cell) : ∃ c, (cellsFrom n sc.names []).lookup x = some c := by
  have q := PySem.W.cellsFrom_some sc.names n [] (.inl h)
  exact Option.isSome_iff_exists.mp q
theorem inv_start {CX : CXT} {P : Program} {w : World} {K : PySem.W.Frag} {mg : Str → Option Value} {base : Heap} {N ps : List Str} {qual : Str} {scope : Scope} {f : Addr} {cd : Value} {A : Around} {outer : List Env} {s s1 : Shared} {H : Hp} {E : XK} {us : List Value} {vs : List V}
    (S : FnScope N ps scope) (hd : A.handled = none) (e0 : Env0 P w K mg base A outer s H) (hl : vs.length = ps.length) (r : Vals vs us)
    (x : InCallC s s.heap.objs.size (bindL (envOfC qual scope s.heap.objs.size f cd).kindOf (ps.zip us) fun _ => none) (cellsFrom (s.heap.objs.size + 1) scope.names []) (bindC (envOfC qual scope s.heap.objs.size f cd).kindOf (ps.zip us) fun _ => none) s1) :
    Inv (cxOf CX P w K mg base N qual scope f cd A outer s H E) [] (start N vs) H s1 := by
  have hpl : ps.length ≤ N.length := by have := congrArg List.length S.pre; rw [List.length_take] at this; omega
  obtain ⟨h1, tk, rfl, hk⟩ := x.done
  have noA : ∀ b : Addr, b ∉ (cxOf CX P w K mg base N qual scope f cd A outer s H E).ex := fun b z => absurd (show b ∈ ([] : List Addr) from z) (by simp)
  refine ⟨⟨e0.mod, S.kind, rfl, rfl, Nat.le_refl _, fun y z c h1 h2 => ?_, fun y hy => ?_, fun y c _ h => ?_, fun _ => hd, Around.frames_deeper e0.frames, .inr ⟨rfl, rfl⟩, fun b z => absurd z (noA b), e0.bs, e0.bsz, fun b _ _ => noA b, fun b z => absurd z (noA b), e0.funs, e0.frf⟩,
    rfl, e0.bare, Un.kept hk, ⟨_, x.toInCall.ns, fun i y v h1 h2 h3 => ?_⟩, fun y c h => ⟨_, x.cell y c h⟩, e0.hok.fresh (Nat.le_refl _), fun y c h => ?_, fun p hp => absurd (show p ∈ ([] : List (Addr × Obj)) from hp) (by simp), e0.hok.kept hk, ?_⟩
  · exact name_of_addr x.apart (PySem.mem_of_lookup h1) (PySem.mem_of_lookup h2)
  · have hy : scope.names.lookup y = some .cell ∨ scope.names.lookup y = some .free := hy
    rcases hy with hy | hy
    · exact cell_has hy
    · exact absurd rfl (S.nofree _ (PySem.mem_of_lookup hy))
  · exact Nat.le_of_lt (x.above y c (PySem.mem_of_lookup h))
  · have hi : i < vs.length := by
      unfold start at h2
      by_cases hi : i < vs.length
      · exact hi
      · rw [List.getElem?_append_right (by simpa using hi)] at h2
        rw [List.getElem?_replicate] at h2
        split at h2 <;> cases h2
    have ha : vs[i]? = some v := by
      unfold start at h2
      rw [List.getElem?_append_left (by simpa using hi), List.getElem?_map] at h2
      cases e : vs[i]? with
      | none => rw [e] at h2; cases h2
      | some a => rw [e] at h2; cases h2; rfl
    obtain ⟨u, hu, rv⟩ := r.get ha
    have hp : ps[i]? = some y := by
      rw [← S.pre, List.getElem?_take_of_lt (by omega)]; exact h1
    have ndP : ps.Nodup := by rw [← S.pre]; exact S.nd.sublist (List.take_sublist _ _)
    refine ⟨u, rv, ?_⟩
    rcases S.par y (List.mem_of_getElem? hp) with k | k
    · exact .inl ⟨k, bindL_get ndP hp hu k⟩
    · obtain ⟨c, e⟩ := cell_has (n := s.heap.objs.size + 1) k
      refine .inr ⟨.inl k, c, e, ?_⟩
      have q := x.cell y c e
      rw [bindC_get ndP hp hu (by show scope.names.lookup y ≠ _; rw [k]; decide)] at q
      exact q
  · exact e0.hok.fresh (Nat.le_of_lt (x.above y c (PySem.mem_of_lookup h)))
  · unfold start
    show _ = N.length
    rw [List.length_append, List.length_map, List.length_replicate]
    omega
theorem fn_of {CX : CXT} {P : Program} {w : World} {K : PySem.W.Frag} {mg : Str → Option Value} {base : Heap} {k : Nat} {f : Addr} {name qual : Str} {params : Arguments} {body : List Stmt} {scope : Scope} {dV kV doc pm cdv ct oc : Value} {an od : Option Addr}
    {osl : Array (Option Value)} {N ps : List Str} {sp : Sp} (lk : K.lookup f = some ⟨oc, od, .func (PySem.W.fnOf name qual params body scope dV kV doc pm an cdv ct), osl⟩) (hcd : PySem.W.codeIn K cdv qual = true) (S : FnScope N ps scope)
    (len : ∀ vs H Q E, sp vs H Q E → vs.length = ps.length)
    (hbody : ∀ (A : Around) (outer : List Env) (s : Shared) (H : Hp) (vs : List V) (Q : VK) (E : XK), Room k (A.deeper (envOfC qual scope s.heap.objs.size f cdv)) → sp vs H Q E →
      ∃ t, PSs (cxOf CX P w K mg base N qual scope f cdv A outer s H E) body t ∧ t { nx := fun _ H' => Q .non H', rt := Q } (start N vs) H) :
    FnOk P w K mg base CX (k + 1) f (PySem.W.fnOf name qual params body scope dV kV doc pm an cdv ct) ps sp := by
  refine ⟨len, fun A outer s H args us vs Q E hr e0 hb r hsp => ?_⟩
  have hl := len _ _ _ _ hsp
  have KX : K.In s.heap := e0.mod.kin.keeps fun b o e => (e0.bs b o e).1
  have lim : s.heap.NoLimit := e0.mod.nolimit.keeps fun b o e => (e0.bs b o e).1
  have hkind : ∀ y ∈ ps.zip us, scope.names.lookup y.1 = some .local ∨ (scope.names.lookup y.1 = some .cell ∧ ((cellsFrom (s.heap.objs.size + 1) scope.names []).lookup y.1).isSome = true) := fun ⟨n, v⟩ hy => by
    rcases S.par n (List.of_mem_zip hy).1 with q | q
    · exact .inl q
    · exact .inr ⟨q, PySem.W.cellsFrom_some _ _ _ (.inl q)⟩
  refine codeAny_call_function hr.depth (KX _ _ lk) rfl S.co S.gen rfl (PySem.W.codeRec_of KX hcd) (hb _ _ _ _ ?_)
  refine wpAny_newFunctionEnv_cells S.kind hkind fun env he s1 x => ?_
  subst he
  refine ⟨lim.keeps x.toInCall.keep, codeAny_func ?_⟩
  obtain ⟨t, ht, hq⟩ := hbody A outer s H vs Q E (hr.deeper _) hsp
  have I : Inv (cxOf CX P w K mg base N qual scope f cdv A outer s H E) [] (start N vs) H s1 := inv_start S hr.hd e0 hl r x
  refine wpAny_mono (ht [] s1 (start N vs) H _ I hq) (fun fl s' hs => ?_) fun e s' hs => hs
  have fin : ∀ {σ' : St} {H' : Hp} {v : V} {u : Value}, Inv (cxOf CX P w K mg base N qual scope f cdv A outer s H E) [] σ' H' s' → RelV v u → Q v H' → CE outer P w H s Q u s' :=
    fun {σ' H' v u} J rv q => ⟨v, H', J.os, J.bare, J.base, J.hok, rv, q⟩
  cases fl with
  | ret u =>
    obtain ⟨v, σ', H', J, rv, q⟩ := hs
    exact fin J rv q
  | next =>
    obtain ⟨σ', H', J, q⟩ := hs
    exact fin (v := V.non) (u := Value.none) J rfl q
  | brk =>
    obtain ⟨_, _, _, q⟩ := hs
    exact False.elim q
  | cont =>
    obtain ⟨_, _, _, q⟩ := hs
    exact False.elim q
end L2
namespace L2
open PySem PySem.Spec PyProof.Rows
section
variable {X : Cx} {x : Str} {p pos : Pos} {e : Expr} {es : List Expr} {t : TA} {id T : String} {r : List V → Hp → VK → Prop}
noncomputable def tCB (r : List V → Hp → VK → Prop) (t : TA) : TE := fun σ H Q => t σ H fun vs H1 => r vs H1 Q
theorem pe_callB (hc : CallR X (.builtin id) r) (hg : Gl X x) (hm : X.mg x = none) (hv : bootBuiltins x = some (.builtin id)) (ha : PA X (e :: es) t) (hn : x ≠ "__name__" := by decide) (hdb : (x == ("__debug__" : Str)) = false := by decide)
    (he : starEach (e :: es) X.env = (false, eval e X.env) :: starEach es X.env := by rfl) (hpl : (backTo pos (starEach es X.env)).any (·.1) = false := by rfl) : PE X (.Call (.Name x p) (e :: es) [] pos) (tCB r t) := by
  intro pins s σ H Q I h
  refine wpAny_Call_Name_kw (ld_blt I hg hm hv ?_ hn hdb)
  exact PyProof.Rows.callWith_builtin1 (thn (ha pos pins s σ H _ I h) fun us s1 ⟨vs, H1, I1, r1, q1⟩ => hc pins s1 σ H1 vs us Q I1 r1 q1) he hpl
theorem pe_callTy (hc : CallR X (.type T) r) (hg : Gl X x) (hm : X.mg x = none) (hv : bootBuiltins x = some (.type T)) (ha : PA X (e :: es) t) (hn : x ≠ "__name__" := by decide) (hdb : (x == ("__debug__" : Str)) = false := by decide)
    (he : starEach (e :: es) X.env = (false, eval e X.env) :: starEach es X.env := by rfl) (hpl : (backTo pos (starEach es X.env)).any (·.1) = false := by rfl) : PE X (.Call (.Name x p) (e :: es) [] pos) (tCB r t) := by
  intro pins s σ H Q I h
  refine wpAny_Call_Name_kw (ld_blt I hg hm hv ?_ hn hdb)
  exact PyProof.Rows.callWith_type1 (thn (ha pos pins s σ H _ I h) fun us s1 ⟨vs, H1, I1, r1, q1⟩ => hc pins s1 σ H1 vs us Q I1 r1 q1) he hpl
end
end L2
namespace HT
open PySem PyProof.Rows
section
open PySem.SeqAt
open PySem.AutoSeq1 (wpAny_loadPart')
open PySem.MeetsSeq PySem.MeetsSeq2 PySem.MeetsSeq3
end
section
variable {prog : Program} {w : World} {A : Around} {E : Value → Shared → Prop} {s : Shared}
noncomputable def sIx (n d : Nat) : Option Int → Nat
  | none => d
  | some v => if v < 0 then (v + (n : Int)).toNat else min v.toNat n
theorem sIx_none (n d : Nat) : sIx n d none = d := rfl
theorem sIx_nat (n d k : Nat) : sIx n d (some (k : Int)) = min k n := by
  show (if (k : Int) < 0 then ((k : Int) + (n : Int)).toNat else min (k : Int).toNat n) = min k n
  rw [if_neg (by omega), Int.toNat_natCast]
end
end HT
namespace L2
open PySem PySem.Spec PyProof.Rows
noncomputable abbrev TO := St → Hp → (Option Int → Hp → Prop) → Prop
noncomputable def PO (X : Cx) (e : Option Expr) (t : TO) : Prop :=
  ∀ (pins : List (Addr × Obj)) (s : Shared) (σ : St) (H : Hp) (Q : Option Int → Hp → Prop), Inv X pins σ H s → t σ H Q →
    wpAny (model X.prog X.w) X.A (evalPart e X.env) (fun u s' => ∃ o H', Inv X pins σ H' s' ∧ IsPart u o ∧ Q o H') X.xe s
noncomputable def tNoPart : TO := fun _ H Q => Q none H
noncomputable def tPart (t : TE) : TO := fun σ H Q => t σ H fun x H1 => ∃ i, x = .int i ∧ Q (some i) H1
section
variable {X : Cx} {e : Expr} {te : TE} {lo hi : Option Expr} {tl th : TO} {pos p2 : Pos}
theorem po_none : PO X none tNoPart := by
  intro pins s σ H Q I h
  rw [evalPart_none]
  exact wpAny_pure ⟨none, H, I, .none, h⟩
theorem po_some (h : PE X e te) : PO X (some e) (tPart te) := by
  intro pins s σ H Q I hw
  rw [evalPart_some]
  refine thn (h pins s σ H _ I hw) fun u s1 ⟨x, H1, I1, r1, q1⟩ => ?_
  obtain ⟨i, rfl, q⟩ := q1
  obtain ⟨t, rfl⟩ := r1
  exact ⟨some i, H1, I1, .int i t, q⟩
noncomputable def SlR (X : Cx) (r : V → Option Int → Option Int → Hp → VK → Prop) : Prop :=
  ∀ (pins : List (Addr × Obj)) (s : Shared) (σ : St) (H : Hp) (x : V) (v vl vu : Value) (lo hi : Option Int) (sl : Addr) (Q : VK), Inv X pins σ H s → RelV x v → s.heap.IsSliceOf sl vl vu .none → IsPart vl lo → IsPart vu hi → r x lo hi H Q →
    ∃ T id, typeLookup (.type T) "__getitem__" = pure (some (.builtin id)) ∧ s.TypeIs v T ∧ wpAny (model X.prog X.w) X.A (getItem v (.ref sl)) (EP X pins σ Q) X.xe s
noncomputable def tSl (r : V → Option Int → Option Int → Hp → VK → Prop) (te : TE) (tl th : TO) : TE := fun σ H Q => te σ H fun x H1 => tl σ H1 fun l H2 => th σ H2 fun u H3 => r x l u H3 Q
theorem pe_slice {r : V → Option Int → Option Int → Hp → VK → Prop} (hr : SlR X r) (he : PE X e te) (hl : PO X lo tl) (hu : PO X hi th) : PE X (.Subscript e (.Slice lo hi none p2) pos) (tSl r te tl th) := by
  intro pins s σ H Q I h
  refine Subscript_ (thn (he pins s σ H _ I h) fun v s1 ⟨x, H1, I1, r1, q1⟩ => ?_)
  refine wpAny_Slice (thn (hl pins s1 σ H1 _ I1 q1) fun vl s2 ⟨l, H2, I2, pl, q2⟩ => thn (hu pins s2 σ H2 _ I2 q2) fun vu s3 ⟨u, H3, I3, pu, q3⟩ => ?_)
  rw [evalPart_none]
  refine wpAny_pure ?_
  have I4 : Inv X pins σ H3 { s3 with heap := s3.heap.push { cls := .type "slice", data := .fields #[vl, vu, .none] } } := I3.kept (t' := s3.toks) fun b ob q => Heap.get?_push_of_some _ q
  obtain ⟨T, id, hT, ht, hg⟩ := hr pins { s3 with heap := s3.heap.push { cls := .type "slice", data := .fields #[vl, vu, .none] } } σ H3 x v vl vu l u s3.heap.objs.size Q I4 r1 (Heap.IsSliceOf.new ..) pl pu q3
  show wpAny (model X.prog X.w) X.A (subscriptTail e (.Slice lo hi none p2) v (.ref s3.heap.objs.size)) (EP X pins σ Q) X.xe { s3 with heap := s3.heap.push { cls := .type "slice", data := .fields #[vl, vu, .none] } }
  exact tail_any (ops := [.ref s3.heap.objs.size, v]) ht hT hg (by with_unfolding_all rfl)
noncomputable def cutV (xs : List V) (lo hi : Option Int) : List V := (xs.drop (HT.sIx xs.length 0 lo)).take (HT.sIx xs.length xs.length hi - HT.sIx xs.length 0 lo)
theorem cutV_length (xs : List V) (lo hi : Option Int) : (cutV xs lo hi).length ≤ xs.length := by
  unfold cutV
  rw [List.length_take, List.length_drop]
  omega
end
end L2
namespace L2
open PySem PySem.Spec PyProof.Rows
noncomputable def ixN (n : Nat) (i : Int) : Option Nat := if 0 ≤ i then (if i < n then some i.toNat else none) else if -(n : Int) ≤ i then some (i + n).toNat else none
noncomputable def atI {α : Type} (xs : List α) (i : Int) : Option α := (ixN xs.length i).bind fun j => xs[j]?
theorem ixN_seq {n : Nat} {i : Int} {j : Nat} (h : ixN n i = some j) : seqIndex? i n = some j ∧ j < n ∧ -(n : Int) ≤ i ∧ i < n := by
  unfold ixN at h
  by_cases h0 : 0 ≤ i
  · rw [if_pos h0] at h
    by_cases h1 : i < n
    · rw [if_pos h1] at h
      have e : i.toNat = j := Option.some.inj h
      exact ⟨by rw [seqIndex_of h0 h1, e], by omega, by omega, h1⟩
    · rw [if_neg h1] at h; cases h
  · rw [if_neg h0] at h
    by_cases h1 : -(n : Int) ≤ i
    · rw [if_pos h1] at h
      have e : (i + n).toNat = j := Option.some.inj h
      exact ⟨by rw [seqIndex_neg (by omega) h1, e], by omega, h1, by omega⟩
    · rw [if_neg h1] at h; cases h
theorem atI_get {α : Type} {xs : List α} {i : Int} {v : α} (h : atI xs i = some v) : ∃ j, seqIndex? i xs.length = some j ∧ xs[j]? = some v ∧ j < xs.length ∧ -(xs.length : Int) ≤ i ∧ i < xs.length := by
  unfold atI at h
  cases e : ixN xs.length i with
  | none => rw [e] at h; cases h
  | some j =>
    rw [e] at h
    obtain ⟨h1, h2, h3, h4⟩ := ixN_seq e
    exact ⟨j, h1, h, h2, h3, h4⟩
theorem atI_nat {α : Type} {xs : List α} {j : Nat} {v : α} (h : xs[j]? = some v) : atI xs (j : Int) = some v := by
  have hj : j < xs.length := (List.getElem?_eq_some_iff.mp h).1
  have e : ixN xs.length (j : Int) = some j := by
    unfold ixN
    rw [if_pos (by omega), if_pos (by omega)]; simp
  unfold atI; rw [e]; exact h
noncomputable def PlainIx (b : Expr) : Prop := ∀ o i, subscripted b false o i = operate [o, i] (getItem o i)
noncomputable def IxR (X : Cx) (r : R2) : Prop :=
  ∀ (value slice : Expr) (pins : List (Addr × Obj)) (s : Shared) (σ : St) (H : Hp) (x y : V) (v u : Value) (Q : VK), Inv X pins σ H s → RelV x v → RelV y u → r x y H Q →
    subscripted slice false v u = operate [v, u] (getItem v u) → wpAny (model X.prog X.w) X.A (subscriptTail value slice v u) (EP X pins σ Q) X.xe s
noncomputable def MtR (X : Cx) (id : String) (r : V → List V → Hp → VK → Prop) : Prop :=
  ∀ (pins : List (Addr × Obj)) (s : Shared) (σ : St) (H : Hp) (x : V) (xs : List V) (v : Value) (us : List Value) (Q : VK), Inv X pins σ H s → RelV x v → Vals xs us → r x xs H Q →
    wpAny (model X.prog X.w) X.A (call (.builtin id) (v :: us)) (EP X pins σ Q) X.xe s
section
variable {X : Cx} {a b : Expr} {ta tb : TE} {pos : Pos}
theorem pe_ix {r : R2} (hr : IxR X r) (ha : PE X a ta) (hb : PE X b tb) (hs : PlainIx b) : PE X (.Subscript a b pos) (tOp r ta tb) := by
  intro pins s σ H Q I h
  exact Subscript_ (binT ha hb I h fun v u s2 x y H2 I2 rx ry q => hr a b pins s2 σ H2 x y v u Q I2 rx ry q (hs _ _))
noncomputable def rIxL (K : PySem.W.Frag) : R2 := fun x y H Q => ∃ p xs i v, x = .ref p ∧ y = .int i ∧ SqL K H p xs ∧ atI xs i = some v ∧ Q v H
noncomputable def rIxT (K : PySem.W.Frag) : R2 := fun x y H Q => ∃ p xs i v, x = .ref p ∧ y = .int i ∧ SqT K H p xs ∧ atI xs i = some v ∧ Q v H
noncomputable def rIxS : R2 := fun x y H Q => ∃ z i c, x = .str z ∧ y = .int i ∧ z.length ≤ sizeLine ∧ atI z.cps.toList i = some c ∧ Q (.str ⟨#[c]⟩) H
theorem ix_list : IxR X (rIxL X.K) := by
  intro value slice pins s σ H x y v u Q I rx ry h hs
  obtain ⟨p, xs, i, z, rfl, rfl, hq, he, q⟩ := h
  cases rx
  obtain ⟨t, rfl⟩ := ry
  obtain ⟨its, r, pl, hz⟩ := I.list hq
  obtain ⟨j, h1, h2, h3, h4, h5⟩ := atI_get he
  obtain ⟨w, ew, rw'⟩ := r.get h2
  have hl := r.length
  have hn := line63
  have fin : EP X pins σ Q w s := ⟨z, H, I, rw', q⟩
  by_cases h0 : 0 ≤ i
  · have hj : i.toNat = j := by
      rw [seqIndex_of h0 h5] at h1
      exact Option.some.inj h1
    exact item_listR pl.isList h0 (by omega) (by rw [hj]; simpa using ew) fin hs
  · have hj : (i + (its.toArray.size : Int)).toNat = j := by
      rw [seqIndex_neg (by omega) h4] at h1
      rw [List.size_toArray, ← hl]
      exact Option.some.inj h1
    exact subscriptTail_builtinR (x := w) pl.isList.typeIs slot_list_getitem.lookup
      (wpAny_getItem_list_neg (Q := fun r s' => r = w ∧ EP X pins σ Q r s') pl.isList (by omega) (by rw [List.size_toArray] <;> omega) (by omega) (by rw [hj]; simpa using ew) ⟨rfl, fin⟩) hs
theorem ix_tup : IxR X (rIxT X.K) := by
  intro value slice pins s σ H x y v u Q I rx ry h hs
  obtain ⟨p, xs, i, z, rfl, rfl, hq, he, q⟩ := h
  cases rx
  obtain ⟨t, rfl⟩ := ry
  obtain ⟨its, r, pl, hz⟩ := I.tuple hq
  obtain ⟨j, h1, h2, h3, h4, h5⟩ := atI_get he
  obtain ⟨w, ew, rw'⟩ := r.get h2
  have hl := r.length
  have hn := line63
  have fin : EP X pins σ Q w s := ⟨z, H, I, rw', q⟩
  exact subscriptTail_builtinR (x := w) pl.typeIs slot_tuple_getitem.lookup
    (getItem_tuple (j := j) (Q := fun r s' => r = w ∧ EP X pins σ Q r s') pl (by omega) (by omega) (by rw [List.size_toArray, ← hl]; exact h1) (by simpa using ew) ⟨rfl, fin⟩) hs
theorem ix_str : IxR X rIxS := by
  intro value slice pins s σ H x y v u Q I rx ry h hs
  obtain ⟨z, i, c, rfl, rfl, hz, he, q⟩ := h
  obtain ⟨t, rfl⟩ := rx
  obtain ⟨t', rfl⟩ := ry
  obtain ⟨j, h1, h2, h3, h4, h5⟩ := atI_get he
  have hl : z.cps.toList.length = z.length := by simp [Str.length]
  rw [hl] at h1 h4 h5
  have hn := line63
  exact tail_any (typeIs_str s z t) slot_str_getitem.lookup (getItem_str (c := c) (by
    have e1 : decide (i < -(2 ^ 63 : Int)) = false := decide_eq_false (by omega)
    have e2 : decide (i ≥ 2 ^ 63) = false := decide_eq_false (by omega)
    rw [e1, e2, Bool.or_false]) (by rw [h1]; simpa using h2) ⟨.str ⟨#[c]⟩, H, I.tok _, ⟨_, rfl⟩, q⟩) hs
theorem mapSeq_set (its : List Value) (n j : Nat) (u : Value) : Obj.mapSeq (·.setIfInBounds j u) { cls := .type "list", data := .seq its.toArray n } = { cls := .type "list", data := .seq (its.set j u).toArray n } := by
  simp [Obj.mapSeq]
theorem Inv.lst {pins : List (Addr × Obj)} {σ : St} {H : Hp} {s : Shared} {p : Addr} {xs : List V} (I : Inv X pins σ H s) (h : H p = some (.lst xs)) :
    ∃ (its : List Value) (n : Nat), Vals xs its ∧ s.heap.get? p = some { cls := .type "list", data := .seq its.toArray n } ∧ xs.length ≤ sizeLine := by
  obtain ⟨z, its, n, r, e⟩ := I.hok p _ h
  exact ⟨its, n, r, e, z⟩
theorem Inv.lstUpd {pins : List (Addr × Obj)} {σ : St} {H : Hp} {s : Shared} {p : Addr} {xs ys : List V} {its its' : List Value} {n n' : Nat} {f : Obj → Obj} (I : Inv X pins σ H s) (h : H p = some (.lst xs))
    (ho : s.heap.get? p = some { cls := .type "list", data := .seq its.toArray n }) (hf : f { cls := .type "list", data := .seq its.toArray n } = { cls := .type "list", data := .seq its'.toArray n' }) (r : Vals ys its') (hz : ys.length ≤ sizeLine) (t : Nat) :
    Inv X pins σ (upd H p (.lst ys)) { s with heap := s.heap.update p f, toks := t } := by
  have e : (s.heap.update p f).get? p = some { cls := .type "list", data := .seq its'.toArray n' } := by
    rw [Heap.get?_update_self f ho (by rw [hf] <;> rfl), hf]
  refine I.write (x := p) (e := p) (by rw [h]; trivial) (.inl rfl) (fun b u hb q => (Heap.get?_update_other _ _ (Ne.symm hb)).trans q) ⟨_, e⟩ ?_
  exact ⟨hz, its', n', r, e⟩
noncomputable def rSetL : V → V → V → Hp → (Hp → Prop) → Prop := fun o i v H Q => ∃ p xs k j, o = .ref p ∧ i = .int k ∧ H p = some (.lst xs) ∧ ixN xs.length k = some j ∧ Q (upd H p (.lst (xs.set j v)))
theorem set_list : PSet X rSetL := by
  intro pins s σ H o i v ov iv u Q I ro ri rv h
  obtain ⟨p, xs, k, j, rfl, rfl, hp, hj, q⟩ := h
  cases ro
  obtain ⟨t, rfl⟩ := ri
  obtain ⟨its, n, r, ho, hz⟩ := I.lst hp
  obtain ⟨h1, h2, h3, h4⟩ := ixN_seq hj
  have hl := r.length
  have hn := line63
  have I' : Inv X pins σ (upd H p (.lst (xs.set j v))) { s with heap := s.heap.update p (Obj.mapSeq (·.setIfInBounds j u)) } :=
    I.lstUpd hp ho (mapSeq_set its n j u) (r.set rv j) (by rw [List.length_set]; exact hz) s.toks
  by_cases h0 : 0 ≤ k
  · have hk : k.toNat = j := by
      rw [seqIndex_of h0 h4] at h1
      exact Option.some.inj h1
    exact PySem.W.ki_setAt ho h0 (by omega) (by rw [List.size_toArray, ← hl]; exact h4) (by rw [hk]; exact ⟨_, I', q⟩)
  · have hk : (k + (its.toArray.size : Int)).toNat = j := by
      rw [seqIndex_neg (by omega) h3] at h1
      rw [List.size_toArray, ← hl]
      exact Option.some.inj h1
    exact PySem.W.ki_setBack ho (by omega) (by rw [List.size_toArray, ← hl]; exact h3) (by omega) (by rw [hk]; exact ⟨_, I', q⟩)
theorem slice_bounds (lo hi : Option Int) (n : Nat) : (sliceBounds lo hi none n).1 = ((HT.sIx n 0 lo : Nat) : Int) ∧ (sliceBounds lo hi none n).2.1 = ((HT.sIx n n hi : Nat) : Int) ∧ (sliceBounds lo hi none n).2.2 = 1 := by
  refine ⟨?_, ?_, rfl⟩
  · cases lo with
    | none => simp [sliceBounds, HT.sIx]
    | some i =>
      simp only [sliceBounds, HT.sIx, Option.getD_none, show (1 : Int) > 0 by decide, if_true]
      by_cases h : i < 0
      · simp only [h, if_true] <;> omega
      · simp only [h, if_false] <;> omega
  · cases hi with
    | none => simp [sliceBounds, HT.sIx]
    | some i =>
      simp only [sliceBounds, HT.sIx, Option.getD_none, show (1 : Int) > 0 by decide, if_true]
      by_cases h : i < 0
      · simp only [h, if_true] <;> omega
      · simp only [h, if_false] <;> omega
theorem slicePick_cut (its : List Value) (lo hi : Option Int) : slicePick its.toArray lo hi none = ((its.drop (HT.sIx its.length 0 lo)).take (HT.sIx its.length its.length hi - HT.sIx its.length 0 lo)).toArray := by
  obtain ⟨h1, h2, h3⟩ := slice_bounds lo hi its.toArray.size
  unfold slicePick
  rw [h1, h2, h3]
  simp only [sliceRange_one, pick_run, List.size_toArray] <;> rfl
noncomputable def rSlL (K : PySem.W.Frag) : V → Option Int → Option Int → Hp → VK → Prop := fun x lo hi H Q => ∃ a xs, x = .ref a ∧ SqL K H a xs ∧ ∀ p, H p = none → Q (.ref p) (upd H p (.lst (cutV xs lo hi)))
theorem sl_list : SlR X (rSlL X.K) := by
  intro pins s σ H x v vl vu lo hi sl Q I rx hs pl pu h
  obtain ⟨a, xs, rfl, hx, q⟩ := h
  cases rx
  obtain ⟨its, r, ht, hz⟩ := I.list hx
  have hlen := r.length
  refine ⟨"list", _, slot_list_getitem.lookup, ht.isList.typeIs, ?_⟩
  refine wpAny_getItem_list_slice ht.isList hs pl pu .none (by simp) ?_ (by rw [List.size_toArray] <;> omega)
  rw [slicePick_cut, ← hlen]
  refine ⟨.ref s.heap.objs.size, _, I.laid (t' := s.toks) (o := .lst (cutV xs lo hi)) (fun b ob q => Heap.get?_push_of_some _ q) (Nat.le_refl _) ?_, rfl, q _ (I.hok.fresh (Nat.le_refl _))⟩
  exact ⟨Nat.le_trans (cutV_length xs lo hi) hz, _, 0, (r.drop (HT.sIx xs.length 0 lo)).take (HT.sIx xs.length xs.length hi - HT.sIx xs.length 0 lo), Heap.get?_push_size _ rfl⟩
noncomputable def flatV : V → Bool
  | .non => true
  | .bl _ => true
  | .int _ => true
  | .str _ => true
  | _ => false
noncomputable def eqV : V → V → Bool
  | .non, .non => true
  | .bl a, .bl b => a == b
  | .bl a, .int b => (if a then 1 else 0) == b
  | .int a, .bl b => a == (if b then 1 else 0)
  | .int a, .int b => a == b
  | .str a, .str b => a == b
  | _, _ => false
theorem eqAt_V {A : Around} {s : Shared} {y x : V} {u v : Value} (ry : RelV y u) (rx : RelV x v) (fy : flatV y = true) (fx : flatV x = true) : SeqAt.EqAt A s u v (eqV y x) := by
  cases y with
  | non =>
    cases ry
    cases x with
    | non => cases rx; exact SeqAt.EqAt.same _
    | bl b => cases rx; exact SeqAt.EqAt.none_bool b
    | int b => obtain ⟨t, rfl⟩ := rx; exact SeqAt.EqAt.none_int b t
    | str b => obtain ⟨t, rfl⟩ := rx; exact SeqAt.EqAt.none_str b t
    | _ => exact absurd (show false = true from fx) Bool.false_ne_true
  | bl a =>
    cases ry
    cases x with
    | non => cases rx; exact SeqAt.EqAt.bool_none a
    | bl b => cases rx; exact SeqAt.EqAt.bool_bool a b
    | int b => obtain ⟨t, rfl⟩ := rx; exact SeqAt.EqAt.bool_int a b t
    | str b => obtain ⟨t, rfl⟩ := rx; exact SeqAt.EqAt.bool_str a b t
    | _ => exact absurd (show false = true from fx) Bool.false_ne_true
  | int a =>
    obtain ⟨t', rfl⟩ := ry
    cases x with
    | non => cases rx; exact SeqAt.EqAt.int_none a t'
    | bl b => cases rx; exact SeqAt.EqAt.int_bool a t' b
    | int b => obtain ⟨t, rfl⟩ := rx; exact SeqAt.EqAt.int_int a t' b t
    | str b => obtain ⟨t, rfl⟩ := rx; exact SeqAt.EqAt.int_str a t' b t
    | _ => exact absurd (show false = true from fx) Bool.false_ne_true
  | str a =>
    obtain ⟨t', rfl⟩ := ry
    cases x with
    | non => cases rx; exact SeqAt.EqAt.str_none a t'
    | bl b => cases rx; exact SeqAt.EqAt.str_bool a t' b
    | int b => obtain ⟨t, rfl⟩ := rx; exact SeqAt.EqAt.str_int a t' b t
    | str b => obtain ⟨t, rfl⟩ := rx; exact SeqAt.EqAt.str_str a t' b t
    | _ => exact absurd (show false = true from fx) Bool.false_ne_true
  | _ => exact absurd (show false = true from fy) Bool.false_ne_true
noncomputable def eqU (x : V) (u : Value) : Bool := match u with
  | .none => eqV .non x
  | .bool b => eqV (.bl b) x
  | .int i _ => eqV (.int i) x
  | .str z _ => eqV (.str z) x
  | _ => false
theorem eqU_of {x y : V} {u : Value} (r : RelV y u) (f : flatV y = true) : eqU x u = eqV y x := by
  cases y with
  | non => cases r; rfl
  | bl b => cases r; rfl
  | int i => obtain ⟨t, rfl⟩ := r; rfl
  | str z => obtain ⟨t, rfl⟩ := r; rfl
  | _ => exact absurd (show false = true from f) Bool.false_ne_true
theorem any_eqU {x : V} : ∀ {xs : List V} {us : List Value}, Vals xs us → xs.all flatV = true → us.any (eqU x) = xs.any fun y => eqV y x
  | _, _, .nil, _ => rfl
  | y :: xs, u :: us, .cons r t, f => by
    rw [List.all_cons, Bool.and_eq_true] at f
    rw [List.any_cons, List.any_cons, eqU_of r f.1, any_eqU t f.2]
theorem mem_eqAt {A : Around} {s : Shared} {x : V} {v : Value} (rx : RelV x v) (fx : flatV x = true) : ∀ {xs : List V} {us : List Value}, Vals xs us → xs.all flatV = true → ∀ u ∈ us, SeqAt.EqAt A s u v (eqU x u)
  | _, _, .nil, _ => fun u hu => by cases hu
  | y :: xs, u :: us, .cons r t, f => fun u' hu => by
    rw [List.all_cons, Bool.and_eq_true] at f
    rcases List.mem_cons.mp hu with rfl | hu
    · rw [eqU_of r f.1]; exact eqAt_V r rx f.1 fx
    · exact mem_eqAt rx fx t f.2 u' hu
noncomputable def inV (x : V) (xs : List V) : Bool := xs.any fun y => eqV y x
noncomputable def rIn (K : PySem.W.Frag) (neg : Bool) : R2 := fun x y H Q => ∃ p xs, y = .ref p ∧ (SqL K H p xs ∨ SqT K H p xs) ∧ flatV x = true ∧ xs.all flatV = true ∧ Q (.bl (if neg then !inV x xs else inV x xs)) H
theorem op_in_seq : OpR X (compareOp .In) (rIn X.K false) := by
  intro pins s σ H x y v u Q I rx ry h
  obtain ⟨p, xs, rfl, hq, fx, fs, q⟩ := h
  cases ry
  rcases hq with hq | hq
  · obtain ⟨its, r, pl, hz⟩ := I.list hq
    refine SeqAt.in_listAt (eqU x) pl.isList (fun w hw => mem_eqAt rx fx r fs w (by simpa using hw)) ⟨.bl _, H, I, rfl, ?_⟩
    rw [show its.toArray.any (eqU x) = its.any (eqU x) by simp, any_eqU r fs]
    exact q
  · obtain ⟨its, r, pl, hz⟩ := I.tuple hq
    refine SeqAt.in_tupleAt (eqU x) pl (fun w hw => mem_eqAt rx fx r fs w (by simpa using hw)) ⟨.bl _, H, I, rfl, ?_⟩
    rw [show its.toArray.any (eqU x) = its.any (eqU x) by simp, any_eqU r fs]
    exact q
theorem call_len_seq : CallR X (.builtin "len") (fun xs H Q => ∃ p ys, xs = [.ref p] ∧ (SqL X.K H p ys ∨ SqT X.K H p ys) ∧ Q (.int ys.length) H) := by
  intro pins s σ H xs us Q I r h
  obtain ⟨p, ys, rfl, hq, q⟩ := h
  obtain ⟨u, rfl, rx⟩ := vals1 r
  cases rx
  have hn := line63
  rcases hq with hq | hq
  · obtain ⟨its, r', pl, hz⟩ := I.list hq
    have hlen := r'.length
    exact Calls.call_len_list pl.isList (by simp only [List.size_toArray] <;> omega) ⟨.int ys.length, H, I.tok _, ⟨s.toks + 1, by rw [List.size_toArray, hlen]⟩, q⟩
  · obtain ⟨its, r', pl, hz⟩ := I.tuple hq
    have hlen := r'.length
    exact len_tuple pl (by simp only [List.size_toArray] <;> omega) ⟨.int ys.length, H, I.tok _, ⟨s.toks + 1, by rw [List.size_toArray, hlen]⟩, q⟩
theorem call_list_of : CallR X (.type "list") (fun xs H Q => ∃ p ys, xs = [.ref p] ∧ (SqL X.K H p ys ∨ SqT X.K H p ys) ∧ ∀ l, H l = none → Q (.ref l) (upd H l (.lst ys))) := by
  intro pins s σ H xs us Q I r h
  obtain ⟨p, ys, rfl, hq, q⟩ := h
  obtain ⟨u, rfl, rx⟩ := vals1 r
  cases rx
  have fin : ∀ (its : List Value), Vals ys its → ys.length ≤ sizeLine → ∀ (h' : Heap) (c' : Nat), (∀ b o', s.heap.get? b = some o' → h'.get? b = some o') →
      h'.get? s.heap.objs.size = some { cls := .type "list", dict := none, data := .seq its.toArray c', slots := #[] } → EP X pins σ Q (.ref s.heap.objs.size) { s with heap := h' } := fun its r' hz h' c' kp e =>
    ⟨.ref s.heap.objs.size, _, I.laid (t' := s.toks) kp (Nat.le_refl _) (show ObjOk X.prog X.w _ h' _ (.lst ys) from ⟨hz, its, c', r', e⟩), rfl, q _ (I.hok.fresh (Nat.le_refl _))⟩
  rcases hq with hq | hq
  · obtain ⟨its, r', pl, hz⟩ := I.list hq
    have hlen := r'.length
    obtain ⟨o, ho, hc, n, hd⟩ := pl.isList
    exact call_list_seq p (.inl rfl) ho hc hd (fun h' c' kp e => fin its r' hz h' c' kp e) (by simp only [List.size_toArray] <;> omega)
  · obtain ⟨its, r', pl, hz⟩ := I.tuple hq
    have hlen := r'.length
    obtain ⟨o, ho, hc, n, hd⟩ := pl
    exact call_list_seq p (.inr rfl) ho hc hd (fun h' c' kp e => fin its r' hz h' c' kp e) (by simp only [List.size_toArray] <;> omega)
noncomputable def tyV (K : PySem.W.Frag) (T : String) (x : V) (H : Hp) : Prop := match x with
  | .str _ => T = "str"
  | .int _ => T = "int"
  | .ref p => (T = "list" ∧ ∃ xs, SqL K H p xs) ∨ (T = "tuple" ∧ ∃ o, K.lookup p = some o ∧ o.cls = .type "tuple" ∧ o.dict = none) ∨
      (T = "dict" ∧ ((∃ kvs, H p = some (.dK kvs)) ∨ ∃ kvs, H p = some (.dT kvs))) ∨ (T = "set" ∧ ∃ S n, H p = some (.set S n))
  | _ => False
theorem tyV_is {pins : List (Addr × Obj)} {σ : St} {H : Hp} {s : Shared} {T : String} {x : V} {v : Value} (I : Inv X pins σ H s) (r : RelV x v) (ty : tyV X.K T x H) :
    s.TypeIs v T ∧ ∀ a, v = .ref a → ∃ ob, s.heap.get? a = some ob ∧ ob.dict = none := by
  cases x with
  | str z =>
    obtain ⟨t, rfl⟩ := r
    cases (show T = "str" from ty)
    exact ⟨typeIs_str s z t, fun _ e => nomatch e⟩
  | int i =>
    obtain ⟨t, rfl⟩ := r
    cases (show T = "int" from ty)
    exact ⟨typeIs_int s i t, fun _ e => nomatch e⟩
  | ref p =>
    cases r
    rcases ty with ⟨rfl, xs, hq⟩ | ⟨rfl, o, hk, hc, hd⟩ | ⟨rfl, hk⟩ | ⟨rfl, S, n, hk⟩
    · obtain ⟨its, _, pl, _⟩ := I.list hq
      refine ⟨pl.isList.typeIs, fun a e => ?_⟩
      cases e
      obtain ⟨o, n, e, c, hd, _⟩ := pl
      exact ⟨o, e, hd⟩
    · refine ⟨⟨o, I.kIn p o hk, hc⟩, fun a e => ?_⟩
      cases e
      exact ⟨o, I.kIn _ o hk, hd⟩
    · have z : ∃ o, s.heap.get? p = some o ∧ o.ExactDict := by
        rcases hk with ⟨kvs, hk⟩ | ⟨kvs, hk⟩
        · obtain ⟨_, _, _, _, o, _, _, e, ex, _⟩ := I.hok p _ hk
          exact ⟨o, e, ex⟩
        · obtain ⟨_, _, _, _, o, _, _, e, ex, _⟩ := I.hok p _ hk
          exact ⟨o, e, ex⟩
      obtain ⟨o, e, ex⟩ := z
      refine ⟨⟨o, e, ex.1⟩, fun a e2 => ?_⟩
      cases e2
      exact ⟨o, e, ex.2.1⟩
    · obtain ⟨o, _, _, _, e, ex, _⟩ := I.hok p _ hk
      refine ⟨⟨o, e, ex.1⟩, fun a e2 => ?_⟩
      cases e2
      exact ⟨o, e, ex.2.1⟩
  | _ => exact False.elim ty
noncomputable def tBM0 (K : PySem.W.Frag) (T : String) (r : V → List V → Hp → VK → Prop) (to : TE) : TE := fun σ H Q => to σ H fun x H1 => tyV K T x H1 ∧ r x [] H1 Q
noncomputable def tBM (K : PySem.W.Frag) (T : String) (r : V → List V → Hp → VK → Prop) (to : TE) (t : TA) : TE := fun σ H Q => to σ H fun x H1 => tyV K T x H1 ∧ t σ H1 fun xs H2 => r x xs H2 Q
variable {o e : Expr} {es : List Expr} {to : TE} {t : TA} {name : Str} {apos cpos : Pos} {T id : String} {r : V → List V → Hp → VK → Prop}
theorem pe_bm0 (pa : PlainAttrs T) (slot : Slot T name id) (hty : typeOf (.builtin id) = pure (.type "method_descriptor")) (hm : MtR X id r) (ho : PE X o to)
    (hbase : attributeBase o name X.env (eval o X.env) = eval o X.env := by rfl) (hline : (apos.endLine == cpos.line) = true := by rfl) : PE X (.Call (.Attribute o name apos) [] [] cpos) (tBM0 X.K T r to) := by
  intro pins s σ H Q I h
  refine wpAny_Call_method0_late hbase hline (thn (ho pins s σ H _ I h) fun v s1 ⟨x, H1, I1, r1, ty, q1⟩ => ?_)
  obtain ⟨h1, h2⟩ := tyV_is I1 r1 ty
  exact ⟨T, id, pa, slot, hty, h1, h2, Calls.callWith_builtin rfl (PySem.evalArgs_none (hm pins s1 σ H1 x [] v [] Q I1 r1 .nil q1))⟩
theorem pe_bm (pa : PlainAttrs T) (slot : Slot T name id) (hty : typeOf (.builtin id) = pure (.type "method_descriptor")) (hm : MtR X id r) (ho : PE X o to) (ha : PA X (e :: es) t)
    (hbase : attributeBase o name X.env (eval o X.env) = eval o X.env := by rfl)
    (hfew : ((backTo cpos (starEach (e :: es) X.env)).all (fun x => !x.1) && (backToKw cpos (keywordEach [] X.env)).all (fun x => x.1.isSome)
      && decide ((e :: es).length + ([] : List Keyword).length + (if ([] : List Keyword).isEmpty then 0 else 1) < 30)) = true := by rfl)
    (hline : (apos.endLine == cpos.line) = true := by rfl) (hs : starEach (e :: es) X.env = (false, eval e X.env) :: starEach es X.env := by rfl) (hplain : (backTo cpos (starEach es X.env)).any (·.1) = false := by rfl) :
    PE X (.Call (.Attribute o name apos) (e :: es) [] cpos) (tBM X.K T r to t) := by
  intro pins s σ H Q I h
  refine wpAny_Call_method_late hbase hfew hline rfl (thn (ho pins s σ H _ I h) fun v s1 ⟨x, H1, I1, r1, ty, q1⟩ => ?_)
  obtain ⟨h1, h2⟩ := tyV_is I1 r1 ty
  refine ⟨T, id, pa, slot, hty, h1, h2, ?_⟩
  have hA := ha cpos pins s1 σ H1 _ I1 q1
  rw [hs] at hA ⊢
  refine Calls.callWith_builtin (by show (false || (backTo cpos (starEach es X.env)).any (·.1)) = false; rw [hplain] <;> rfl) (Calls.evalArgs_plain ?_)
  exact thn hA fun us s2 ⟨vs, H2, I2, r2, q2⟩ => hm pins s2 σ H2 x vs v us Q I2 r1 r2 q2
end
end L2
namespace L2
open PySem PySem.Spec PyProof.Rows
noncomputable def MtM (X : Cx) (id : String) (r : V → List V → Hp → VK → Prop) : Prop :=
  ∀ (pins : List (Addr × Obj)) (s : Shared) (σ : St) (H : Hp) (x : V) (xs : List V) (v : Value) (us : List Value) (Q : VK), Inv X pins σ H s → RelV x v → Vals xs us → r x xs H Q →
    wpAny (model X.prog X.w) X.A (call (.builtin id) (v :: us)) (EP X pins σ Q) X.xe s
theorem Vals.hd {x : V} {xs : List V} {us : List Value} (h : Vals (x :: xs) us) : ∃ u vs, us = u :: vs ∧ RelV x u ∧ Vals xs vs := by
  cases h with
  | cons r t => exact ⟨_, _, rfl, r, t⟩
theorem Vals.nl {us : List Value} (h : Vals [] us) : us = [] := by
  cases h
  rfl
theorem Vals.one {x : V} {us : List Value} (h : Vals [x] us) : ∃ u, us = [u] ∧ RelV x u := by
  obtain ⟨u, vs, rfl, r, t⟩ := h.hd
  rw [t.nl]
  exact ⟨u, rfl, r⟩
theorem Vals.two {x y : V} {us : List Value} (h : Vals [x, y] us) : ∃ u v, us = [u, v] ∧ RelV x u ∧ RelV y v := by
  obtain ⟨u, vs, rfl, r, t⟩ := h.hd
  obtain ⟨v, ws, rfl, q, t⟩ := t.hd
  rw [t.nl]
  exact ⟨u, v, rfl, r, q⟩
theorem Vals.zero : ∀ {us : List Value}, Vals [] us → us = []
  | _, .nil => rfl
theorem Vals.dropLast {xs : List V} {us : List Value} (h : Vals xs us) : Vals xs.dropLast us.dropLast := by
  induction h with
  | nil => exact .nil
  | cons r t ih =>
    cases t with
    | nil => exact .nil
    | cons q t' => exact .cons r ih
theorem Vals.eraseIdx : ∀ {xs : List V} {us : List Value} (i : Nat), Vals xs us → Vals (xs.eraseIdx i) (us.eraseIdx i)
  | _, _, _, .nil => .nil
  | _, _, 0, .cons _ t => t
  | _, _, i + 1, .cons r t => .cons r (Vals.eraseIdx i t)
theorem erase_last {α : Type} (l : List α) : l.eraseIdx (l.length - 1) = l.dropLast := by
  induction l with
  | nil => rfl
  | cons a r ih =>
    cases r with
    | nil => rfl
    | cons b r =>
      have e : (a :: b :: r).length - 1 = ((b :: r).length - 1) + 1 := by
        have h1 : (a :: b :: r).length = r.length + 2 := rfl
        have h2 : (b :: r).length = r.length + 1 := rfl
        omega
      rw [e, List.eraseIdx_cons_succ, ih]
      all_goals rfl
theorem len_erase {α : Type} : ∀ (l : List α) (i : Nat), (l.eraseIdx i).length ≤ l.length
  | [], _ => Nat.le_refl _
  | _ :: _, 0 => Nat.le_succ _
  | _ :: r, i + 1 => Nat.succ_le_succ (len_erase r i)
section
variable {X : Cx} {pins : List (Addr × Obj)} {σ : St} {H : Hp} {s : Shared} {l b : Addr} {xs ys zs : List V}
theorem Inv.lset {its its' : List Value} {n : Nat} {f : Array Value → Array Value} {t' : Nat} (I : Inv X pins σ H s) (hH : H l = some (.lst xs))
    (e : s.heap.get? l = some { cls := .type "list", data := .seq its.toArray n }) (hf : f its.toArray = its'.toArray) (hv : Vals ys its') (hz : ys.length ≤ sizeLine) :
    Inv X pins σ (upd H l (.lst ys)) { s with heap := s.heap.update l (Obj.mapSeq f), toks := t' } := by
  have q := PySem.IsL.update e f
  rw [hf] at q
  refine I.write (x := l) (e := l) (by rw [hH]; exact trivial) (.inl rfl) (fun b' u hb hu => (Heap.get?_update_other s.heap (Obj.mapSeq f) (Ne.symm hb)).trans hu) ⟨_, q⟩ ?_
  exact ⟨hz, its', _, hv, q⟩
theorem Inv.lnew {its : List Value} {t' : Nat} (I : Inv X pins σ H s) (hv : Vals ys its) (hz : ys.length ≤ sizeLine) :
    Inv X pins σ (upd H s.heap.objs.size (.lst ys)) { s with heap := s.heap.push { cls := .type "list", data := .seq its.toArray }, toks := t' } :=
  I.laid (fun _ _ q => Heap.get?_push_of_some _ q) (Nat.le_refl _) ⟨hz, its, 0, hv, Heap.get?_push_size _ rfl⟩
theorem Inv.fresh (I : Inv X pins σ H s) : H s.heap.objs.size = none := I.hok.fresh (Nat.le_refl _)
theorem Inv.lstM (I : Inv X pins σ H s) (hH : H l = some (.lst xs)) : xs.length ≤ sizeLine ∧ ∃ (its : List Value) (n : Nat), Vals xs its ∧ xs.length = its.length ∧ s.heap.get? l = some { cls := .type "list", data := .seq its.toArray n } := by
  obtain ⟨z, its, n, r, e⟩ := I.hok l _ hH
  exact ⟨z, its, n, r, r.length, e⟩
theorem notLongL {n : Nat} (h : n ≤ sizeLine) : Builtin.List.listTooLong n = false := by
  unfold Builtin.List.listTooLong
  exact decide_eq_false (by omega)
end
section
variable {X : Cx}
noncomputable def rAppend : V → List V → Hp → VK → Prop := fun x vs H Q => ∃ l xs y, x = .ref l ∧ vs = [y] ∧ H l = some (.lst xs) ∧ xs.length < sizeLine ∧ Q .non (upd H l (.lst (xs ++ [y])))
theorem mt_append : MtM X "list.append" rAppend := by
  intro pins s σ H x vs v us Q I rx rv h
  obtain ⟨l, xs, y, rfl, rfl, hH, hz, q⟩ := h
  cases rx
  obtain ⟨u, rfl, ru⟩ := rv.one
  obtain ⟨z, its, n, r, hl, e⟩ := I.lstM hH
  refine call_meets F.slot_list_append ⟨_, e, rfl⟩ F.entry_list_append (F.args_list_append_2 _ _) (PySem.list_append l its.toArray n u (by rw [List.size_toArray]; omega)) ⟨e, ?_⟩
  refine ⟨.non, _, I.lset (its' := its ++ [u]) hH e (by simp) (r.append (.cons ru .nil)) ?_, rfl, q⟩
  rw [List.length_append, List.length_singleton]
  omega
noncomputable def rExtend : V → List V → Hp → VK → Prop := fun x vs H Q => ∃ l b xs zs, x = .ref l ∧ vs = [.ref b] ∧ H l = some (.lst xs) ∧ H b = some (.lst zs) ∧ xs.length + zs.length ≤ sizeLine ∧ Q .non (upd H l (.lst (xs ++ zs)))
theorem mt_extend : MtM X "list.extend" rExtend := by
  intro pins s σ H x vs v us Q I rx rv h
  obtain ⟨l, b, xs, zs, rfl, rfl, hH, hB, hz, q⟩ := h
  cases rx
  obtain ⟨u, rfl, ru⟩ := rv.one
  cases ru
  obtain ⟨z, its, n, r, hl, e⟩ := I.lstM hH
  obtain ⟨z2, its2, n2, r2, hl2, e2⟩ := I.lstM hB
  have hsz : its.toArray.size + its2.toArray.size ≤ sizeLine := by rw [List.size_toArray, List.size_toArray]; omega
  have hlong : ¬ (!its.toArray.isEmpty && Builtin.List.listTooLong (its.toArray.size + its2.toArray.size)) = true := by
    rw [notLongL hsz, Bool.and_false]
    exact Bool.false_ne_true
  refine call_meets F.slot_list_extend ⟨_, e, rfl⟩ F.entry_list_extend (F.args_list_extend_2 _ _)
    (AutoSeq1.list_extend_list_list_0 l its.toArray n b its2.toArray n2 hlong (by rw [List.size_toArray]; omega) (by omega)) ⟨e, e2, ?_⟩
  refine ⟨.non, _, I.lset (its' := its ++ its2) hH e (by simp) (r.append r2) ?_, rfl, q⟩
  rw [List.length_append]
  omega
noncomputable def rPop : V → List V → Hp → VK → Prop := fun x vs H Q => ∃ l xs y, x = .ref l ∧ vs = [] ∧ H l = some (.lst xs) ∧ xs[xs.length - 1]? = some y ∧ Q y (upd H l (.lst xs.dropLast))
theorem mt_pop : MtM X "list.pop" rPop := by
  intro pins s σ H x vs v us Q I rx rv h
  obtain ⟨l, xs, y, rfl, rfl, hH, hy, q⟩ := h
  cases rx
  have hus := rv.zero
  subst hus
  obtain ⟨z, its, n, r, hl, e⟩ := I.lstM hH
  obtain ⟨u, hu, ru⟩ := r.get hy
  have hy' : its.toArray[its.toArray.size - 1]? = some u := by
    show its.toArray[its.length - 1]? = some u
    rw [← Array.getElem?_toList, ← hl]
    exact hu
  refine call_meets F.slot_list_pop ⟨_, e, rfl⟩ F.entry_list_pop (F.args_list_pop_1 _) (MeetsSeq.list_pop_last l its.toArray n u hy' (by rw [List.size_toArray]; omega)) ⟨e, ?_⟩
  refine ⟨y, _, I.lset (its' := its.dropLast) hH e ?_ r.dropLast ?_, ru, q⟩
  · show its.toArray.eraseIdxIfInBounds (its.toArray.size - 1) = its.dropLast.toArray
    rw [List.size_toArray, List.eraseIdxIfInBounds_toArray, erase_last]
  · rw [List.length_dropLast]
    omega
noncomputable def rPopAt : V → List V → Hp → VK → Prop := fun x vs H Q => ∃ l xs i k y, x = .ref l ∧ vs = [.int i] ∧ H l = some (.lst xs) ∧ -(2 ^ 63) ≤ i ∧ i < 2 ^ 63 ∧ seqIndex? i xs.length = some k ∧ xs[k]? = some y ∧ Q y (upd H l (.lst (xs.eraseIdx k)))
theorem mt_popAt : MtM X "list.pop" rPopAt := by
  intro pins s σ H x vs v us Q I rx rv h
  obtain ⟨l, xs, i, k, y, rfl, rfl, hH, h1, h2, hk, hy, q⟩ := h
  cases rx
  obtain ⟨u, rfl, ru⟩ := rv.one
  obtain ⟨t, rfl⟩ := ru
  obtain ⟨z, its, n, r, hl, e⟩ := I.lstM hH
  obtain ⟨w, hw, rw'⟩ := r.get hy
  refine call_meets F.slot_list_pop ⟨_, e, rfl⟩ F.entry_list_pop (F.args_list_pop_2 _ _)
    (MeetsSeq.list_pop_at l its.toArray n i t k w (fitsIndex_both h1 h2) (by rw [List.size_toArray, ← hl]; exact hk) (by rw [← Array.getElem?_toList]; exact hw) (by rw [List.size_toArray]; omega)) ⟨e, ?_⟩
  refine ⟨y, _, I.lset (its' := its.eraseIdx k) hH e ?_ (r.eraseIdx k) ?_, rw', q⟩
  · show its.toArray.eraseIdxIfInBounds k = (its.eraseIdx k).toArray
    rw [List.eraseIdxIfInBounds_toArray]
  · have := len_erase xs k
    omega
noncomputable def rCat : R2 := fun x y H Q => ∃ l b xs zs, x = .ref l ∧ y = .ref b ∧ H l = some (.lst xs) ∧ H b = some (.lst zs) ∧ xs.length + zs.length ≤ sizeLine ∧ ∀ p, H p = none → Q (.ref p) (upd H p (.lst (xs ++ zs)))
theorem op_cat : OpR X (binaryOp .Add) rCat := by
  intro pins s σ H x y v u Q I rx ry h
  obtain ⟨l, b, xs, zs, rfl, rfl, hH, hB, hz, q⟩ := h
  cases rx
  cases ry
  obtain ⟨z, its, n, r, hl, e⟩ := I.lstM hH
  obtain ⟨z2, its2, n2, r2, hl2, e2⟩ := I.lstM hB
  refine PySem.P.add_list e e2 ?_ (by rw [List.size_toArray, List.size_toArray]; omega)
  have ea : its.toArray ++ its2.toArray = (its ++ its2).toArray := by simp
  rw [ea]
  exact ⟨.ref _, _, I.lnew (t' := s.toks) (r.append r2) (by rw [List.length_append]; omega), rfl, q _ I.fresh⟩
end
section
variable {prog : Program} {w : World} {A : Around} {E : Value → Shared → Prop} {s : Shared}
end
section
variable {X : Cx}
end
end L2
namespace Att
open PySem PySem.W PySem.Calls PyProof.Rows
theorem ints_of_wellAll {P : Params} {h : Heap} : ∀ (ns : List Int) (vs : List Value), WellAll P h vs (ns.map WData.int) → IntsAre vs ns := by
  intro ns
  induction ns with
  | nil =>
    intro vs w
    rw [List.map_nil] at w
    cases w
    exact .nil
  | cons n ns ih =>
    intro vs w
    rw [List.map_cons] at w
    cases w with
    | cons a b =>
      cases a
      exact .cons _ _ (ih _ b)
theorem script_of {l : OpenLaw} {n : Nat} (hn : l.most = some n) {P : Params} {h : Heap} {args : List WData} {vals : List Value}
    (hpre : l.row.toRowW.claim.pre args = true) (hwl : WellAll P h vals args) :
    ∃ a vs ns, vals = [Value.ref a] ∧ args = [WData.list (ns.map WData.int)] ∧ h.get? a = some { cls := .type "list", data := .seq vs.toArray } ∧ IntsAre vs ns ∧ ns.length ≤ n := by
  have hsh : WShape.hasAll [] args [.list .int] = true := (pre_splitW hpre).1
  have hc : l.pre.holds [] { args := args } = true := (pre_splitW hpre).2
  obtain ⟨d, r, rfl, h1, h2⟩ := hasAllW_cons hsh
  obtain rfl := hasAllW_nil h2
  obtain ⟨xs, rfl, h3⟩ := hasW_list h1
  obtain ⟨ns, rfl⟩ := items_int h3
  have hlen : ns.length ≤ n := by
    unfold OpenLaw.pre at hc
    have h4 : (WTm.not (.lt (.lit (.int (n : Int))) (.len (.arg 0)))).holds [] { args := [.list (ns.map .int)] } = true := by
      have h4 := (holds_andW hc).1
      rw [hn] at h4
      exact h4
    have h5 := condW_of h4 (w_not (w_lt w_lit (w_len_list (w_arg rfl))))
    rw [List.length_map] at h5
    refine Nat.le_of_not_lt fun q => ?_
    have q' : (n : Int) < ((ns.length : Nat) : Int) := by omega
    first
      | (rw [decide_eq_true q'] at h5; exact absurd h5 (by decide))
      | (simp at h5; omega)
  cases hwl with
  | cons w1 w2 =>
    cases w2
    cases w1 with
    | list ho hall => exact ⟨_, _, ns, rfl, rfl, ho, ints_of_wellAll ns _ hall, hlen⟩
theorem post_true (l : OpenLaw) (args : List WData) : l.row.toRowW.claim.post args (.bool true) args = true :=
  postW_of (r := l.row.toRowW) (X := (true == true))
    (show WShape.has [] (.bool true) .bool = true by first | rfl | decide | simp [WShape.has, WShape.arms, WShape.armsAll])
    (show (WTm.eq .res (.lit (.bool true))).value [] { args := args, res := some (.bool true), after := args } = some (.bool (true == true)) from w_eq_bool (w_res rfl) w_lit) rfl
theorem attach_call {l : OpenLaw} {n : Nat} {q : Program} {loose : List Str} {XP : (Str → Option Value) → Heap → Prop} {YP : World → Heap → Prop} {d : DefRec}
    (hn : l.most = some n) (hdf : d.params.defaults = [])
    (call : ∀ (w : World) (s₀ s₁ : Shared) (mg mb : Str → Option Value) (fa : Addr) (o : Obj) (pm cd doc : Value) (a : Addr) (vs : List Value) (ns : List Int),
      Ground q loose [] XP w s₀ mg mb s₁.heap → YP w s₁.heap →
      s₁.heap.get? fa = some o → o.data = .func (docDef d.name d.params d.body d.scope pm cd doc) → s₁.heap.CodeRec cd d.name → mg d.name = some (.ref fa) →
      s₁.heap.get? a = some { cls := .type "list", data := .seq vs.toArray } → IntsAre vs ns → ns.length ≤ n → s₁.gens = #[] →
      codeAny (model l.prog w) callerA (.call (.ref fa) ⟨[.ref a], []⟩) (fun r s' => r = .ok (.ret (.bool true)) ∧ OldK s₁.heap s'.heap ∧ s'.os = s₁.os ∧ AllBare s'.gens) s₁) :
    WalkO q loose XP YP l.row.toRowW d [] (fun f vs => PySem.call f vs) := by
  intro w s₀ s₁ mg mb G Y fa o pm cd doc dV kV ho hd hcd hD hmg hg args vals as hpre hlay hrd hwl hlo
  obtain rfl : dV = .none := Dflts.none hD hdf
  obtain rfl : kV = .none := Dflts.noKw hD
  obtain ⟨a, vs, ns, rfl, rfl, hobj, hints, hlen⟩ := script_of hn hpre hwl
  refine enter_call (codeAny_mono (call w s₀ s₁ mg mb fa o pm cd doc a vs ns G Y ho (fd_plain hd) hcd hmg hobj hints hlen hg) fun r s' hq => ?_)
  obtain ⟨rfl, h2, h3, h4⟩ := hq
  exact ⟨.inl ⟨.bool true, .bool true, [], rfl, fun _ => rfl, .bool true, post_true l _, fun _ => ⟨List.Pairwise.nil, fun _ hm => (nomatch hm)⟩⟩, h2, h3, h4⟩
section
variable {prog : Program} {w : World} {A : Around} {E : Value → Shared → Prop} {s : Shared} {K : Frag}
end
end Att
namespace L2
open PySem PySem.Spec PyProof.Rows
theorem vals_ints : ∀ {vs : List Value} {ns : List Int}, IntsAre vs ns → Vals (ns.map V.int) vs
  | _, _, .nil => .nil
  | _, _, .cons n t h => .cons ⟨t, rfl⟩ (vals_ints h)
noncomputable def Only (H : Hp) : Prop := ∀ b, H b = none ∨ ∃ o xs, H b = some (.frz o (.lst xs))
theorem law_call {P : Program} {w : World} {K : PySem.W.Frag} {mg mb : Str → Option Value} {CX : CXT} {k : Nat} {fa a : Addr} {fd : FuncData} {x : Str} {sp : Sp} {s₁ : Shared} {vs : List Value} {ns : List Int}
    (KX : K.In s₁.heap) (hns : s₁.heap.Ns mainGlobals mg) (hb : s₁.heap.Ns builtinsNs mb) (hbb : ∀ x : Str, x ≠ "__name__" → mb x = bootBuiltins x) (hlim : s₁.heap.NoLimit) (hg : s₁.gens = #[])
    (ha : s₁.heap.get? a = some { cls := .type "list", data := .seq vs.toArray }) (hi : IntsAre vs ns) (hl : ns.length ≤ sizeLine) (hr : Room k callerA)
    (F : ∀ base : Heap, K.In base → base.Ns mainGlobals mg → FnOk P w K mg base CX k fa fd [x] sp) (hbind : ∀ (s : Shared) (u : Value), BindsTo s fd ⟨[u], []⟩ [(x, u)])
    (hsp : ∀ H : Hp, Only H → SqL K H a (ns.map V.int) → sp [.ref a] H (fun v _ => v = .bl true) fun _ _ _ => False)
    (hCX : ∀ H e s', CX [] H s₁ (fun _ _ _ => False) e s' → False) :
    codeAny (model P w) callerA (.call (.ref fa) ⟨[.ref a], []⟩) (fun r s' => r = .ok (.ret (.bool true)) ∧ OldK s₁.heap s'.heap ∧ s'.os = s₁.os ∧ AllBare s'.gens) s₁ := by
  have rv := vals_ints hi
  have lenV := hi.length
  have core : ∀ H : Hp, Only H → SqL K H a (ns.map V.int) → HOk P w H s₁.heap → (∀ b, H b ≠ none → b = a) → (H a ≠ none → K.lookup a = none) →
      codeAny (model P w) callerA (.call (.ref fa) ⟨[.ref a], []⟩) (fun r s' => r = .ok (.ret (.bool true)) ∧ OldK s₁.heap s'.heap ∧ s'.os = s₁.os ∧ AllBare s'.gens) s₁ := by
    intro H hO hS hok hA hK
    have base_of : ∀ {b : Addr} {o : Obj}, s₁.heap.get? b = some o → H b = none → (hidT s₁.heap H).get? b = some o := fun e n => hidT_get e n
    have noA : ∀ {b : Addr} {o : Obj} {es : Array DictEntry} {ep : Nat}, s₁.heap.get? b = some o → o.data = .dict es ep → H b = none := fun {b o es ep} e d => by
      cases q : H b with
      | none => rfl
      | some u =>
        have e' : b = a := hA b (by rw [q]; simp)
        subst e'
        rw [ha] at e; cases e
        have d' : Data.seq vs.toArray _ = Data.dict es ep := d
        cases d'
    have nsK : ∀ {b : Addr} {m : Str → Option Value}, s₁.heap.Ns b m → (hidT s₁.heap H).Ns b m := fun {b m} ⟨o, es, ep, e, d, r⟩ => ⟨o, es, ep, base_of e (noA e d), d, r⟩
    have hKb : K.In (hidT s₁.heap H) := fun b o e => base_of (KX b o e) (by
      cases q : H b with
      | none => rfl
      | some u =>
        have e' : b = a := hA b (by rw [q]; simp)
        subst e'
        rw [hK (by rw [q]; simp)] at e; cases e)
    have hM : Mod K mg (hidT s₁.heap H) := ⟨hKb, nsK hns, ⟨mb, nsK hb, hbb⟩, let ⟨mc, h1, h2⟩ := hlim; ⟨mc, nsK h1, h2⟩⟩
    have e0 : Env0 P w K mg (hidT s₁.heap H) callerA [] s₁ H := ⟨rfl, hM, fun b o e => of_hidT e, Nat.le_of_eq (hidT_size _ _), trivial, fun b hb => absurd (show b ∈ ([] : List Addr) from hb) (by simp), hok, .of_eq hg⟩
    refine codeAny_mono ((F _ hKb (nsK hns)).run callerA [] s₁ H ⟨[.ref a], []⟩ [.ref a] [.ref a] _ _ hr e0 (hbind s₁ (.ref a)) (.cons rfl .nil) (hsp H hO hS)) fun r s' h => ?_
    cases r with
    | error e => exact (hCX H e s' h).elim
    | ok fl =>
      cases fl with
      | next => exact False.elim h
      | brk => exact False.elim h
      | cont => exact False.elim h
      | ret u =>
        obtain ⟨v, H', os, bare, un, hok', r', q⟩ := h
        have q' : v = .bl true := q
        subst q'
        obtain rfl : u = Value.bool true := r'
        refine ⟨rfl, OldK.of_keep fun b o e => ?_, os, bare⟩
        cases q : H b with
        | none => exact un.keep b o e q (by intro z; exact absurd (show b ∈ ([] : List Addr) from z) (by simp)) (by simp)
        | some u =>
          rcases hO b with z | ⟨ob, xs, z⟩
          · rw [q] at z; cases z
          · have z2 := un.frzs b ob _ z
            obtain ⟨e1, _⟩ := hok b _ z
            obtain ⟨e2, _⟩ := hok' b _ z2
            rw [e] at e1; cases e1
            exact e2
  cases hk : K.lookup a with
  | some o =>
    have e := KX a o hk
    rw [ha] at e
    cases e
    refine core (fun _ => none) (fun _ => .inl rfl) (.inr ⟨_, vs.toArray, _, hk, rfl, rfl, rfl, by rw [List.size_toArray, lenV]; exact hl, by simpa using rv⟩) (fun b u z => by have z' : (none : Option HO) = some u := z; cases z') (fun b z => absurd rfl z) fun z => absurd rfl z
  | none =>
    refine core (fun b => if b = a then some (.frz { cls := .type "list", data := .seq vs.toArray } (.lst (ns.map V.int))) else none) (fun b => ?_) (.inl (.inr ⟨{ cls := .type "list", data := .seq vs.toArray }, if_pos rfl⟩)) (fun b u z => ?_) (fun b z => ?_) fun _ => hk
    · by_cases hb : b = a
      · exact .inr ⟨_, _, if_pos hb⟩
      · exact .inl (if_neg hb)
    · by_cases hb : b = a
      · have z' := (if_pos hb).symm.trans z
        cases z'
        subst hb
        exact ⟨ha, by rw [List.length_map]; exact hl, vs, _, rv, ha⟩
      · have z' := (if_neg hb).symm.trans z
        cases z'
    · by_cases hb : b = a
      · exact hb
      · exact absurd (if_neg hb) z
end L2
namespace L2
open PySem PySem.Spec PyProof.Rows
theorem walk_of {l : PySem.W.OpenLaw} {n k : Nat} {q : Program} {loose : List Str} {XP : (Str → Option Value) → Heap → Prop} {YP : World → Heap → Prop} {d : DefRec} {K : Params → PySem.W.Frag} {CX : World → CXT} {sp : World → Sp} {x : Str}
    (hn : l.most = some n) (hn2 : n ≤ sizeLine) (hdf : d.params.defaults = []) (hr : Room k callerA)
    (hY : ∀ (w : World) (h : Heap), YP w h → (K w.params).In h)
    (F : ∀ (w : World) (mg : Str → Option Value) (fa : Addr) (h : Heap), (K w.params).In h → h.Ns mainGlobals mg → mg d.name = some (.ref fa) →
      ∃ fd : FuncData, (∀ (s : Shared) (u : Value), BindsTo s fd ⟨[u], []⟩ [(x, u)]) ∧
        ∀ base : Heap, (K w.params).In base → base.Ns mainGlobals mg → FnOk l.prog w (K w.params) mg base (CX w) k fa fd [x] (sp w))
    (hsp : ∀ (w : World) (H : Hp) (a : Addr) (ns : List Int), ns.length ≤ n → Only H → SqL (K w.params) H a (ns.map V.int) → sp w [.ref a] H (fun v _ => v = .bl true) fun _ _ _ => False)
    (hCX : ∀ (w : World) (H : Hp) (s : Shared) (e : Value) (s' : Shared), CX w [] H s (fun _ _ _ => False) e s' → False) :
    PySem.W.WalkO q loose XP YP l.row.toRowW d [] (fun f vs => PySem.call f vs) := by
  refine Att.attach_call hn hdf fun w s₀ s₁ mg mb fa o pm cd doc a vs ns G Y ho hd hcd hmg hobj hints hlen hg => ?_
  have KX := hY w _ Y
  obtain ⟨fd, hb, hF⟩ := F w mg fa _ KX G.T.g hmg
  exact law_call KX G.T.g G.T.b G.T.builtins G.T.nolimit hg hobj hints (Nat.le_trans hlen hn2) hr hF hb (fun H hO hS => hsp w H a ns hlen hO hS) fun H e s' => hCX w H s₁ e s'
end L2
namespace L2
open PySem PySem.Spec PyProof.Rows
noncomputable def defArgs (s : Stmt) : Arguments := match s with
  | .FunctionDef _ a _ _ _ _ _ _ _ _ => a
  | _ => { posonlyargs := [], args := [], vararg := none, kwonlyargs := [], kw_defaults := [], kwarg := none, defaults := [] }
noncomputable def defBody (s : Stmt) : List Stmt := match s with
  | .FunctionDef _ _ b _ _ _ _ _ _ _ => b
  | _ => []
noncomputable def defScope (s : Stmt) : Scope := match s with
  | .FunctionDef _ _ _ _ _ _ sc _ _ _ => sc
  | _ => { kind := .function, names := [], isGenerator := false, isCoroutine := false }
noncomputable abbrev CX0 : CXT := fun _ _ _ _ _ _ => False
noncomputable abbrev E0 : XK := fun _ _ _ => False
theorem pass0 {X : Cx} : Passes CX0 X E0 := fun _ _ _ _ _ _ _ h => h.elim
structure Fun (K : PySem.W.Frag) (x qual : Str) (st : Stmt) (f : Addr) (fd : FuncData) : Prop where
  ex : ∃ (oc : Value) (od : Option Addr) (kV doc pm : Value) (an : Option Addr) (cdv ct : Value) (osl : Array (Option Value)),
    fd = PySem.W.fnOf x qual (defArgs st) (defBody st) (defScope st) .none kV doc pm an cdv ct ∧ K.lookup f = some ⟨oc, od, .func fd, osl⟩ ∧ PySem.W.codeIn K cdv qual = true
  kp : PySem.W.keepIn K (.ref f) = true
section
variable {P : Program} {w : World} {K : PySem.W.Frag} {mg : Str → Option Value} {base : Heap}
theorem Fun.ok {x qual : Str} {st : Stmt} {f : Addr} {fd : FuncData} {N ps : List Str} {k : Nat} {sp : Sp} (F : Fun K x qual st f fd) (S : FnScope N ps (defScope st)) (len : ∀ vs H Q E, sp vs H Q E → vs.length = ps.length)
    (hbody : ∀ (cdv : Value) (A : Around) (outer : List Env) (s : Shared) (H : Hp) (vs : List V) (Q : VK) (E : XK), Room k (A.deeper (envOfC qual (defScope st) s.heap.objs.size f cdv)) → sp vs H Q E →
      ∃ t, PSs (cxOf CX0 P w K mg base N qual (defScope st) f cdv A outer s H E).nox (defBody st) t ∧ t { nx := fun _ H' => Q .non H', rt := Q } (start N vs) H) : FnOk P w K mg base CX0 (k + 1) f fd ps sp := by
  obtain ⟨oc, od, kV, doc, pm, an, cdv, ct, osl, rfl, lk, hcd⟩ := F.ex
  refine fn_of lk hcd S len fun A outer s H vs Q E hr hsp => ?_
  obtain ⟨t, h, q⟩ := hbody cdv A outer s H vs Q E hr hsp
  exact ⟨t, h.nox, q⟩
theorem Fun.binds {x qual : Str} {st : Stmt} {f : Addr} {fd : FuncData} {ps : List Str} (F : Fun K x qual st f fd)
    (h : ∀ (kV doc pm : Value) (an : Option Addr) (cdv ct : Value) (us : List Value), us.length = ps.length → bindArgs (PySem.W.fnOf x qual (defArgs st) (defBody st) (defScope st) .none kV doc pm an cdv ct) ⟨us, []⟩ = pure (ps.zip us)) : Binds K fd ps [] := by
  obtain ⟨oc, od, kV, doc, pm, an, cdv, ct, osl, rfl, lk, hcd⟩ := F.ex
  exact .all (h kV doc pm an cdv ct)
theorem fun_mk {x qual : Str} {st : Stmt} {f : Addr} {oc : Value} {od an : Option Addr} {osl : Array (Option Value)} {kV doc pm cdv ct : Value} (l : K.lookup f = some ⟨oc, od, .func (PySem.W.fnOf x qual (defArgs st) (defBody st) (defScope st) .none kV doc pm an cdv ct), osl⟩)
    (c : PySem.W.codeIn K cdv qual = true) (k : PySem.W.keepIn K (.ref f) = true) : Fun K x qual st f (PySem.W.fnOf x qual (defArgs st) (defBody st) (defScope st) .none kV doc pm an cdv ct) := ⟨⟨oc, od, kV, doc, pm, an, cdv, ct, osl, rfl, l, c⟩, k⟩
end
section
variable {X : Cx}
end
theorem iteF {A B : Prop} (h : B) : if false = true then A else B := by
  rw [if_neg Bool.false_ne_true]
  exact h
theorem iteT {A B : Prop} (h : A) : if true = true then A else B := by
  rw [if_pos rfl]
  exact h
theorem ite2 {c A B : Prop} [Decidable c] (h1 : c → A) (h2 : ¬ c → B) : if c then A else B := by
  by_cases h : c
  · rw [if_pos h]
    exact h1 h
  · rw [if_neg h]
    exact h2 h
noncomputable def Same (H H' : Hp) : Prop := ∀ b o, H b = some o → H' b = some o
theorem Same.refl (H : Hp) : Same H H := fun _ _ h => h
theorem Same.trans {H H1 H2 : Hp} (a : Same H H1) (b : Same H1 H2) : Same H H2 := fun c o h => b c o (a c o h)
theorem Same.free {H H' : Hp} (e : Same H H') {l : Addr} (h : H' l = Option.none) : H l = Option.none := by
  cases q : H l with
  | none => rfl
  | some o =>
    rw [e l o q] at h
    cases h
theorem Same.seq {K : PySem.W.Frag} {H H' : Hp} {a : Addr} {xs : List V} (e : Same H H') (h : SqL K H a xs) : SqL K H' a xs := by
  rcases h with (h | ⟨o, h⟩) | h
  · exact .inl (.inl (e _ _ h))
  · exact .inl (.inr ⟨o, e _ _ h⟩)
  · exact .inr h
end L2
namespace L2
open PySem PySem.Spec PyProof.Rows
section
variable {κ : Type} [DecidableEq κ]
noncomputable def valV (kvs : List (κ × V)) (k : κ) : Option V := (kvs.find? fun kv => decide (kv.1 = k)).map (·.2)
noncomputable def putK (kvs : List (κ × V)) (k : κ) (v : V) : List (κ × V) :=
  if (kvs.any fun kv => decide (kv.1 = k)) = true then kvs.map (fun kv => if kv.1 = k then (kv.1, v) else kv) else kvs ++ [(k, v)]
theorem valV_pos {p : κ × V} {r : List (κ × V)} {k : κ} (e : p.1 = k) : valV (p :: r) k = some p.2 := by simp [valV, List.find?_cons, e]
theorem valV_neg {p : κ × V} {r : List (κ × V)} {k : κ} (e : ¬ p.1 = k) : valV (p :: r) k = valV r k := by simp [valV, List.find?_cons, e]
theorem valV_any (k : κ) : ∀ kvs : List (κ × V), (kvs.any fun kv => decide (kv.1 = k)) = (valV kvs k).isSome
  | [] => rfl
  | p :: r => by
    rw [List.any_cons]
    by_cases e : p.1 = k
    · simp only [valV_pos e, decide_eq_true e, Bool.true_or, Option.isSome_some]
    · rw [valV_neg e, decide_eq_false e, Bool.false_or]; exact valV_any k r
theorem valV_map (k j : κ) (y : V) : ∀ kvs : List (κ × V), valV (kvs.map fun kv => if kv.1 = k then (kv.1, y) else kv) j = (valV kvs j).map fun x => if j = k then y else x
  | [] => rfl
  | p :: r => by
    have ih := valV_map k j y r
    rw [List.map_cons]
    by_cases h : p.1 = k
    · rw [if_pos h]
      by_cases e : p.1 = j
      · rw [valV_pos (p := (p.1, y)) e, valV_pos e, Option.map_some, if_pos (e.symm.trans h)]
      · rw [valV_neg (p := (p.1, y)) e, valV_neg e, ih]
    · rw [if_neg h]
      by_cases e : p.1 = j
      · rw [valV_pos (p := p) e, valV_pos e, Option.map_some, if_neg (fun z => h (e.trans z))]
      · rw [valV_neg (p := p) e, valV_neg e, ih]
theorem valV_snoc (k j : κ) (y : V) : ∀ kvs : List (κ × V), valV kvs k = none → valV (kvs ++ [(k, y)]) j = if j = k then some y else valV kvs j
  | [], _ => by
    by_cases e : k = j
    · rw [if_pos e.symm]; exact valV_pos (p := (k, y)) e
    · rw [if_neg (fun z => e z.symm)]; exact valV_neg (p := (k, y)) e
  | p :: r, hn => by
    rw [List.cons_append]
    have hk : ¬ p.1 = k := fun z => by rw [valV_pos z] at hn; cases hn
    rw [valV_neg hk] at hn
    have ih := valV_snoc k j y r hn
    by_cases e : p.1 = j
    · rw [valV_pos e, valV_pos e, if_neg (fun z => hk (e.trans z))]
    · rw [valV_neg e, valV_neg e, ih]
theorem valV_put (kvs : List (κ × V)) (k j : κ) (y : V) : valV (putK kvs k y) j = if j = k then some y else valV kvs j := by
  unfold putK
  by_cases a : (kvs.any fun kv => decide (kv.1 = k)) = true
  · rw [if_pos a, valV_map]
    rw [valV_any] at a
    by_cases e : j = k
    · obtain ⟨x, hx⟩ := Option.isSome_iff_exists.mp a
      rw [if_pos e, e, hx, Option.map_some, if_pos rfl]
    · rw [if_neg e]
      cases valV kvs j with
      | none => rfl
      | some x => rw [Option.map_some, if_neg e]
  · rw [if_neg a]
    refine valV_snoc k j y kvs ?_
    rw [valV_any] at a
    cases q : valV kvs k with
    | none => rfl
    | some x => rw [q] at a; exact (a rfl).elim
theorem length_putK (kvs : List (κ × V)) (k : κ) (v : V) : (putK kvs k v).length ≤ kvs.length + 1 := by
  unfold putK
  split
  · rw [List.length_map]; omega
  · rw [List.length_append, List.length_cons, List.length_nil]; omega
theorem putK_new {kvs : List (κ × V)} {k : κ} (v : V) (h : valV kvs k = none) : putK kvs k v = kvs ++ [(k, v)] := by
  unfold putK
  rw [valV_any, h]
  exact if_neg (by decide)
theorem RelO.isSome_eq {o : Option V} {u : Option Value} (r : RelO o u) : o.isSome = u.isSome := by
  cases o with
  | none => cases u with
    | none => rfl
    | some _ => exact (show False from r).elim
  | some _ => cases u with
    | none => exact (show False from r).elim
    | some _ => rfl
theorem KV.val {kvs : List (κ × V)} {vs : List (κ × Value)} (r : KV kvs vs) (k : κ) : RelO (valV kvs k) (valueAt vs k) := by
  unfold KV at r
  induction r with
  | nil => exact True.intro
  | @cons p q ps qs h t ih =>
    obtain ⟨h1, h2⟩ := h
    by_cases e : p.1 = k
    · have e' : q.1 = k := h1.symm.trans e
      have b : valueAt (q :: qs) k = some q.2 := by simp [valueAt, List.find?_cons, e']
      rw [valV_pos e, b]; exact h2
    · have e' : ¬ q.1 = k := fun z => e (h1.trans z)
      have b : valueAt (q :: qs) k = valueAt qs k := by simp [valueAt, List.find?_cons, e']
      rw [valV_neg e, b]; exact ih
theorem KV.any {kvs : List (κ × V)} {vs : List (κ × Value)} (r : KV kvs vs) (k : κ) : (kvs.any fun kv => decide (kv.1 = k)) = vs.any fun kv => decide (kv.1 = k) := by
  unfold KV at r
  induction r with
  | nil => rfl
  | cons h t ih => rw [List.any_cons, List.any_cons, ih, h.1]
theorem KV.repl {kvs : List (κ × V)} {vs : List (κ × Value)} (r : KV kvs vs) (k : κ) {y : V} {u : Value} (ry : RelV y u) :
    KV (kvs.map fun kv => if kv.1 = k then (kv.1, y) else kv) (vs.map fun kv => if kv.1 = k then (kv.1, u) else kv) := by
  unfold KV at r ⊢
  induction r with
  | nil => exact .nil
  | @cons p q ps qs h t ih =>
    rw [List.map_cons, List.map_cons]
    refine .cons ?_ ih
    obtain ⟨h1, h2⟩ := h
    by_cases e : p.1 = k
    · rw [if_pos e, if_pos (h1.symm.trans e)]; exact ⟨h1, ry⟩
    · rw [if_neg e, if_neg (fun z => e (h1.trans z))]; exact ⟨h1, h2⟩
theorem KV.put {kvs : List (κ × V)} {vs : List (κ × Value)} (r : KV kvs vs) (k : κ) {y : V} {u : Value} (ry : RelV y u) : KV (putK kvs k y) (stored vs k u) := by
  unfold putK stored
  rw [r.any k]
  by_cases e : (vs.any fun kv => decide (kv.1 = k)) = true
  · rw [if_pos e, if_pos e]; exact r.repl k ry
  · rw [if_neg e, if_neg e]; exact Paired.snoc r ⟨rfl, ry⟩
theorem KV.keys {kvs : List (κ × V)} {vs : List (κ × Value)} (r : KV kvs vs) : kvs.map (·.1) = vs.map (·.1) := by
  unfold KV at r
  induction r with
  | nil => rfl
  | cons h t ih => rw [List.map_cons, List.map_cons, ih, h.1]
theorem KV.length {kvs : List (κ × V)} {vs : List (κ × Value)} (r : KV kvs vs) : kvs.length = vs.length := Paired.length r
end
theorem kV_is {P : Program} {w : World} {k : Key} {u : Value} (r : RelV (kV k) u) : (mixKind P w).is k u = true := by
  cases k with
  | inl i => obtain ⟨t, e⟩ := (show ∃ t, u = Value.int i t from r); subst e; exact mixKind_int P w i t
  | inr x => obtain ⟨t, e⟩ := (show ∃ t, u = Value.str x t from r); subst e; exact mixKind_str P w x t
theorem items_are {P : Program} {w : World} : ∀ {ks : List Key} {us : List Value}, Vals (ks.map kV) us → ItemsAre (mixKind P w) ks us
  | [], _, r => by rw [List.map_nil] at r; cases r; exact .nil
  | k :: ks, _, r => by
    rw [List.map_cons] at r
    cases r with
    | cons h t => exact .cons (kV_is h) (items_are t)
noncomputable abbrev KT (H : Hp) : List (List Key × V) → List (List Key × Addr × Value) → Prop := Paired fun p q => p.1 = q.1 ∧ H q.2.1 = some (.tup (p.1.map kV)) ∧ RelV p.2 q.2.2
theorem KT.val {H : Hp} {kvs : List (List Key × V)} {xs : List (List Key × Addr × Value)} (r : KT H kvs xs) (k : List Key) : RelO (valV kvs k) ((atKey xs k).map (·.2)) := by
  induction r with
  | nil => exact True.intro
  | @cons p q ps qs h t ih =>
    obtain ⟨h1, _, h2⟩ := h
    by_cases e : p.1 = k
    · have e' : q.1 = k := h1.symm.trans e
      have b : atKey (q :: qs) k = some q.2 := by simp [atKey, List.find?_cons, e']
      rw [valV_pos e, b]; exact h2
    · have e' : ¬ q.1 = k := fun z => e (h1.trans z)
      have b : atKey (q :: qs) k = atKey qs k := by simp [atKey, List.find?_cons, e']
      rw [valV_neg e, b]; exact ih
theorem KT.repl {H : Hp} {kvs : List (List Key × V)} {xs : List (List Key × Addr × Value)} (r : KT H kvs xs) (k : List Key) {y : V} {u : Value} (ry : RelV y u) :
    KT H (kvs.map fun kv => if kv.1 = k then (kv.1, y) else kv) (xs.map (putAt k u)) := by
  induction r with
  | nil => exact .nil
  | @cons p q ps qs h t ih =>
    rw [List.map_cons, List.map_cons]
    refine .cons ?_ ih
    obtain ⟨h1, h2, h3⟩ := h
    unfold putAt
    by_cases e : p.1 = k
    · rw [if_pos e, if_pos (h1.symm.trans e)]; exact ⟨h1, h2, ry⟩
    · rw [if_neg e, if_neg (fun z => e (h1.trans z))]; exact ⟨h1, h2, h3⟩
theorem KT.put {H : Hp} {kvs : List (List Key × V)} {xs : List (List Key × Addr × Value)} (r : KT H kvs xs) (k : List Key) {b : Addr} {y : V} {u : Value} (hb : H b = some (.tup (k.map kV))) (ry : RelV y u) :
    KT H (putK kvs k y) (storedH xs k b u) := by
  have e : (kvs.any fun kv => decide (kv.1 = k)) = (atKey xs k).isSome := by
    rw [valV_any, (r.val k).isSome_eq, Option.isSome_map]
  unfold putK storedH
  rw [e]
  by_cases q : (atKey xs k).isSome = true
  · rw [if_pos q, if_pos q]; exact r.repl k ry
  · rw [if_neg q, if_neg q]; exact Paired.snoc r ⟨rfl, hb, ry⟩
theorem KT.keeps {H H' : Hp} {kvs : List (List Key × V)} {xs : List (List Key × Addr × Value)} (r : KT H kvs xs) (ht : ∀ b ys, H b = some (.tup ys) → H' b = some (.tup ys)) : KT H' kvs xs :=
  Paired.mapP r fun _ _ z => ⟨z.1, ht _ _ z.2.1, z.2.2⟩
section
variable {P : Program} {w : World} {H : Hp} {h : Heap} {a : Addr}
theorem rd_of {u : HO} (ok : HOk P w H h) (e : Rd H a u) : ObjOk P w H h a u := e.ok ok
theorem dk_rd {kvs : List (Key × V)} (ok : HOk P w H h) (e : Rd H a (.dK kvs)) : kvs.length ≤ sizeLine ∧ (a == sysModules) = false ∧ ∃ vs, KV kvs vs ∧ h.DictOf (mixKind P w) a vs :=
  show ObjOk P w H h a (.dK kvs) from rd_of ok e
theorem dk_of {kvs : List (Key × V)} (ok : HOk P w H h) (e : H a = some (.dK kvs)) : kvs.length ≤ sizeLine ∧ (a == sysModules) = false ∧ ∃ vs, KV kvs vs ∧ h.DictOf (mixKind P w) a vs := dk_rd ok (.inl e)
theorem key_of {ks : List Key} (ok : HOk P w H h) (e : H a = some (.tup (ks.map kV))) : (tupleKind (mixKind P w)).is h ks a := by
  obtain ⟨_, its, r, o, h1, h2, n, h3⟩ := (show ObjOk P w H h a (.tup (ks.map kV)) from ok a _ e)
  exact ⟨o, its.toArray, n, h1, h2, h3, by simpa using items_are r⟩
theorem dt_rd {kvs : List (List Key × V)} (ok : HOk P w H h) (e : Rd H a (.dT kvs)) : kvs.length ≤ sizeLine ∧ (a == sysModules) = false ∧
    ∃ xs, KT H kvs xs ∧ h.DictOfH (tupleKind (mixKind P w)) a xs := by
  obtain ⟨z, y, xs, r, o, es, ep, h1, h2, h3, h4, h5⟩ := (show ObjOk P w H h a (.dT kvs) from rd_of ok e)
  refine ⟨z, y, xs, r, o, es, ep, h1, h2, h3, h4, fun x hx => ?_, h5⟩
  have all : ∀ {l : List (List Key × V)} {m : List (List Key × Addr × Value)}, KT H l m → ∀ x ∈ m, (tupleKind (mixKind P w)).is h x.1 x.2.1 := by
    intro l m q
    induction q with
    | nil => intro x hx; exact nomatch hx
    | @cons p q ps qs hq t ih =>
      intro x hx
      rcases List.mem_cons.mp hx with e | hx
      · subst e
        exact key_of ok (by rw [← hq.1]; exact hq.2.1)
      · exact ih x hx
  exact all r x hx
theorem dt_of {kvs : List (List Key × V)} (ok : HOk P w H h) (e : H a = some (.dT kvs)) : kvs.length ≤ sizeLine ∧ (a == sysModules) = false ∧
    ∃ xs, KT H kvs xs ∧ h.DictOfH (tupleKind (mixKind P w)) a xs := dt_rd ok (.inl e)
end
noncomputable def DGet (H : Hp) (a : Addr) (y : V) (r : Option V) : Prop :=
  (∃ kvs k, Rd H a (.dK kvs) ∧ y = kV k ∧ r = valV kvs k) ∨ ∃ kvs k b, Rd H a (.dT kvs) ∧ y = .ref b ∧ H b = some (.tup (k.map kV)) ∧ r = valV kvs k
noncomputable def DPut (H : Hp) (a : Addr) (y v : V) (H' : Hp) : Prop :=
  (∃ kvs k, H a = some (.dK kvs) ∧ y = kV k ∧ kvs.length < sizeLine ∧ H' = upd H a (.dK (putK kvs k v))) ∨
  ∃ kvs k b, H a = some (.dT kvs) ∧ y = .ref b ∧ H b = some (.tup (k.map kV)) ∧ kvs.length < sizeLine ∧ H' = upd H a (.dT (putK kvs k v))
theorem DGet.k {H : Hp} {a : Addr} {kvs : List (Key × V)} {k : Key} (e : H a = some (.dK kvs)) : DGet H a (kV k) (valV kvs k) := .inl ⟨kvs, k, .inl e, rfl, rfl⟩
theorem DPut.k {H : Hp} {a : Addr} {kvs : List (Key × V)} {k : Key} {v : V} (e : H a = some (.dK kvs)) (hl : kvs.length < sizeLine) : DPut H a (kV k) v (upd H a (.dK (putK kvs k v))) := .inl ⟨kvs, k, e, rfl, hl, rfl⟩
section
variable {X : Cx} {pins : List (Addr × Obj)} {σ : St} {H : Hp} {s : Shared} {a : Addr} {y v : V} {u r : Value} {o : Option V} {A : Around} {E : Value → Shared → Prop}
theorem Inv.big (I : Inv X pins σ H s) : sysModules < s.heap.objs.size := by
  have h : mainGlobals < s.heap.objs.size := (I.mod.glob.keeps I.bk).lt
  exact Nat.lt_trans (by decide) h
theorem d_getItem {Q : Value → Shared → Prop} (hu : A.units + 1 < cLine) (I : Inv X pins σ H s) (g : DGet H a y (some v)) (ry : RelV y u) (h : ∀ w' s', Inv X pins σ H s' → RelV v w' → Q w' s') :
    wpAny (model X.prog X.w) A (getItem (.ref a) u) Q E s := by
  rcases g with ⟨kvs, k, e, ey, l⟩ | ⟨kvs, k, b, e, ey, eb, l⟩
  · subst ey
    obtain ⟨z, hd, vs, rel, dd⟩ := dk_rd I.hok e
    obtain ⟨w', hw, rw'⟩ := RelO.some_of (v := v) (o := valueAt vs k) (by rw [l]; exact rel.val k)
    exact wpAny_getItem_of (kV_is ry) dd.mapOf hw (h w' _ (I.tok _) rw')
  · subst ey
    cases (show u = Value.ref b from ry)
    obtain ⟨z, hd, xs, rel, dd⟩ := dt_rd I.hok e
    obtain ⟨w', hw, rw'⟩ := RelO.some_of (v := v) (o := (atKey xs k).map (·.2)) (by rw [l]; exact rel.val k)
    obtain ⟨p, hp, hp2⟩ := Option.map_eq_some_iff.mp hw
    refine wpAny_getItem_heap (tupleKind_room_in1 hu) (key_of I.hok eb) dd hp ?_
    rw [hp2]
    exact h w' _ (I.tok _) rw'
theorem d_in {Q : Value → Shared → Prop} (hu : A.units + 1 < cLine) (I : Inv X pins σ H s) (g : DGet H a y o) (ry : RelV y u) (h : ∀ s', Inv X pins σ H s' → Q (.bool o.isSome) s') :
    wpAny (model X.prog X.w) A (compareOp .In u (.ref a)) Q E s := by
  rcases g with ⟨kvs, k, e, ey, l⟩ | ⟨kvs, k, b, e, ey, eb, l⟩
  · subst ey
    obtain ⟨z, hd, vs, rel, dd⟩ := dk_rd I.hok e
    refine wpAny_in_of (kV_is ry) hd dd.mapOf ?_
    rw [← (rel.val k).isSome_eq, ← l]
    exact h _ (I.tok _)
  · subst ey
    cases (show u = Value.ref b from ry)
    obtain ⟨z, hd, xs, rel, dd⟩ := dt_rd I.hok e
    refine wpAny_in_heap (tupleKind_room_in1 hu) (key_of I.hok eb) hd dd ?_
    have q := (rel.val k).isSome_eq
    rw [Option.isSome_map] at q
    rw [← q, ← l]
    exact h _ (I.tok _)
theorem d_notIn {Q : Value → Shared → Prop} (hu : A.units + 1 < cLine) (I : Inv X pins σ H s) (g : DGet H a y o) (ry : RelV y u) (h : ∀ s', Inv X pins σ H s' → Q (.bool (!o.isSome)) s') :
    wpAny (model X.prog X.w) A (compareOp .NotIn u (.ref a)) Q E s := by
  rcases g with ⟨kvs, k, e, ey, l⟩ | ⟨kvs, k, b, e, ey, eb, l⟩
  · subst ey
    obtain ⟨z, hd, vs, rel, dd⟩ := dk_rd I.hok e
    refine wpAny_notIn_of (kV_is ry) hd dd.mapOf ?_
    rw [← (rel.val k).isSome_eq, ← l]
    exact h _ (I.tok _)
  · subst ey
    cases (show u = Value.ref b from ry)
    obtain ⟨z, hd, xs, rel, dd⟩ := dt_rd I.hok e
    refine wpAny_notIn_heap (tupleKind_room_in1 hu) (key_of I.hok eb) hd dd ?_
    have q := (rel.val k).isSome_eq
    rw [Option.isSome_map] at q
    rw [← q, ← l]
    exact h _ (I.tok _)
theorem d_write {h' : Heap} {t' : Nat} {ob : HO} (I : Inv X pins σ H s) (mu : Mut (H a)) (hs : Heap.SameBut a s.heap h') (he : ∃ q, h'.get? a = some q) (new : ObjOk X.prog X.w (upd H a ob) h' a ob) :
    Inv X pins σ (upd H a ob) { s with heap := h', toks := t' } :=
  I.write (x := a) (e := a) mu (.inl rfl) (fun b q hb z => (hs.2 b hb).trans z) he new
theorem dk_new {P : Program} {w : World} {H' : Hp} {h' : Heap} {kvs : List (Key × V)} {vs : List (Key × Value)} (z : kvs.length ≤ sizeLine) (hd : (a == sysModules) = false) (rel : KV kvs vs) (dd : h'.DictOf (mixKind P w) a vs) :
    ObjOk P w H' h' a (.dK kvs) := ⟨z, hd, vs, rel, dd⟩
theorem d_setItem {H' : Hp} {Q : Unit → Shared → Prop} (hu : A.units + 1 < cLine) (I : Inv X pins σ H s) (g : DPut H a y v H') (ry : RelV y u) (rv : RelV v r) (h : ∀ s', Inv X pins σ H' s' → Q () s') :
    wpAny (model X.prog X.w) A (setItem (.ref a) u r) Q E s := by
  rcases g with ⟨kvs, k, e, ey, l, eH⟩ | ⟨kvs, k, b, e, ey, eb, l, eH⟩
  · subst ey eH
    obtain ⟨z, hd, vs, rel, dd⟩ := dk_of I.hok e
    have hz : vs.length ≤ sizeLine := by rw [← rel.length]; exact z
    have hl : (putK kvs k v).length ≤ sizeLine := by have := length_putK kvs k v; omega
    refine wpAny_setItem_pairs (hsz := hz) (kV_is ry) dd fun h' dd' hs => h _ ?_
    have he : ∃ q, h'.get? a = some q := let ⟨q, _, _, hq, _⟩ := dd'; ⟨q, hq⟩
    exact d_write I (by rw [e]; exact True.intro) hs he (dk_new hl hd (rel.put k rv) dd')
  · subst ey eH
    cases (show u = Value.ref b from ry)
    obtain ⟨z, hd, xs, rel, dd⟩ := dt_of I.hok e
    have hz : xs.length ≤ sizeLine := by rw [← Paired.length rel]; exact z
    have hl : (putK kvs k v).length ≤ sizeLine := by have := length_putK kvs k v; omega
    refine wpAny_setItem_heap (hsz := hz) (tupleKind_room_in1 hu) (key_of I.hok eb) dd fun h' dd' hs => h _ ?_
    obtain ⟨q, es, ep, hq, h2, h3, h4, _, h5⟩ := dd'
    refine d_write I (by rw [e]; exact True.intro) hs ⟨q, hq⟩ ⟨hl, hd, _, (rel.put k eb rv).keeps fun c ys ec => ?_, q, es, ep, hq, h2, h3, h4, h5⟩
    rw [upd_ne (ne_of ec e (fun z => nomatch z))]
    exact ec
end
section
variable {X : Cx} {pins : List (Addr × Obj)} {σ : St} {H : Hp} {s : Shared} {a : Addr} {kvs : List (Key × V)} {k : Key} {u : Value} {A : Around} {E : Value → Shared → Prop}
theorem d_len {Q : Value → Shared → Prop} (I : Inv X pins σ H s) (e : Rd H a (.dK kvs)) (h : ∀ t s', Inv X pins σ H s' → Q (.int kvs.length t) s') : wpAny (model X.prog X.w) A (call (.builtin "len") [.ref a]) Q E s := by
  obtain ⟨z, hd, vs, rel, dd⟩ := dk_rd I.hok e
  refine call_len_dict hd dd (by rw [← rel.length]; rw [sizeLine_eq] at z; omega) ?_
  rw [← rel.length]
  exact h _ _ (I.tok _)
end
noncomputable def NoSl (i : Expr) : Prop := ∀ ov iv, subscripted i false ov iv = operate [ov, iv] (getItem ov iv)
theorem subD_of {prog : Program} {w : World} {A : Around} {E : Value → Shared → Prop} {s : Shared} {env : Env} {value slice : Expr} {pos : Pos} {T id : String} {Q : Value → Shared → Prop}
    (hl : typeLookup (.type T) "__getitem__" = pure (some (.builtin id))) (hs : NoSl slice)
    (h : wpAny (model prog w) A (eval value env) (fun o s₁ => wpAny (model prog w) A (eval slice env) (fun i s₂ => s₂.TypeIs o T ∧ wpAny (model prog w) A (getItem o i) Q E s₂) E s₁) E s) :
    wpAny (model prog w) A (eval (.Subscript value slice pos) env) Q E s := by
  refine Subscript_ (wpAny_mono h (fun o s₁ h₁ => wpAny_mono h₁ (fun i s₂ h₂ => ?_) fun _ _ x => x) fun _ _ x => x)
  obtain ⟨hT, h₂⟩ := h₂
  unfold subscriptTail
  refine wpAny_bind ?_
  rw [getitemInPython_of_ne hT.not_modules]
  refine wpAny_bind (wpAny_specialOf hT hl ?_)
  have fin : wpAny (model prog w) A (subscripted slice false o i) (fun r s₃ => wpAny (model prog w) A (letTemporaryGo value o r >>= fun _ => pure r) Q E s₃) E s₂ := by
    rw [hs o i]
    exact wpAny_operating (wpAny_mono h₂ (fun r s₃ h₃ => wpAny_bind (wpAny_letTemporaryGo (wpAny_pure h₃))) fun _ _ x => x)
  first
    | exact wpAny_pure (wpAny_bind fin)
    | exact wpAny_bind (wpAny_pure (wpAny_bind fin))
    | exact wpAny_bind fin
theorem dict_typeIs {X : Cx} {pins : List (Addr × Obj)} {σ : St} {H : Hp} {s : Shared} {a : Addr} {y : V} {o : Option V} (I : Inv X pins σ H s) (g : DGet H a y o) : s.TypeIs (.ref a) "dict" := by
  rcases g with ⟨kvs, k, e, _, _⟩ | ⟨kvs, k, b, e, _, _, _⟩
  · obtain ⟨_, _, vs, _, dd⟩ := dk_rd I.hok e
    exact dd.typeIs
  · obtain ⟨_, _, xs, _, dd⟩ := dt_rd I.hok e
    exact dd.typeIs
noncomputable def tDGet (td ty : TE) : TE := fun σ H Q => td σ H fun x H1 => ty σ H1 fun y H2 => ∃ a v, x = .ref a ∧ DGet H2 a y (some v) ∧ Q v H2
noncomputable def tDIn (ty td : TE) : TE := fun σ H Q => ty σ H fun y H1 => td σ H1 fun x H2 => ∃ a o, x = .ref a ∧ DGet H2 a y o ∧ Q (.bl o.isSome) H2
noncomputable def tDNotIn (ty td : TE) : TE := fun σ H Q => ty σ H fun y H1 => td σ H1 fun x H2 => ∃ a o, x = .ref a ∧ DGet H2 a y o ∧ Q (.bl (!o.isSome)) H2
noncomputable def sDPut (td ty tv : TE) : TS := fun D σ H => tv σ H fun v H1 => td σ H1 fun x H2 => ty σ H2 fun y H3 => ∃ a H4, x = .ref a ∧ DPut H3 a y v H4 ∧ D.nx σ H4
section
variable {X : Cx} {o i e value : Expr} {pos pos' tpos : Pos} {td ty tv : TE}
theorem pe_dget (hu : X.A.units + 1 < cLine) (ho : PE X o td) (hi : PE X i ty) (hs : NoSl i) : PE X (.Subscript o i pos) (tDGet td ty) := by
  intro pins s σ H Q I h
  refine subD_of PySem.F.slot_dict_getitem.lookup hs (thn (ho pins s σ H _ I h) fun u s1 ⟨x, H1, I1, rx, q1⟩ => thn (hi pins s1 σ H1 _ I1 q1) fun iv s2 ⟨y, H2, I2, ry, a, v, ex, g, q2⟩ => ?_)
  subst ex
  obtain rfl : u = Value.ref a := rx
  exact ⟨dict_typeIs I2 g, d_getItem hu I2 g ry fun w' s3 I3 rw' => ⟨v, H2, I3, rw', q2⟩⟩
theorem pc_din (hu : X.A.units + 1 < cLine) (hi : PE X i ty) (ho : PE X o td) : PC X .In i o (tDIn ty td) := by
  intro pins s σ H Q I h
  refine thn (hi pins s σ H _ I h) fun iv s1 ⟨y, H1, I1, ry, q1⟩ => thn (ho pins s1 σ H1 _ I1 q1) fun u s2 ⟨x, H2, I2, rx, a, ov, ex, g, q2⟩ => ?_
  subst ex
  obtain rfl : u = Value.ref a := rx
  exact d_in hu I2 g ry fun s3 I3 => ⟨.bl ov.isSome, H2, I3, rfl, q2⟩
theorem pc_dnotin (hu : X.A.units + 1 < cLine) (hi : PE X i ty) (ho : PE X o td) : PC X .NotIn i o (tDNotIn ty td) := by
  intro pins s σ H Q I h
  refine thn (hi pins s σ H _ I h) fun iv s1 ⟨y, H1, I1, ry, q1⟩ => thn (ho pins s1 σ H1 _ I1 q1) fun u s2 ⟨x, H2, I2, rx, a, ov, ex, g, q2⟩ => ?_
  subst ex
  obtain rfl : u = Value.ref a := rx
  exact d_notIn hu I2 g ry fun s3 I3 => ⟨.bl (!ov.isSome), H2, I3, rfl, q2⟩
theorem ps_dput (hu : X.A.units + 1 < cLine) (ho : PE X o td) (hi : PE X i ty) (hv : PE X value tv) (hs : swapsWith value (some (.Subscript o i pos')) pos.line X.env = pure false) :
    PS X (.Assign [.Subscript o i pos'] value pos) (sDPut td ty tv) := by
  intro pins s σ H D I h
  refine wpAny_Assign_Subscript (thn (hv pins s σ H _ I h) fun r s1 ⟨v, H1, I1, rv, q1⟩ => thn (ho pins s1 σ H1 _ I1 q1) fun u s2 ⟨x, H2, I2, rx, q2⟩ => thn (hi pins s2 σ H2 _ I2 q2) fun iv s3 ⟨y, H3, I3, ry, a, H4, ex, g, q3⟩ => ?_) hs
  subst ex
  obtain rfl : u = Value.ref a := rx
  exact d_setItem hu I3 g ry rv fun s4 I4 => ⟨σ, H4, I4, q3⟩
end
theorem dk_empty {P : Program} {w : World} {H : Hp} (h : Heap) (hb : sysModules < h.objs.size) : ObjOk P w H (h.push { cls := .type "dict", data := .dict #[] }) h.objs.size (.dK []) :=
  ⟨Nat.zero_le _, beq_eq_false_iff_ne.mpr (Ne.symm (Nat.ne_of_lt hb)), [], .nil, Heap.DictOf.new h⟩
theorem dt_empty {P : Program} {w : World} {H : Hp} (h : Heap) (hb : sysModules < h.objs.size) : ObjOk P w H (h.push { cls := .type "dict", data := .dict #[] }) h.objs.size (.dT []) :=
  ⟨Nat.zero_le _, beq_eq_false_iff_ne.mpr (Ne.symm (Nat.ne_of_lt hb)), [], .nil, _, #[], 0, Heap.get?_push_size _ rfl, ⟨rfl, rfl, rfl⟩, rfl, rfl, List.nodup_nil⟩
noncomputable def tDNewK : TE := fun _ H Q => ∀ p, H p = none → Q (.ref p) (upd H p (.dK []))
section
variable {X : Cx} {pos : Pos}
theorem pe_dnewK : PE X (.Dict [] [] pos) tDNewK := fun pins s σ H Q I h =>
  wpAny_Dict_empty ⟨.ref s.heap.objs.size, _, I.laid (a := s.heap.objs.size) (o := .dK []) (t' := s.toks) (fun _ _ q => Heap.get?_push_of_some _ q) (Nat.le_refl _) (dk_empty s.heap I.big), rfl, h _ (I.hok.fresh (Nat.le_refl _))⟩
end
section
variable {X : Cx} {pins : List (Addr × Obj)} {σ : St} {H : Hp} {s : Shared} {a : Addr} {y d : V} {u r : Value} {o : Option V} {A : Around} {E : Value → Shared → Prop}
end
section
variable {X : Cx} {o e f : Expr} {apos cpos : Pos} {td ty tx : TE}
end
section
variable {X : Cx} {pins : List (Addr × Obj)} {σ : St} {H : Hp} {s : Shared} {a : Addr} {kvs : List (Key × V)} {A : Around} {E : Value → Shared → Prop}
end
section
variable {X : Cx} {pins : List (Addr × Obj)} {σ : St} {H : Hp} {s : Shared} {a : Addr} {y : V} {u : Value} {A : Around} {E : Value → Shared → Prop}
end
end L2
namespace L2
open PySem PySem.Spec PyProof.Rows
section
variable {X : Cx}
theorem call_lenD : CallR X (.builtin "len") (fun xs H Q => ∃ a kvs, xs = [V.ref a] ∧ H a = some (.dK kvs) ∧ Q (.int kvs.length) H) := by
  intro pins s σ H xs us Q I r h
  obtain ⟨a, kvs, rfl, ha, q⟩ := h
  obtain ⟨u, rfl, ru⟩ := vals1 r
  cases ru
  exact d_len I (.inl ha) fun t s' I' => ⟨.int kvs.length, H, I', ⟨t, rfl⟩, q⟩
end
section
variable {κ : Type} [DecidableEq κ]
theorem nd_snoc : ∀ {l : List κ} {k : κ}, l.Nodup → ¬ k ∈ l → (l ++ [k]).Nodup
  | [], k, _, _ => by simp
  | a :: r, k, h, hk => by
    obtain ⟨h1, h2⟩ := List.nodup_cons.mp h
    show (a :: (r ++ [k])).Nodup
    refine List.nodup_cons.mpr ⟨fun m => ?_, nd_snoc h2 fun m => hk (List.mem_cons.mpr (Or.inr m))⟩
    rcases List.mem_append.mp m with q | q
    · exact h1 q
    · exact hk (List.mem_cons.mpr (Or.inl (List.mem_singleton.mp q).symm))
end
end L2
set_option maxHeartbeats 4000000
namespace L2
open PySem PySem.Spec PyProof.Rows
section
variable {X : Cx} {tg : Expr}
end
theorem lookup_relabel_vis {env : Env} : ∀ {names : List (Str × NameKind)} {x : Str} {k' : NameKind},
    (names.map fun (n, k) => if (k == NameKind.free && env.scope.kind == .function && env.kindOf n == some .cell) then (n, NameKind.cell) else (n, k)).lookup x = some k' →
    ∃ k, names.lookup x = some k ∧ (k' = k ∨ (k = .free ∧ k' = .cell))
  | [], _, _, h => by simp at h
  | (n, k) :: r, x, k', h => by
    have ih := @lookup_relabel_vis env r x k'
    change List.lookup x ((if (k == NameKind.free && env.scope.kind == .function && env.kindOf n == some .cell) = true then (n, NameKind.cell) else (n, k)) :: _) = _ at h
    cases hx : x == n with
    | true =>
      by_cases hc : (k == NameKind.free && env.scope.kind == .function && env.kindOf n == some .cell) = true
      · rw [if_pos hc] at h
        simp only [List.lookup_cons, hx] at h
        cases h
        have hk : k = .free := by
          have := (Bool.and_eq_true _ _ ▸ (Bool.and_eq_true _ _ ▸ hc).1).1
          cases k <;> first | rfl | (exact absurd this (by decide))
        exact ⟨k, by simp [List.lookup_cons, hx], .inr ⟨hk, rfl⟩⟩
      · rw [if_neg hc] at h
        simp only [List.lookup_cons, hx] at h
        cases h
        exact ⟨k, by simp [List.lookup_cons, hx], .inl rfl⟩
    | false =>
      have h2 : ∃ k, r.lookup x = some k ∧ (k' = k ∨ (k = .free ∧ k' = .cell)) := by
        by_cases hc : (k == NameKind.free && env.scope.kind == .function && env.kindOf n == some .cell) = true
        · rw [if_pos hc] at h
          simp only [List.lookup_cons, hx] at h
          exact ih h
        · rw [if_neg hc] at h
          simp only [List.lookup_cons, hx] at h
          exact ih h
      obtain ⟨k2, e2, r2⟩ := h2
      exact ⟨k2, by simp [List.lookup_cons, hx, e2], r2⟩
noncomputable def closeL (names : List (Str × NameKind)) (cells : List (Str × Addr)) (acc : List (Str × Addr)) : List (Str × Addr) :=
  names.foldl (fun a x => if x.2 == .free then (match cells.lookup x.1 with | some c => (x.1, c) :: a | none => a) else a) acc
theorem closure_eq {scope : Scope} {env : Env} (h : ∀ x ∈ scope.names, x.2 = .free → ∃ c, env.cells.lookup x.1 = some c) : closureFor scope env = pure (closeL scope.names env.cells []) := by
  have all : ∀ (l : List (Str × NameKind)) (acc : List (Str × Addr)), (∀ x ∈ l, x.2 = .free → ∃ c, env.cells.lookup x.1 = some c) →
      (forIn l acc fun (x : Str × NameKind) (cs : List (Str × Addr)) => (if x.2 == .free then (do let c ← cellOf env x.1; pure (ForInStep.yield ((x.1, c) :: cs))) else pure (ForInStep.yield cs) : Sem _)) = pure (closeL l env.cells acc) := by
    intro l
    induction l with
    | nil => intro acc _; rfl
    | cons x r ih =>
      intro acc hl
      rw [List.forIn_cons]
      have hr : ∀ y ∈ r, y.2 = .free → ∃ c, env.cells.lookup y.1 = some c := fun y hy => hl y (List.mem_cons_of_mem _ hy)
      cases hk : x.2 == .free with
      | true =>
        have hkk : x.2 = .free := by
          revert hk
          cases x.2 <;> intro hk <;> first | rfl | (exact absurd hk (by decide))
        obtain ⟨c, hc⟩ := hl x List.mem_cons_self hkk
        simp only [if_true, cellOf, hc]
        rw [show closeL (x :: r) env.cells acc = closeL r env.cells ((x.1, c) :: acc) by unfold closeL; rw [List.foldl_cons]; simp [hk, hc]]
        exact ih _ hr
      | false =>
        simp only [Bool.false_eq_true, if_false]
        rw [show closeL (x :: r) env.cells acc = closeL r env.cells acc by unfold closeL; rw [List.foldl_cons]; simp [hk]]
        exact ih _ hr
  have q := all scope.names [] h
  simp only [closureFor]
  exact (congrArg (· >>= fun r => pure r) q).trans rfl
end L2
namespace L2
open PySem PySem.Spec PyProof.Rows
theorem closeL_sub : ∀ (names : List (Str × NameKind)) (cells acc : List (Str × Addr)), (∀ x c, (x, c) ∈ acc → cells.lookup x = some c) → ∀ x c, (x, c) ∈ closeL names cells acc → cells.lookup x = some c
  | [], _, _, h => h
  | y :: r, cells, acc, h => by
    have e : closeL (y :: r) cells acc = closeL r cells (if y.2 == .free then (match cells.lookup y.1 with | some c => (y.1, c) :: acc | none => acc) else acc) := rfl
    rw [e]
    refine closeL_sub r cells _ ?_
    cases hk : y.2 == .free with
    | false => simpa using h
    | true =>
      cases hc : cells.lookup y.1 with
      | none => simpa using h
      | some c =>
        intro x d hx
        simp only [if_true] at hx
        rcases List.mem_cons.mp hx with e | hx
        · cases e; exact hc
        · exact h x d hx
theorem closeL_keep : ∀ (names : List (Str × NameKind)) (cells acc : List (Str × Addr)) (x : Str) (c : Addr), (x, c) ∈ acc → (x, c) ∈ closeL names cells acc
  | [], _, _, _, _, h => h
  | y :: r, cells, acc, x, c, h => by
    have e : closeL (y :: r) cells acc = closeL r cells (if y.2 == .free then (match cells.lookup y.1 with | some c => (y.1, c) :: acc | none => acc) else acc) := rfl
    rw [e]
    refine closeL_keep r cells _ x c ?_
    cases hk : y.2 == .free with
    | false => simpa using h
    | true =>
      cases hc : cells.lookup y.1 with
      | none => simpa using h
      | some d => simp only [if_true]; exact List.mem_cons_of_mem _ h
theorem closeL_has : ∀ (names : List (Str × NameKind)) (cells acc : List (Str × Addr)) (x : Str) (c : Addr), (x, NameKind.free) ∈ names → cells.lookup x = some c → (x, c) ∈ closeL names cells acc
  | [], _, _, _, _, h, _ => by cases h
  | y :: r, cells, acc, x, c, h, hc => by
    have e : closeL (y :: r) cells acc = closeL r cells (if y.2 == .free then (match cells.lookup y.1 with | some c => (y.1, c) :: acc | none => acc) else acc) := rfl
    rw [e]
    rcases List.mem_cons.mp h with e2 | h
    · subst e2
      refine closeL_keep r cells _ x c ?_
      have : (NameKind.free == NameKind.free) = true := rfl
      simp only [hc, this, if_true]
      exact List.mem_cons_self
    · exact closeL_has r cells _ x c h hc
theorem lookup_of_mem_some {α : Type} : ∀ {l : List (Str × α)} {x : Str} {c : α}, (x, c) ∈ l → ∃ d, l.lookup x = some d
  | [], _, _, h => by cases h
  | (n, d) :: r, x, c, h => by
    cases hx : x == n with
    | true => exact ⟨d, by simp [List.lookup_cons, hx]⟩
    | false =>
      rcases List.mem_cons.mp h with e | h
      · cases e; simp at hx
      · obtain ⟨d', e⟩ := lookup_of_mem_some h
        exact ⟨d', by simp [List.lookup_cons, hx, e]⟩
section
variable {prog : Program} {w : World} {A : Around} {R : Result → Shared → Prop} {s : Shared}
theorem codeAny_compLoop_gen {elt target iter : Expr} {ifs : List Expr} {scope : Scope} {pos : Pos} {it acc : Value} {env : Env} (I : Nat → Shared → Prop)
    (turn : ∀ n s, I n s → wpAny (model prog w) A (pyNext it) (fun r s₁ => match r with
      | none => R (.ok .next) s₁
      | some v => wpAny (model prog w) A (letOwnedTupleGo target it v) (fun _ s₁' => wpAny (model prog w) A (assign target env v) (fun _ s₂ =>
          wpAny (model prog w) A (forIn ifs true fun c r => if r = true then do let ok ← isTrue c env (eval c env); pure (ForInStep.yield ok) else pure (ForInStep.yield r)) (fun ok s₃ =>
            if ok = true then wpAny (model prog w) A (eval elt env) (fun x s₄ =>
              wpAny (model prog w) A (call (.builtin "list.append") [acc, x]) (fun _ s₅ => ∃ m, m < n ∧ I m s₅) (notedBy (model prog w) A env fun e s' => R (.error e) s') s₄) (notedBy (model prog w) A env fun e s' => R (.error e) s') s₃
            else ∃ m, m < n ∧ I m s₃) (notedBy (model prog w) A env fun e s' => R (.error e) s') s₂) (notedBy (model prog w) A env fun e s' => R (.error e) s') s₁') (notedBy (model prog w) A env fun e s' => R (.error e) s') s₁) (notedBy (model prog w) A env fun e s' => R (.error e) s') s)
    (n : Nat) (h : I n s) :
    codeAny (model prog w) A (.compLoop (.ListComp elt [⟨target, iter, ifs, 0⟩] scope pos) 0 it acc env) R s := by
  refine codeAny_loop rfl I (fun n s hI => ?_) n h
  show wpAny _ A ((compTurn (.ListComp elt [⟨target, iter, ifs, 0⟩] scope pos) 0 it acc env).onRaise (fun x => do noteFrame x env; theTreesLotGoes x)) _ _ s
  refine wpAny_noted ?_
  rw [compTurn_list]
  refine wpAny_bind (wpAny_standAt (wpAny_bind (wpAny_mono (turn n s hI) (fun r s₁ h₁ => ?_) fun _ _ h' => h')))
  cases r with
  | none => exact wpAny_pure h₁
  | some v =>
    refine wpAny_bind (wpAny_mono h₁ (fun _ s₁' h₁' => ?_) fun _ _ h' => h')
    refine wpAny_bind (wpAny_mono h₁' (fun _ s₂ h₂ => wpAny_bind (wpAny_mono h₂ (fun ok s₃ h₃ => ?_) fun _ _ h' => h')) fun _ _ h' => h')
    cases ok with
    | false => exact wpAny_pure ⟨rfl, h₃⟩
    | true =>
      exact wpAny_bind (wpAny_bind (wpAny_mono h₃ (fun x s₄ h₄ => wpAny_bind (wpAny_mono h₄ (fun _ s₅ h₅ => wpAny_pure (wpAny_pure ⟨rfl, h₅⟩)) fun _ _ h' => h')) fun _ _ h' => h'))
end
noncomputable def PIf (X : Cx) (ifs : List Expr) (t : TT) : Prop :=
  ∀ (pins : List (Addr × Obj)) (s : Shared) (σ : St) (H : Hp) (Q : Bool → Hp → Prop), Inv X pins σ H s → t σ H Q →
    wpAny (model X.prog X.w) X.A (forIn ifs true fun c r => if r = true then do let ok ← isTrue c X.env (eval c X.env); pure (ForInStep.yield ok) else pure (ForInStep.yield r)) (TP X pins σ Q) X.xe s
noncomputable def tYes : TT := fun _ H Q => Q true H
theorem pif_nil {X : Cx} : PIf X [] tYes := fun _ _ _ H _ I h => wpAny_tests_nil ⟨H, I, h⟩
theorem pif_one {X : Cx} {c : Expr} {t : TT} (h : PT X c t) : PIf X [c] t := fun pins s σ H Q I hq => wpAny_tests_one (h pins s σ H Q I hq)
noncomputable def cxComp (X : Cx) (N' : List Str) (scope : Scope) (cl : List (Str × Addr)) (C : Addr) (s₀ : Shared) (H₀ : Hp) (ex : List Addr) : Cx :=
  { prog := X.prog, w := X.w, K := X.K, mg := X.mg, base := X.base, A := X.A, N := N', s₀ := s₀, H₀ := H₀, env := compEnvC scope cl C X.env, outer := X.stack, stack := X.stack, ex := ex, fn := fun x => match scope.names.lookup x with | some .cell => true | _ => false, calm := X.calm, pn := [], xe := fun _ _ => False }
theorem thnF {α : Type} {t : Sem α} {Q Q' : α → Shared → Prop} {M : Model} {A : Around} {E : Value → Shared → Prop} {s : Shared} (h : wpAny M A t Q (fun _ _ => False) s) (hQ : ∀ a s, Q a s → Q' a s) : wpAny M A t Q' E s := wpAny_mono h hQ fun _ _ z => z.elim
end L2
namespace L2
open PySem PySem.Spec PyProof.Rows
section
variable {X : Cx}
theorem call_isi : CallR X (.builtin "isinstance") (fun xs H Q => ∃ x t T b, xs = [x, .ty T] ∧ TyOf X.K H x t ∧ PySem.W.kitOne X.K t (.type T) = some b ∧ Q (.bl b) H) := by
  intro pins s σ H xs us Q I r h
  obtain ⟨x, t, T, b, rfl, ty, e, q⟩ := h
  obtain ⟨u, w', rfl, ru, rw'⟩ := vals2 r
  cases (show w' = Value.type T from rw')
  exact isinst_ok I ru ty e fun tk => ⟨.bl b, H, I.tok tk, rfl, q⟩
theorem op_repS : OpR X (binaryOp .Mult) (fun x y H Q => ∃ z i, x = .str z ∧ y = .int i ∧ 0 ≤ i ∧ i ≤ 100000 ∧ z.length * i.toNat ≤ 100000 ∧ Q (.str (Txt.mul z i)) H) := by
  intro pins s σ H x y v u Q I rx ry h
  obtain ⟨z, i, rfl, rfl, h0, h1, h2, q⟩ := h
  obtain ⟨t, rfl⟩ := rx
  obtain ⟨t', rfl⟩ := ry
  have hsz : sizeLine = 16777216 := sizeLine_eq
  refine SB.mul ⟨?_, fun h3 h4 => ?_, fun h3 h4 => ?_⟩ fun t' k => ⟨.str _, H, I.tok k, ⟨_, rfl⟩, q⟩
  · rw [decide_eq_false (by omega), decide_eq_false (by omega)]; rfl
  · have h5 : (z.length : Int) ≤ 100000 := by
      have h6 : z.length * 1 ≤ z.length * i.toNat := Nat.mul_le_mul_left _ (by omega)
      omega
    have h7 : (100000 : Int) ≤ (2 ^ 63 - 1) / i := by
      rw [Int.le_ediv_iff_mul_le (by omega)]
      have : (100000 : Int) * i ≤ 100000 * 100000 := Int.mul_le_mul_of_nonneg_left h1 (by decide)
      have e : (2 : Int) ^ 63 - 1 = 9223372036854775807 := by decide
      omega
    omega
  · unfold Builtin.Str.tooLong
    rw [hsz]
    exact decide_eq_false (by omega)
end
end L2
namespace L2
open PySem PySem.Spec PyProof.Rows
noncomputable def isStar : Expr → Bool
  | .Starred _ _ => true
  | _ => false
noncomputable def noStar (es : List Expr) : Bool := es.all fun e => !isStar e
theorem star_one (e : Expr) (es : List Expr) (env : Env) (h : isStar e = false) : starEach (e :: es) env = (false, eval e env) :: starEach es env := by
  cases e <;> first | rfl | (exact absurd h (by simp [isStar]))
theorem star_any (pos : Pos) (env : Env) : ∀ es : List Expr, noStar es = true → (backTo pos (starEach es env)).any (·.1) = false
  | [], _ => rfl
  | e :: es, h => by
    have h' : (!isStar e) = true ∧ noStar es = true := by
      have := h
      unfold noStar at this ⊢
      rw [List.all_cons, Bool.and_eq_true] at this
      exact this
    have hs : isStar e = false := by
      have := h'.1
      cases q : isStar e with
      | true => rw [q] at this; cases this
      | false => rfl
    rw [star_one e es env hs]
    show (false || (backTo pos (starEach es env)).any (·.1)) = false
    rw [star_any pos env es h'.2]; rfl
theorem noStar_cons {e : Expr} {es : List Expr} (h : noStar (e :: es) = true) : isStar e = false ∧ noStar es = true := by
  unfold noStar at h ⊢
  rw [List.all_cons, Bool.and_eq_true] at h
  refine ⟨?_, h.2⟩
  cases q : isStar e with
  | true => rw [q] at h; cases h.1
  | false => rfl
section
variable {X : Cx} {CX : CXT} {k : Nat} {f C : Addr} {fd : FuncData} {ps : List Str} {sp : Sp} {dvs : List V} {ds : List Value} {E : XK} {x m : Str} {p pos apos : Pos} {e o : Expr} {es : List Expr} {ta te : TE} {t : TA} {id T : String} {r : List V → Hp → VK → Prop}
theorem pac (ha : PE X e te) (hr : PA X es t) (hs : isStar e = false := by rfl) : PA X (e :: es) (tCons te t) := pa_cons ha hr (star_one _ _ _ hs)
theorem pcall (F : FnOk X.prog X.w X.K X.mg X.base CX k f fd ps sp) (hr : Room k X.A) (hm : X.mg x = some (.ref f)) (hk : PySem.W.keepIn X.K (.ref f) = true) (hb : Binds X.K fd ps []) (hx : Passes CX X E)
    (ha : PA X (e :: es) t) (hg : Gl X x := by rfl) (hdb : (x == ("__debug__" : Str)) = false := by decide) (hs : noStar (e :: es) = true := by rfl) : PE X (.Call (.Name x p) (e :: es) [] pos) (tCall sp [] E t) :=
  pe_call F hr hg hm hk hb .nil hx ha hdb (star_one _ _ _ (noStar_cons hs).1) (star_any _ _ _ (noStar_cons hs).2)
theorem pblt (hc : CallR X (.builtin id) r) (hm : X.mg x = none) (hv : bootBuiltins x = some (.builtin id)) (ha : PA X (e :: es) t) (hg : Gl X x := by rfl) (hn : x ≠ "__name__" := by decide) (hdb : (x == ("__debug__" : Str)) = false := by decide)
    (hs : noStar (e :: es) = true := by rfl) : PE X (.Call (.Name x p) (e :: es) [] pos) (tCB r t) :=
  pe_callB hc hg hm hv ha hn hdb (star_one _ _ _ (noStar_cons hs).1) (star_any _ _ _ (noStar_cons hs).2)
theorem ptyp (hc : CallR X (.type T) r) (hm : X.mg x = none) (hv : bootBuiltins x = some (.type T)) (ha : PA X (e :: es) t) (hg : Gl X x := by rfl) (hn : x ≠ "__name__" := by decide) (hdb : (x == ("__debug__" : Str)) = false := by decide)
    (hs : noStar (e :: es) = true := by rfl) : PE X (.Call (.Name x p) (e :: es) [] pos) (tCB r t) :=
  pe_callTy hc hg hm hv ha hn hdb (star_one _ _ _ (noStar_cons hs).1) (star_any _ _ _ (noStar_cons hs).2)
end
end L2
namespace L2
open PySem PySem.Spec PyProof.Rows
structure Ev (X : Cx) (e : Expr) (σ : St) (H : Hp) (Q : VK) : Prop where
  run : ∀ (pins : List (Addr × Obj)) (s : Shared), Inv X pins σ H s → wpAny (model X.prog X.w) X.A (eval e X.env) (EP X pins σ Q) X.xe s
structure Et (X : Cx) (e : Expr) (σ : St) (H : Hp) (Q : Bool → Hp → Prop) : Prop where
  run : ∀ (pins : List (Addr × Obj)) (s : Shared), Inv X pins σ H s → wpAny (model X.prog X.w) X.A (isTrue e X.env (eval e X.env)) (TP X pins σ Q) X.xe s
structure Ew (X : Cx) (e : Expr) (σ : St) (H : Hp) (Q : Bool → Hp → Prop) : Prop where
  run : ∀ (whole : Sem Value) (pins : List (Addr × Obj)) (s : Shared), Inv X pins σ H s → wpAny (model X.prog X.w) X.A (isTrue e X.env whole) (TP X pins σ Q) X.xe s
structure Ea (X : Cx) (es : List Expr) (σ : St) (H : Hp) (Q : List V → Hp → Prop) : Prop where
  run : ∀ (pos : Pos) (pins : List (Addr × Obj)) (s : Shared), Inv X pins σ H s → wpAny (model X.prog X.w) X.A (spliced (backTo pos (starEach es X.env))) (AP X pins σ Q) X.xe s
structure Eo (X : Cx) (e : Option Expr) (σ : St) (H : Hp) (Q : Option Int → Hp → Prop) : Prop where
  run : ∀ (pins : List (Addr × Obj)) (s : Shared), Inv X pins σ H s → wpAny (model X.prog X.w) X.A (evalPart e X.env) (fun u s' => ∃ o H', Inv X pins σ H' s' ∧ IsPart u o ∧ Q o H') X.xe s
structure Eg (X : Cx) (e : Expr) (v : V) (σ : St) (H : Hp) (Q : St → Hp → Prop) : Prop where
  run : ∀ (pins : List (Addr × Obj)) (s : Shared) (u : Value), Inv X pins σ H s → RelV v u → wpAny (model X.prog X.w) X.A (assign e X.env u) (fun _ s' => ∃ σ' H', Inv X pins σ' H' s' ∧ Q σ' H') X.xe s
structure Run (X : Cx) (l : List Stmt) (D : Ends) (σ : St) (H : Hp) : Prop where
  run : ∀ (pins : List (Addr × Obj)) (s : Shared), Inv X pins σ H s → wpAny (model X.prog X.w) X.A (execs l X.env) (SP X pins D) X.xe s
noncomputable def tEv (X : Cx) (e : Expr) : TE := fun σ H Q => Ev X e σ H Q
noncomputable def tEt (X : Cx) (e : Expr) : TT := fun σ H Q => Et X e σ H Q
noncomputable def tEw (X : Cx) (e : Expr) : TT := fun σ H Q => Ew X e σ H Q
noncomputable def tEa (X : Cx) (es : List Expr) : TA := fun σ H Q => Ea X es σ H Q
noncomputable def tEo (X : Cx) (e : Option Expr) : TO := fun σ H Q => Eo X e σ H Q
noncomputable def tEg (X : Cx) (e : Expr) : TG := fun v σ H Q => Eg X e v σ H Q
noncomputable def tRun (X : Cx) (l : List Stmt) : TS := fun D σ H => Run X l D σ H
section
variable {X : Cx} {e a b c o : Expr} {es : List Expr} {st : Stmt} {rest body els : List Stmt} {σ : St} {H : Hp} {Q : VK} {T : Bool → Hp → Prop} {L : List V → Hp → Prop} {D : Ends} {pos p p2 : Pos}
theorem pe_ev : PE X e (tEv X e) := fun pins s _ _ _ I h => h.run pins s I
theorem pt_et : PT X e (tEt X e) := fun pins s _ _ _ I h => h.run pins s I
theorem pw_ew : PW X e (tEw X e) := fun wh pins s _ _ _ I h => h.run wh pins s I
theorem pa_ea : PA X es (tEa X es) := fun pos pins s _ _ _ I h => h.run pos pins s I
theorem po_eo {e : Option Expr} : PO X e (tEo X e) := fun pins s _ _ _ I h => h.run pins s I
theorem pg_eg : PG X e (tEg X e) := fun pins s _ _ _ u _ I r h => h.run pins s u I r
theorem pss_run {l : List Stmt} : PSs X l (tRun X l) := fun pins s _ _ _ I h => h.run pins s I
theorem ev_of {t : TE} (h1 : PE X e t) (h2 : t σ H Q) : Ev X e σ H Q := ⟨fun pins s I => h1 pins s σ H Q I h2⟩
theorem et_of {t : TT} (h1 : PT X e t) (h2 : t σ H T) : Et X e σ H T := ⟨fun pins s I => h1 pins s σ H T I h2⟩
theorem ew_of {t : TT} (h1 : PW X e t) (h2 : t σ H T) : Ew X e σ H T := ⟨fun wh pins s I => h1 wh pins s σ H T I h2⟩
theorem ea_of {t : TA} (h1 : PA X es t) (h2 : t σ H L) : Ea X es σ H L := ⟨fun pos pins s I => h1 pos pins s σ H L I h2⟩
theorem eo_of {e : Option Expr} {t : TO} {R : Option Int → Hp → Prop} (h1 : PO X e t) (h2 : t σ H R) : Eo X e σ H R := ⟨fun pins s I => h1 pins s σ H R I h2⟩
theorem eg_of {t : TG} {v : V} {R : St → Hp → Prop} (h1 : PG X e t) (h2 : t v σ H R) : Eg X e v σ H R := ⟨fun pins s u I r => h1 pins s σ H v u R I r h2⟩
theorem run_cons {t : TS} (h1 : PS X st t) (h2 : t { D with nx := fun σ' H' => Run X rest D σ' H' } σ H) : Run X (st :: rest) D σ H := ⟨fun pins s I => pss_cons h1 pss_run pins s σ H D I h2⟩
theorem run_nil (h : D.nx σ H) : Run X [] D σ H := ⟨fun pins s I => pss_nil pins s σ H D I h⟩
theorem Ev.mono {Q' : VK} (h : Ev X e σ H Q) (f : ∀ v H', Q v H' → Q' v H') : Ev X e σ H Q' := ⟨fun pins s I => thn (h.run pins s I) fun _ _ ⟨v, H', I', r, q⟩ => ⟨v, H', I', r, f v H' q⟩⟩
theorem Et.mono {T' : Bool → Hp → Prop} (h : Et X e σ H T) (f : ∀ v H', T v H' → T' v H') : Et X e σ H T' := ⟨fun pins s I => thn (h.run pins s I) fun v _ ⟨H', I', q⟩ => ⟨H', I', f v H' q⟩⟩
theorem Ea.mono {L' : List V → Hp → Prop} (h : Ea X es σ H L) (f : ∀ v H', L v H' → L' v H') : Ea X es σ H L' := ⟨fun pos pins s I => thn (h.run pos pins s I) fun _ _ ⟨v, H', I', r, q⟩ => ⟨v, H', I', r, f v H' q⟩⟩
theorem ev_v (i : Nat) {x : Str} {v : V} (h : Q v H) (hv : σ[i]? = some (some v) := by rfl) (hN : X.N[i]? = some x := by rfl) (hs : Vis X.env.scope x := by first | exact Or.inl rfl | exact Or.inr (Or.inl rfl) | exact Or.inr (Or.inr rfl)) (hd : (x == ("__debug__" : Str)) = false := by decide)
    (hcd : (x == ("__classdict__" : Str)) = false := by decide) : Ev X (.Name x p) σ H Q := ev_of (pe_var (i := i) hN hs hd hcd) ⟨v, hv, h⟩
theorem ev_int {i : Int} {j : Nat} (h : Q (.int i) H) : Ev X (.Constant (.int i) j p) σ H Q := ev_of (pe_int) h
theorem ev_bl {i : Bool} {j : Nat} (h : Q (.bl i) H) : Ev X (.Constant (.bool i) j p) σ H Q := ev_of (pe_bl) h
theorem ev_str {i : Str} {j : Nat} (h : Q (.str i) H) : Ev X (.Constant (.str i) j p) σ H Q := ev_of (pe_str) h
theorem ev_bltn {x : Str} (v : V) {u : Value} (hm : X.mg x = none) (hv : bootBuiltins x = some u) (r : RelV v u) (h : Q v H) (hg : Gl X x := by rfl) (hn : x ≠ "__name__" := by decide) (hd : (x == ("__debug__" : Str)) = false := by decide) : Ev X (.Name x p) σ H Q := ev_of (pe_bltn hg hm hv r hn hd) h
theorem ev_op {op : Operator} {r : R2} (ho : OpR X (binaryOp op) r) (h : Ev X a σ H fun x H1 => Ev X b σ H1 fun y H2 => r x y H2 Q) : Ev X (.BinOp a op b pos) σ H Q := ev_of (pe_op ho pe_ev pe_ev) h
theorem ev_cmp {op : CmpOp} {r : R2} (ho : OpR X (compareOp op) r) (h : Ev X a σ H fun x H1 => Ev X b σ H1 fun y H2 => r x y H2 Q) (hm : behindInMarks op b = false := by with_unfolding_all rfl) : Ev X (.Compare a [op] [b] pos) σ H Q := ev_of (pe_cmpR ho pe_ev pe_ev hm) h
theorem ev_not (h : Ev X a σ H fun x H1 => ∃ k, x = .bl k ∧ Q (.bl (!k)) H1) : Ev X (.UnaryOp .Not a pos) σ H Q := ev_of (pe_not pe_ev) h
theorem ev_and (h : Ev X a σ H fun x H1 => ∃ k, x = .bl k ∧ if k = true then Ev X (.BoolOp .And (b :: es) pos) σ H1 Q else Q (.bl false) H1) : Ev X (.BoolOp .And (a :: b :: es) pos) σ H Q := ev_of (pe_and pe_ev pe_ev) h
theorem ev_last {op : BoolOp} (h : Ev X a σ H Q) : Ev X (.BoolOp op [a] pos) σ H Q := ev_of (pe_one pe_ev) h
theorem ev_ix {r : R2} (hr : IxR X r) (h : Ev X a σ H fun x H1 => Ev X b σ H1 fun y H2 => r x y H2 Q) (hs : PlainIx b := by intro _ _; rfl) : Ev X (.Subscript a b pos) σ H Q := ev_of (pe_ix hr pe_ev pe_ev hs) h
theorem ev_slice {r : V → Option Int → Option Int → Hp → VK → Prop} {lo hi : Option Expr} (hr : SlR X r) (h : Ev X a σ H fun x H1 => Eo X lo σ H1 fun l H2 => Eo X hi σ H2 fun u H3 => r x l u H3 Q) : Ev X (.Subscript a (.Slice lo hi none p2) pos) σ H Q := ev_of (pe_slice hr pe_ev po_eo po_eo) h
theorem eo_none {R : Option Int → Hp → Prop} (h : R none H) : Eo X none σ H R := eo_of (po_none) h
theorem eo_some {R : Option Int → Hp → Prop} (h : Ev X a σ H fun x H1 => ∃ i, x = .int i ∧ R (some i) H1) : Eo X (some a) σ H R := eo_of (po_some pe_ev) h
theorem ea_nil (h : L [] H) : Ea X [] σ H L := ea_of (pa_nil) h
theorem ea_cons (h : Ev X e σ H fun x H1 => Ea X es σ H1 fun xs H2 => L (x :: xs) H2) (hs : isStar e = false := by rfl) : Ea X (e :: es) σ H L := ea_of (pac pe_ev pa_ea hs) h
theorem ev_tup {k : Nat} (h : Ea X es σ H fun xs H1 => xs.length ≤ sizeLine ∧ ∀ p, H1 p = none → Q (.ref p) (upd H1 p (.tup xs))) : Ev X (.Tuple es k pos) σ H Q := ev_of (pe_tup pa_ea) h
theorem ev_lst (h : Ea X es σ H fun xs H1 => xs.length ≤ sizeLine ∧ ∀ p, H1 p = none → Q (.ref p) (upd H1 p (.lst xs))) : Ev X (.List es pos) σ H Q := ev_of (pe_lst pa_ea) h
theorem ev_call {CX : CXT} {k : Nat} {f : Addr} {fd : FuncData} {ps : List Str} {sp : Sp} {E : XK} {x : Str} (F : FnOk X.prog X.w X.K X.mg X.base CX k f fd ps sp) (hr : Room k X.A) (hm : X.mg x = some (.ref f)) (hk : PySem.W.keepIn X.K (.ref f) = true) (hb : Binds X.K fd ps []) (hx : Passes CX X E)
    (h : Ea X (e :: es) σ H fun vs H1 => sp vs H1 Q E) (hg : Gl X x := by rfl) (hdb : (x == ("__debug__" : Str)) = false := by decide) (hs : noStar (e :: es) = true := by rfl) : Ev X (.Call (.Name x p) (e :: es) [] pos) σ H Q :=
  ev_of (pcall F hr hm hk hb hx pa_ea hg hdb hs) (show Ea X (e :: es) σ H _ from h.mono fun vs H1 q => by rw [List.append_nil]; exact q)
theorem ev_blt {id : String} {r : List V → Hp → VK → Prop} {x : Str} (hc : CallR X (.builtin id) r) (hm : X.mg x = none) (hv : bootBuiltins x = some (.builtin id)) (h : Ea X (e :: es) σ H fun vs H1 => r vs H1 Q) (hg : Gl X x := by rfl) (hn : x ≠ "__name__" := by decide) (hdb : (x == ("__debug__" : Str)) = false := by decide)
    (hs : noStar (e :: es) = true := by rfl) : Ev X (.Call (.Name x p) (e :: es) [] pos) σ H Q := ev_of (pblt hc hm hv pa_ea hg hn hdb hs) h
theorem ev_typ {T : String} {r : List V → Hp → VK → Prop} {x : Str} (hc : CallR X (.type T) r) (hm : X.mg x = none) (hv : bootBuiltins x = some (.type T)) (h : Ea X (e :: es) σ H fun vs H1 => r vs H1 Q) (hg : Gl X x := by rfl) (hn : x ≠ "__name__" := by decide) (hdb : (x == ("__debug__" : Str)) = false := by decide)
    (hs : noStar (e :: es) = true := by rfl) : Ev X (.Call (.Name x p) (e :: es) [] pos) σ H Q := ev_of (ptyp hc hm hv pa_ea hg hn hdb hs) h
theorem et_cmp {op : CmpOp} {r : R2} (ho : OpR X (compareOp op) r) (h : Ev X a σ H fun x H1 => Ev X b σ H1 fun y H2 => r x y H2 fun z H3 => ∃ k, z = .bl k ∧ T k H3) (hm : behindInMarks op b = false := by with_unfolding_all rfl) : Et X (.Compare a [op] [b] pos) σ H T := et_of (pt_cmpR ho pe_ev pe_ev hm) h
theorem et_val (h : Ev X e σ H fun x H1 => ∃ k, x = .bl k ∧ T k H1) (he : ∀ whole, isTrue e X.env whole = (do let v ← whole; standAt e.pos; holding [v] (truthy v)) := by intro _; rfl) : Et X e σ H T := et_of (pt_val pe_ev he) h
theorem et_truth (h : Ev X e σ H fun x H1 => ∃ k, TruV X.K x H1 k ∧ T k H1) (he : ∀ whole, isTrue e X.env whole = (do let v ← whole; standAt e.pos; holding [v] (truthy v)) := by intro _; rfl) : Et X e σ H T := et_of (pt_truth pe_ev he) h
theorem et_bool (h : Ew X e σ H T) : Et X e σ H T := ⟨fun pins s I => h.run _ pins s I⟩
theorem ew_and (h : Et X a σ H fun k H1 => if k = true then Ew X (.BoolOp .And (b :: es) pos) σ H1 T else T false H1) : Ew X (.BoolOp .And (a :: b :: es) pos) σ H T := ew_of (pw_and pt_et pw_ew) h
theorem ew_and1 (h : Et X a σ H T) : Ew X (.BoolOp .And [a] pos) σ H T := ew_of (pw_and1 pt_et) h
theorem eg_name (i : Nat) {x : Str} {v : V} {R : St → Hp → Prop} (hN : X.N.Nodup) (h : R (σ.set i (some v)) H) (hi : X.N[i]? = some x := by rfl) (hx : Loc X.env.scope x := by first | exact Or.inl rfl | exact Or.inr rfl) (hf : X.fn x = true ∨ X.env.scope.names.lookup x = some .local := by first | exact .inl rfl | exact .inr rfl | assumption) : Eg X (.Name x p) v σ H R := eg_of (pg_name hN hi hx hf) h
theorem run_set (i : Nat) {x : Str} {pos' : Pos} (hN : X.N.Nodup) (h : Ev X e σ H fun v H1 => Run X rest D (σ.set i (some v)) H1) (hi : X.N[i]? = some x := by rfl) (hx : Loc X.env.scope x := by first | exact Or.inl rfl | exact Or.inr rfl) (hs : swapsWith e (some (.Name x pos')) pos.line X.env = pure false := by rfl)
    (hf : X.fn x = true ∨ X.env.scope.names.lookup x = some .local := by first | exact .inl rfl | exact .inr rfl | assumption) : Run X (.Assign [.Name x pos'] e pos :: rest) D σ H := run_cons (ps_set hN hi hx pe_ev hs hf) h
theorem run_if (h : Et X c σ H fun k H1 => if k = true then Run X body { D with nx := fun σ' H' => Run X rest D σ' H' } σ H1 else Run X els { D with nx := fun σ' H' => Run X rest D σ' H' } σ H1) : Run X (.If c body els pos :: rest) D σ H := run_cons (ps_if pt_et pss_run pss_run) h
theorem run_ifJ (φ ψ : Prop) (hc : ∀ T : Bool → Hp → Prop, (∀ k : Bool, (k = true → φ) → (k = false → ψ) → T k H) → Et X c σ H T) (ht : φ → Run X body { D with nx := fun σ' H' => Run X rest D σ' H' } σ H) (hu : ψ → Run X els { D with nx := fun σ' H' => Run X rest D σ' H' } σ H) : Run X (.If c body els pos :: rest) D σ H :=
  run_if (hc _ fun k p q => by
    cases k with
    | true => rw [if_pos rfl]; exact ht (p rfl)
    | false => rw [if_neg Bool.false_ne_true]; exact hu (q rfl))
theorem run_ret (h : Ev X e σ H D.rt) : Run X (.Return (some e) pos :: rest) D σ H := run_cons (ps_ret pe_ev) h
theorem run_expr (h : Ev X e σ H fun _ H1 => Run X rest D σ H1) (hs : swapsWith e none pos.line X.env = pure false := by rfl) : Run X (.Expr e pos :: rest) D σ H := run_cons (ps_expr pe_ev hs) h
noncomputable def Loop (X : Cx) (tg : Expr) (body : List Stmt) (J : It) (D : Ends) (after : St → Hp → Prop) (σ : St) (H : Hp) : Prop :=
  ∃ W : Nat → Nat → St → Hp → Prop, (∃ m, W 0 m σ H) ∧ ∀ i m σ H, W i m σ H → (J.stop i H ∧ after σ H) ∨ (J.go i H ∧ ∃ N : St → Hp → Prop, (∀ σ' H', N σ' H' → ∃ m', m' < m ∧ W (i + 1) m' σ' H') ∧
    ∀ x H', J.yld i H x H' → Eg X tg x σ H' fun σ2 H2 => Run X body { D with nx := N, ct := N, bk := after } σ2 H2)
theorem run_for {tg iter : Expr} {wi : TI} (hi : PI X tg iter wi) (h : wi σ H fun J H1 => Loop X tg body J D (fun σ' H' => Run X rest D σ' H') σ H1) (hp : PassesOwn (model X.prog X.w) X.A X.env X.xe := by exact PassesOwn.never) (hc : X.calm = true := by rfl)
    (hs : ∀ x, foldedSetIterable iter X.env x = pure x := by intro _; rfl) : Run X (.For tg iter body [] pos :: rest) D σ H := run_cons (ps_for hp hc hi pg_eg pss_run hs) h
theorem run_forR1 {tg : Expr} {q : Pos} (hm : X.mg "range" = none) (h : Ev X a σ H fun x H1 => ∃ j : Int, x = .int j ∧ -(2 ^ 62) ≤ j ∧ j < 2 ^ 62 ∧ Loop X tg body (Itr 0 j.toNat) D (fun σ' H' => Run X rest D σ' H') σ H1) (hg : Gl X "range" := by rfl) (hp : PassesOwn (model X.prog X.w) X.A X.env X.xe := by exact PassesOwn.never) (hc : X.calm = true := by rfl) (hs : isStar a = false := by rfl) :
    Run X (.For tg (.Call (.Name "range" q) [a] [] p) body [] pos :: rest) D σ H :=
  run_for (wi := iRng1 (tEa X [a])) (pi_range1 hg hm pa_ea (star_one a [] _ hs)) (show Ea X [a] σ H _ from ea_cons (h.mono fun x H1 ⟨j, e, h1, h2, h3⟩ => ea_nil ⟨j, by rw [e], h1, h2, h3⟩) hs) hp hc (by intro _; rfl)
theorem run_forT {tg iter : Expr} (h : Ev X iter σ H fun x H1 => ∃ a, x = .ref a ∧ (∃ xs, SqT X.K H1 a xs) ∧ Loop X tg body (Itt X.K a) D (fun σ' H' => Run X rest D σ' H') σ H1) (hp : PassesOwn (model X.prog X.w) X.A X.env X.xe := by exact PassesOwn.never) (hc : X.calm = true := by rfl)
    (hs : ∀ x, foldedSetIterable iter X.env x = pure x := by intro _; rfl) : Run X (.For tg iter body [] pos :: rest) D σ H := run_for (pi_tup pe_ev) h hp hc hs
theorem run_forL {tg iter : Expr} (h : Ev X iter σ H fun x H1 => ∃ a, x = .ref a ∧ (∃ xs, SqL X.K H1 a xs) ∧ Loop X tg body (Itl X.K a) D (fun σ' H' => Run X rest D σ' H') σ H1) (hp : PassesOwn (model X.prog X.w) X.A X.env X.xe := by exact PassesOwn.never) (hc : X.calm = true := by rfl)
    (hs : ∀ x, foldedSetIterable iter X.env x = pure x := by intro _; rfl) : Run X (.For tg iter body [] pos :: rest) D σ H := run_for (pi_list pe_ev) h hp hc hs
theorem loop_range {tg : Expr} {lo : Int} {n : Nat} {after : St → Hp → Prop} (Pv : Nat → St → Hp → Prop) (h0 : Pv 0 σ H)
    (hs : ∀ i σ H, i < n → Pv i σ H → Eg X tg (.int (lo + i)) σ H fun σ2 H2 => Run X body { D with nx := Pv (i + 1), ct := Pv (i + 1), bk := after } σ2 H2) (hd : ∀ σ H, Pv n σ H → after σ H) : Loop X tg body (Itr lo n) D after σ H := by
  refine ⟨fun i m σ H => m = n - i ∧ i ≤ n ∧ Pv i σ H, ⟨n, by simp, Nat.zero_le _, h0⟩, ?_⟩
  rintro i m σ H ⟨rfl, hi, p⟩
  by_cases hlt : i < n
  · refine .inr ⟨hlt, Pv (i + 1), fun σ' H' p' => ⟨n - (i + 1), by omega, rfl, hlt, p'⟩, fun x H' y => ?_⟩
    obtain ⟨e, y⟩ := y
    subst e y
    exact hs i σ _ hlt p
  · have e : i = n := by omega
    subst e
    exact .inl ⟨Nat.le_refl _, hd σ H p⟩
theorem loop_tup {tg : Expr} {at_ : Addr} {xs : List V} {after : St → Hp → Prop} (Pv : Nat → St → Hp → Prop) (h0 : Pv 0 σ H) (hl : ∀ i σ H, i ≤ xs.length → Pv i σ H → SqT X.K H at_ xs)
    (hs : ∀ i x σ H, xs[i]? = some x → Pv i σ H → Eg X tg x σ H fun σ2 H2 => Run X body { D with nx := Pv (i + 1), ct := Pv (i + 1), bk := after } σ2 H2) (hd : ∀ σ H, Pv xs.length σ H → after σ H) : Loop X tg body (Itt X.K at_) D after σ H := by
  refine ⟨fun i m σ H => m = xs.length - i ∧ i ≤ xs.length ∧ Pv i σ H, ⟨xs.length, by simp, Nat.zero_le _, h0⟩, ?_⟩
  rintro i m σ H ⟨rfl, hi, p⟩
  have q := hl i σ H hi p
  by_cases hlt : i < xs.length
  · refine .inr ⟨⟨xs, xs[i], q, by simp [hlt]⟩, Pv (i + 1), fun σ' H' p' => ⟨xs.length - (i + 1), by omega, rfl, hlt, p'⟩, fun x H' y => ?_⟩
    obtain ⟨e, y⟩ := y
    subst e
    exact hs i x σ _ (y xs q) p
  · have e : i = xs.length := by omega
    subst e
    exact .inl ⟨⟨xs, q, Nat.le_refl _⟩, hd σ H p⟩
theorem loop_list {tg : Expr} {at_ : Addr} {xs : List V} {after : St → Hp → Prop} (Pv : Nat → St → Hp → Prop) (h0 : Pv 0 σ H) (hl : ∀ i σ H, i ≤ xs.length → Pv i σ H → SqL X.K H at_ xs)
    (hs : ∀ i x σ H, xs[i]? = some x → Pv i σ H → Eg X tg x σ H fun σ2 H2 => Run X body { D with nx := Pv (i + 1), ct := Pv (i + 1), bk := after } σ2 H2) (hd : ∀ σ H, Pv xs.length σ H → after σ H) : Loop X tg body (Itl X.K at_) D after σ H := by
  refine ⟨fun i m σ H => m = xs.length - i ∧ i ≤ xs.length ∧ Pv i σ H, ⟨xs.length, by simp, Nat.zero_le _, h0⟩, ?_⟩
  rintro i m σ H ⟨rfl, hi, p⟩
  have q := hl i σ H hi p
  by_cases hlt : i < xs.length
  · refine .inr ⟨⟨xs, xs[i], q, by simp [hlt]⟩, Pv (i + 1), fun σ' H' p' => ⟨xs.length - (i + 1), by omega, rfl, hlt, p'⟩, fun x H' y => ?_⟩
    obtain ⟨e, y⟩ := y
    subst e
    exact hs i x σ _ (y xs q) p
  · have e : i = xs.length := by omega
    subst e
    exact .inl ⟨⟨xs, q, Nat.le_refl _⟩, hd σ H p⟩
theorem Fun.go {P : Program} {w : World} {K : PySem.W.Frag} {mg : Str → Option Value} {base : Heap} {x qual : Str} {st : Stmt} {f : Addr} {fd : FuncData} {N ps : List Str} {k : Nat} {sp : Sp} (F : Fun K x qual st f fd) (S : FnScope N ps (defScope st)) (len : ∀ vs H Q E, sp vs H Q E → vs.length = ps.length)
    (hbody : ∀ (cdv : Value) (A : Around) (outer : List Env) (s : Shared) (H : Hp) (vs : List V) (Q : VK) (E : XK), Room k (A.deeper (envOfC qual (defScope st) s.heap.objs.size f cdv)) → sp vs H Q E →
      Run (cxOf CX0 P w K mg base N qual (defScope st) f cdv A outer s H E).nox (defBody st) { nx := fun _ H' => Q .non H', rt := Q } (start N vs) H) : FnOk P w K mg base CX0 (k + 1) f fd ps sp :=
  F.ok S len fun cdv A outer s H vs Q E hr hsp => ⟨_, pss_run, hbody cdv A outer s H vs Q E hr hsp⟩
end
end L2
namespace L2
open PySem PySem.Spec PyProof.Rows
structure Ei (X : Cx) (ifs : List Expr) (σ : St) (H : Hp) (Q : Bool → Hp → Prop) : Prop where
  run : ∀ (pins : List (Addr × Obj)) (s : Shared), Inv X pins σ H s →
    wpAny (model X.prog X.w) X.A (forIn ifs true fun c r => if r = true then do let ok ← isTrue c X.env (eval c X.env); pure (ForInStep.yield ok) else pure (ForInStep.yield r)) (TP X pins σ Q) X.xe s
noncomputable def CEv (X : Cx) (N' : List Str) (scope : Scope) (e : Expr) (σ : St) (H : Hp) (Q : VK) : Prop := ∀ cl C s₀ H₀ ex, Ev (cxComp X N' scope cl C s₀ H₀ ex) e σ H Q
noncomputable def CEg (X : Cx) (N' : List Str) (scope : Scope) (e : Expr) (v : V) (σ : St) (H : Hp) (Q : St → Hp → Prop) : Prop := ∀ cl C s₀ H₀ ex, Eg (cxComp X N' scope cl C s₀ H₀ ex) e v σ H Q
noncomputable def CEi (X : Cx) (N' : List Str) (scope : Scope) (ifs : List Expr) (σ : St) (H : Hp) (Q : Bool → Hp → Prop) : Prop := ∀ cl C s₀ H₀ ex, Ei (cxComp X N' scope cl C s₀ H₀ ex) ifs σ H Q
noncomputable def CompL (X : Cx) (N' : List Str) (scope : Scope) (tg : Expr) (ifs : List Expr) (elt : Expr) (J : It) (D : Addr) (after : Hp → Prop) (σ : St) (H : Hp) : Prop :=
  ∃ W : Nat → Nat → St → Hp → Prop, (∃ m, W 0 m σ H) ∧ ∀ i m σ' H', W i m σ' H' →
    (J.stop i H' ∧ after H') ∨ (J.go i H' ∧ ∃ N : St → Hp → Prop, (∀ σ' H', N σ' H' → ∃ m', m' < m ∧ W (i + 1) m' σ' H') ∧ ∀ x H2, J.yld i H' x H2 → CEg X N' scope tg x σ' H2 fun σ2 H3 => CEi X N' scope ifs σ2 H3 fun b H4 =>
      if b = true then CEv X N' scope elt σ2 H4 fun v H5 => ∃ ys, H5 D = some (.lst ys) ∧ ys.length < sizeLine ∧ N σ2 (upd H5 D (.lst (ys ++ [v]))) else N σ2 H4)
theorem cells_app : ∀ (names : List (Str × NameKind)) (n : Nat) (acc : List (Str × Addr)), cellsFrom n names acc = cellsFrom n names [] ++ acc
  | [], _, _ => rfl
  | (y, k) :: r, n, acc => by
    unfold cellsFrom
    split
    · rw [cells_app r (n + 1) ((y, n) :: acc), cells_app r (n + 1) [(y, n)], List.append_assoc]
      rfl
    · exact cells_app r n acc
theorem mem_cells : ∀ (names : List (Str × NameKind)) (n : Nat) {x : Str} {c : Addr}, (x, c) ∈ cellsFrom n names [] → (x, NameKind.cell) ∈ names ∧ n ≤ c
  | [], _, _, _, h => by cases h
  | (y, k) :: r, n, x, c, h => by
    unfold cellsFrom at h
    split at h
    · rename_i hk
      rw [cells_app, List.mem_append] at h
      rcases h with h | h
      · obtain ⟨a, b⟩ := mem_cells r (n + 1) h
        exact ⟨List.mem_cons_of_mem _ a, by omega⟩
      · cases List.mem_singleton.mp h
        have : k = .cell := by cases k <;> first | rfl | exact absurd hk (by decide)
        subst this
        exact ⟨List.mem_cons_self, Nat.le_refl _⟩
    · obtain ⟨a, b⟩ := mem_cells r n h
      exact ⟨List.mem_cons_of_mem _ a, b⟩
theorem cells_split {names : List (Str × NameKind)} {n : Nat} {cl : List (Str × Addr)} {x : Str} {c : Addr} (h : (cellsFrom n names cl).lookup x = some c) : ((x, c) ∈ cellsFrom n names [] ∧ n ≤ c) ∨ cl.lookup x = some c := by
  rw [cells_app, List.lookup_append] at h
  cases e : (cellsFrom n names []).lookup x with
  | some d =>
    rw [e] at h
    cases h
    have hm := PySem.mem_of_lookup e
    exact .inl ⟨hm, (mem_cells _ _ hm).2⟩
  | none =>
    rw [e] at h
    exact .inr h
theorem cells_old {names : List (Str × NameKind)} {n : Nat} {cl : List (Str × Addr)} {x : Str} (h : (x, NameKind.cell) ∉ names) : (cellsFrom n names cl).lookup x = cl.lookup x := by
  rw [cells_app, List.lookup_append]
  cases e : (cellsFrom n names []).lookup x with
  | some d => exact absurd (mem_cells _ _ (PySem.mem_of_lookup e)).1 h
  | none => rfl
section
variable {M : Model} {A : Around} {E : Value → Shared → Prop} {s : Shared}
theorem newEnv_cells {scope : Scope} {globals : Addr} {closure : List (Str × Addr)} {qual : Str} {func : Option Addr} {code : Value} {outer : Env} {builtins : Addr} {Q : Env → Shared → Prop}
    (hQ : ∀ h', h'.Ns s.heap.objs.size (fun _ => none) → (∀ b o, s.heap.get? b = some o → h'.get? b = some o) → CellsOk h' (s.heap.objs.size + 1) (cellsFrom (s.heap.objs.size + 1) scope.names []) →
      Q (newEnv scope s.heap.objs.size globals (cellsFrom (s.heap.objs.size + 1) scope.names closure) qual func code (some outer) builtins) { s with heap := h' }) :
    wpAny M A (newFunctionEnv scope globals closure [] qual func code (some outer) builtins) Q E s := by
  simp only [newFunctionEnv, Option.isSome_some, if_true]
  refine wpAny_bind (wpAny_alloc ?_)
  refine wpAny_bind (wpAny_layCells _ (fun name kind cells => by cases hkc : kind == NameKind.cell <;> simp [hkc]) _ _ _ _ ?_)
  have ok := cellsFrom_ok scope.names (s.heap.push { cls := .type "dict", data := .dict #[] }) (s.heap.objs.size + 1) [] ⟨fun _ _ hm => (nomatch hm), List.Pairwise.nil⟩ (by rw [Heap.size_push]; exact Nat.le_refl _)
  rw [Heap.size_push] at ok
  rw [show ({ s with heap := s.heap.push { cls := .type "dict", data := .dict #[] } } : Shared).heap.objs.size = s.heap.objs.size + 1 from Heap.size_push ..]
  rw [List.forIn_nil]
  exact wpAny_bind (wpAny_pure (wpAny_pure (hQ _ ((Heap.Ns.new s.heap (.type "dict")).keeps (pushCells_keeps _ _)) (fun b o e => pushCells_keeps _ _ b o (Heap.get?_push_of_some _ e)) ok)))
end
noncomputable def compOk (sc scope : Scope) (N N' : List Str) : Bool :=
  (match scope.kind with | .function => true | _ => false) &&
  scope.names.all (fun y => match y.2 with
    | .cell => (match scope.names.lookup y.1 with | some .cell => true | _ => false)
    | .local => (match scope.names.lookup y.1 with | some .local => true | _ => false)
    | .free => (match sc.names.lookup y.1 with | some .cell => true | some .free => true | _ => false) && (match scope.names.lookup y.1 with | some .free => true | _ => false)
    | _ => true) &&
  (List.range N'.length).all fun i => match N'[i]? with
    | none => true
    | some x => match scope.names.lookup x with
      | some .local => decide (N.length ≤ i)
      | some .cell => decide (N.length ≤ i)
      | some .free => decide (N[i]? = some x)
      | _ => true
structure CompOk (sc scope : Scope) (N N' : List Str) : Prop where
  kind : scope.kind = .function
  cell : ∀ y ∈ scope.names, y.2 = .cell → scope.names.lookup y.1 = some .cell
  names : ∀ y ∈ scope.names, y.2 = .local → scope.names.lookup y.1 = some .local
  free : ∀ y ∈ scope.names, y.2 = .free → sc.names.lookup y.1 = some .cell ∨ sc.names.lookup y.1 = some .free
  freeL : ∀ y ∈ scope.names, y.2 = .free → scope.names.lookup y.1 = some .free
  own : ∀ (i : Nat) x, N'[i]? = some x → scope.names.lookup x = some .local → N.length ≤ i
  ownC : ∀ (i : Nat) x, N'[i]? = some x → scope.names.lookup x = some .cell → N.length ≤ i
  out : ∀ (i : Nat) x, N'[i]? = some x → scope.names.lookup x = some .free → N[i]? = some x
theorem CompOk.of {sc scope : Scope} {N N' : List Str} (h : compOk sc scope N N' = true) : CompOk sc scope N N' := by
  unfold compOk at h
  rw [Bool.and_eq_true, Bool.and_eq_true] at h
  obtain ⟨⟨h1, h2⟩, h3⟩ := h
  have h2' := List.all_eq_true.mp h2
  have h3' := List.all_eq_true.mp h3
  refine ⟨?_, fun y hy e => ?_, fun y hy e => ?_, fun y hy e => ?_, fun y hy e => ?_, fun i x hi e => ?_, fun i x hi e => ?_, fun i x hi e => ?_⟩
  · revert h1; cases scope.kind <;> intro h1 <;> first | rfl | cases h1
  · have q := h2' y hy
    rw [e] at q
    simp only at q
    split at q
    · assumption
    · cases q
  · have q := h2' y hy
    rw [e] at q
    simp only at q
    split at q
    · assumption
    · cases q
  · have q := h2' y hy
    rw [e] at q
    simp only at q
    rw [Bool.and_eq_true] at q
    have q := q.1
    split at q
    · exact .inl (by assumption)
    · exact .inr (by assumption)
    · cases q
  · have q := h2' y hy
    rw [e] at q
    simp only at q
    rw [Bool.and_eq_true] at q
    have q := q.2
    split at q
    · assumption
    · cases q
  · have q := h3' i (List.mem_range.mpr (List.getElem?_eq_some_iff.mp hi).1)
    rw [hi] at q
    simp only [e] at q
    exact of_decide_eq_true q
  · have q := h3' i (List.mem_range.mpr (List.getElem?_eq_some_iff.mp hi).1)
    rw [hi] at q
    simp only [e] at q
    exact of_decide_eq_true q
  · have q := h3' i (List.mem_range.mpr (List.getElem?_eq_some_iff.mp hi).1)
    rw [hi] at q
    simp only [e] at q
    exact of_decide_eq_true q
section
variable {X : Cx} {pins : List (Addr × Obj)} {σ : St} {H : Hp} {s : Shared}
theorem inv_comp {N' : List Str} {scope : Scope} {n : Nat} {fp : List Addr} {h₁ : Heap} {t' : Nat} {m : Str → Option Value} (I : Inv X pins σ H s) (ck : CompOk X.env.scope scope X.N N') (hl : N'.length = X.N.length + n)
    (hns : h₁.Ns s.heap.objs.size m) (old : ∀ b o, s.heap.get? b = some o → h₁.get? b = some o) (hcs : CellsOk h₁ (s.heap.objs.size + 1) (cellsFrom (s.heap.objs.size + 1) scope.names []))
    (hfp : ∀ b ∈ fp, FpOk X pins H b ∧ b < s.heap.objs.size) :
    Inv (cxComp X N' scope (cellsFrom (s.heap.objs.size + 1) scope.names (closeL scope.names X.env.cells [])) s.heap.objs.size s H fp) [] (σ ++ List.replicate n none) H { s with heap := h₁, toks := t' } := by
  have sub : ∀ x c, (closeL scope.names X.env.cells []).lookup x = some c → X.env.cells.lookup x = some c := fun x c e => closeL_sub _ _ _ (fun _ _ z => by simp at z) x c (PySem.mem_of_lookup e)
  have both : ∀ x c, (cellsFrom (s.heap.objs.size + 1) scope.names (closeL scope.names X.env.cells [])).lookup x = some c → ((x, c) ∈ cellsFrom (s.heap.objs.size + 1) scope.names [] ∧ s.heap.objs.size + 1 ≤ c) ∨ X.env.cells.lookup x = some c := fun x c e => by
    rcases cells_split e with z | z
    · exact .inl z
    · exact .inr (sub x c z)
  have oldlt : ∀ x c, X.env.cells.lookup x = some c → c < s.heap.objs.size := fun x c e => by
    obtain ⟨v, o, ho, _⟩ := I.cell x c e
    exact Heap.lt_size ho
  have fre : H s.heap.objs.size = none := I.hok.fresh (Nat.le_refl _)
  have kindOf : ∀ {x : Str} {k' : NameKind}, (relabel scope X.env).names.lookup x = some k' → ∃ k, scope.names.lookup x = some k ∧ (k' = k ∨ (k = .free ∧ k' = .cell)) := fun z => lookup_relabel_vis z
  have frl : ∀ x, scope.names.lookup x = some .free → (cellsFrom (s.heap.objs.size + 1) scope.names (closeL scope.names X.env.cells [])).lookup x = (closeL scope.names X.env.cells []).lookup x := fun x e => cells_old fun hm => by
    have := ck.cell _ hm rfl
    rw [e] at this
    cases this
  have hasC : ∀ x, scope.names.lookup x = some .cell → ∃ c, (cellsFrom (s.heap.objs.size + 1) scope.names (closeL scope.names X.env.cells [])).lookup x = some c := fun x e => Option.isSome_iff_exists.mp (PySem.W.cellsFrom_some _ _ _ (.inl e))
  have ok' : (cxComp X N' scope (cellsFrom (s.heap.objs.size + 1) scope.names (closeL scope.names X.env.cells [])) s.heap.objs.size s H fp).Ok := by
    refine ⟨I.ok.mod, ck.kind, I.ok.glob, I.ok.blt, Nat.le_refl _, fun x y c e1 e2 => ?_, fun x hx => ?_, fun x c hf e => ?_, I.ok.hd, I.ok.frames, .inl rfl, fun b hb => ⟨Nat.ne_of_lt (hfp b hb).2, fun x c e => ?_⟩,
      I.bs, Nat.le_trans I.ok.bsz I.sz, fun b o e hb => ?_, fun b hb hf => ?_, I.stack, I.stkFree⟩
    · rcases both x c e1 with z1 | z1
      · rcases both y c e2 with z2 | z2
        · exact name_of_addr hcs.apart z1.1 z2.1
        · exact absurd (oldlt y c z2) (Nat.not_lt.mpr (Nat.le_of_succ_le z1.2))
      · rcases both y c e2 with z2 | z2
        · exact absurd (oldlt x c z1) (Nat.not_lt.mpr (Nat.le_of_succ_le z2.2))
        · exact I.ok.inj x y c z1 z2
    · have hx' : (relabel scope X.env).names.lookup x = some .cell ∨ (relabel scope X.env).names.lookup x = some .free := hx
      have : ∃ k, scope.names.lookup x = some k ∧ (k = .free ∨ k = .cell) := by
        rcases hx' with z | z
        · obtain ⟨k, e, r⟩ := kindOf z
          rcases r with r | ⟨r, _⟩
          · exact ⟨k, e, .inr r.symm⟩
          · exact ⟨k, e, .inl r⟩
        · obtain ⟨k, e, r⟩ := kindOf z
          rcases r with r | ⟨r, _⟩
          · exact ⟨k, e, .inl r.symm⟩
          · exact ⟨k, e, .inl r⟩
      obtain ⟨k, e, rfl | rfl⟩ := this
      · have hm := PySem.mem_of_lookup e
        obtain ⟨c, hc⟩ := I.ok.has x (ck.free _ hm rfl)
        obtain ⟨d, hd⟩ := lookup_of_mem_some (closeL_has scope.names X.env.cells [] x c hm hc)
        exact ⟨d, (frl x e).trans hd⟩
      · exact hasC x e
    · have hx : scope.names.lookup x = some .cell := by
        have hf' : (match scope.names.lookup x with | some .cell => true | _ => false) = true := hf
        split at hf'
        · assumption
        · cases hf'
      have e' : (cellsFrom (s.heap.objs.size + 1) scope.names (closeL scope.names X.env.cells [])).lookup x = some c := e
      have q1 := Option.isSome_iff_exists.mp (PySem.W.cellsFrom_some scope.names (s.heap.objs.size + 1) [] (.inl hx))
      obtain ⟨d, hd⟩ := q1
      rw [cells_app, List.lookup_append, hd] at e'
      have e2 : d = c := Option.some.inj e'
      have := (mem_cells _ _ (PySem.mem_of_lookup hd)).2
      rw [← e2]
      exact Nat.le_of_succ_le this
    · have e' : (cellsFrom (s.heap.objs.size + 1) scope.names (closeL scope.names X.env.cells [])).lookup x = some c := e
      rcases both x c e' with z | z
      · have h1 := (hfp b hb).2
        have h2 := z.2
        exact fun k => absurd h1 (Nat.not_lt.mpr (by rw [← k]; exact Nat.le_of_succ_le h2))
      · exact (hfp b hb).1.2.2.2.2.1 x c z
    · have := (hfp b hb).1.2.2.2.1
      rcases this with z | z
      · exact I.ok.noex b o e z
      · exact absurd (Nat.lt_of_lt_of_le (Heap.lt_size e) (Nat.le_trans I.ok.bsz z)) (Nat.lt_irrefl _)
    · rcases List.mem_cons.mp (I.stkSub b hf) with z | z
      · exact (hfp b hb).1.2.1 z
      · exact (hfp b hb).1.2.2.1 z
  refine ⟨ok', rfl, I.bare, Un.kept old, ⟨m, hns, fun i x v e1 e2 e3 => ?_⟩, fun x c e => ?_, fre, fun x c e => ?_, fun p hp => absurd hp (by simp [cxComp]), I.hok.kept old, ?_⟩
  · have hi : i < σ.length := by
      by_cases hi : i < σ.length
      · exact hi
      · rw [List.getElem?_append_right (by omega), List.getElem?_replicate] at e2
        split at e2 <;> cases e2
    rw [List.getElem?_append_left hi] at e2
    have e1' : N'[i]? = some x := e1
    have vis : ∃ k', (relabel scope X.env).names.lookup x = some k' ∧ (k' = .local ∨ k' = .cell ∨ k' = .free) := by
      rcases e3 with z | z | z
      · exact ⟨_, z, .inl rfl⟩
      · exact ⟨_, z, .inr (.inl rfl)⟩
      · exact ⟨_, z, .inr (.inr rfl)⟩
    obtain ⟨k', ek', hk'⟩ := vis
    obtain ⟨k, ek, r⟩ := kindOf ek'
    have kf : k = .free := by
      rcases r with r | ⟨r, _⟩
      · subst r
        rcases hk' with z | z | z
        · subst z
          have := ck.own i x e1' ek
          rw [I.len] at hi
          omega
        · subst z
          have := ck.ownC i x e1' ek
          rw [I.len] at hi
          omega
        · exact z
      · exact r
    subst kf
    have hm := PySem.mem_of_lookup ek
    have hxN := ck.out i x e1' ek
    obtain ⟨m0, hn0, hl0⟩ := I.loc
    have kx := ck.free _ hm rfl
    obtain ⟨u, ru, lk⟩ := hl0 i x v hxN e2 (by rcases kx with z | z; exact .inr (.inl z); exact .inr (.inr z))
    refine ⟨u, ru, .inr ⟨?_, ?_⟩⟩
    · rcases r with r | ⟨_, r⟩
      · subst r
        exact .inr ek'
      · subst r
        exact .inl ek'
    · rcases lk with ⟨k1, _⟩ | ⟨_, c, hc, hcell⟩
      · have k1' : X.env.scope.names.lookup x = some .local := k1
        rcases kx with z | z
        · rw [k1'] at z; cases z
        · rw [k1'] at z; cases z
      · have hin := closeL_has scope.names X.env.cells [] x c hm hc
        obtain ⟨d, hd⟩ := lookup_of_mem_some hin
        have : d = c := Option.some.inj ((sub x d hd).symm.trans hc)
        subst this
        obtain ⟨o, ho, hdat⟩ := hcell
        exact ⟨d, (frl x ek).trans hd, o, old _ _ ho, hdat⟩
  · have e' : (cellsFrom (s.heap.objs.size + 1) scope.names (closeL scope.names X.env.cells [])).lookup x = some c := e
    rcases both x c e' with z | z
    · exact ⟨none, (hcs.empty x c z.1).1⟩
    · obtain ⟨v, o, ho, hdat⟩ := I.cell x c z
      exact ⟨v, o, old _ _ ho, hdat⟩
  · have e' : (cellsFrom (s.heap.objs.size + 1) scope.names (closeL scope.names X.env.cells [])).lookup x = some c := e
    rcases both x c e' with z | z
    · exact I.hok.fresh (Nat.le_of_succ_le z.2)
    · exact I.freeC x c z
  · rw [List.length_append, List.length_replicate, I.len]
    exact hl.symm
end
structure Clause (e : Expr) (d : Nat) (tg iter : Expr) (ifs : List Expr) (acc : Value) (env : Env) (inner : Sem Unit) : Prop where
  at' : (clausesOf e)[d]? = some ⟨tg, iter, ifs, 0⟩
  quiet : ∀ it, (Code.compLoop e d it acc env).quiet = true
  den : ∀ (prog : Program) (w : World) it, (model prog w).den (.compLoop e d it acc env) = (compTurn e d it acc env).onRaise (fun x => do noteFrame x env; theTreesLotGoes x)
  und : ∀ (A : Around) it, A.under (.compLoop e d it acc env) = A
  denS : ∀ (prog : Program) (w : World) it, (model prog w).den (.compStart e d it acc env) = (compStart e d it acc env).onRaise (fun x => do noteFrame x env; standAt theWindowsPlace)
  undS : ∀ (A : Around) it, A.under (.compStart e d it acc env) = A
  turn : ∀ it, compTurn e d it acc env = (do
      standAt iter.pos
      match ← pyNext it with
      | none => pure (.done .next)
      | some v =>
        letOwnedTupleGo tg it v
        assign tg env v
        let mut ok := true
        for c in ifs do
          if ok then ok ← isTrue c env (eval c env)
        if ok then
          inner
        again (.compLoop e d it acc env))
section
variable {prog : Program} {w : World} {A : Around} {R : Result → Shared → Prop} {s : Shared}
theorem codeAny_compLoop_any {e : Expr} {d : Nat} {tg iter : Expr} {ifs : List Expr} {it acc : Value} {env : Env} {inner : Sem Unit} (C : Clause e d tg iter ifs acc env inner) (I : Nat → Shared → Prop)
    (turn : ∀ n s, I n s → wpAny (model prog w) A (pyNext it) (fun r s₁ => match r with
      | none => R (.ok .next) s₁
      | some v => wpAny (model prog w) A (letOwnedTupleGo tg it v) (fun _ s₁' => wpAny (model prog w) A (assign tg env v) (fun _ s₂ =>
          wpAny (model prog w) A (forIn ifs true fun c r => if r = true then do let ok ← isTrue c env (eval c env); pure (ForInStep.yield ok) else pure (ForInStep.yield r)) (fun ok s₃ =>
            if ok = true then wpAny (model prog w) A inner (fun _ s₄ => ∃ m, m < n ∧ I m s₄) (notedBy (model prog w) A env fun e s' => R (.error e) s') s₃
            else ∃ m, m < n ∧ I m s₃) (notedBy (model prog w) A env fun e s' => R (.error e) s') s₂) (notedBy (model prog w) A env fun e s' => R (.error e) s') s₁') (notedBy (model prog w) A env fun e s' => R (.error e) s') s₁) (notedBy (model prog w) A env fun e s' => R (.error e) s') s)
    (n : Nat) (h : I n s) :
    codeAny (model prog w) A (.compLoop e d it acc env) R s := by
  refine codeAny_loop (C.quiet it) I (fun n s hI => ?_) n h
  rw [C.und, C.den]
  refine wpAny_noted ?_
  rw [C.turn]
  refine wpAny_bind (wpAny_standAt (wpAny_bind (wpAny_mono (turn n s hI) (fun r s₁ h₁ => ?_) fun _ _ h' => h')))
  cases r with
  | none => exact wpAny_pure h₁
  | some v =>
    refine wpAny_bind (wpAny_mono h₁ (fun _ s₁' h₁' => ?_) fun _ _ h' => h')
    refine wpAny_bind (wpAny_mono h₁' (fun _ s₂ h₂ => wpAny_bind (wpAny_mono h₂ (fun ok s₃ h₃ => ?_) fun _ _ h' => h')) fun _ _ h' => h')
    cases ok with
    | false => exact wpAny_pure ⟨rfl, h₃⟩
    | true => exact wpAny_bind (wpAny_mono h₃ (fun _ s₄ h₄ => wpAny_pure ⟨rfl, h₄⟩) fun _ _ h' => h')
theorem codeAny_compStart_any {e : Expr} {d : Nat} {tg iter : Expr} {ifs : List Expr} {it acc : Value} {env : Env} {inner : Sem Unit} (C : Clause e d tg iter ifs acc env inner)
    (h0 : codeAny (model prog w) A (.compLoop e d it acc env) R s)
    (h : wpAny (model prog w) A (pyIter it) (fun it' s' => codeAny (model prog w) A (.compLoop e d it' acc env) R s') (notedBy (model prog w) A env fun x s' => R (.error x) s') s) :
    codeAny (model prog w) A (.compStart e d it acc env) R s := by
  refine codeAny_of_tree ?_
  rw [C.undS, C.denS]
  refine wpAny_notedAt ?_
  unfold compStart
  rw [C.at']
  show wpAny _ _ (ask >>= _) _ _ s
  refine wpAny_bind (wpAny_askSetting (wpAny_ite ?_))
  split
  · first
      | exact wpAny_bind (wpAny_pure (wpAny_pure (And.intro (C.quiet _) h0)))
      | exact wpAny_pure (And.intro (C.quiet _) h0)
  · first
      | exact wpAny_bind (wpAny_rule (wpAny_bind (wpAny_standAt (wpAny_bind (wpAny_mono h (fun it' s' h' => wpAny_pure (And.intro (C.quiet _) h')) fun _ _ x => x)))))
      | (refine wpAny_bind (wpAny_rule ?_); show wpAny _ _ (standAt iter.pos >>= _) _ _ s; exact wpAny_bind (wpAny_standAt (wpAny_bind (wpAny_mono h (fun it' s' h' => wpAny_pure (And.intro (C.quiet _) h')) fun _ _ x => x))))
end
structure Ein (X : Cx) (m : Sem Unit) (σ : St) (H : Hp) (Q : St → Hp → Prop) : Prop where
  run : ∀ (pins : List (Addr × Obj)) (s : Shared), Inv X pins σ H s → wpAny (model X.prog X.w) X.A m (fun _ s' => ∃ σ' H', Inv X pins σ' H' s' ∧ Q σ' H') X.xe s
noncomputable def ClauseL (X : Cx) (tg : Expr) (ifs : List Expr) (inner : Sem Unit) (J : It) (after : St → Hp → Prop) (σ : St) (H : Hp) : Prop :=
  ∃ W : Nat → Nat → St → Hp → Prop, (∃ m, W 0 m σ H) ∧ ∀ i m σ' H', W i m σ' H' →
    (J.stop i H' ∧ after σ' H') ∨ (J.go i H' ∧ ∃ N : St → Hp → Prop, (∀ σ' H', N σ' H' → ∃ m', m' < m ∧ W (i + 1) m' σ' H') ∧ ∀ x H2, J.yld i H' x H2 → Eg X tg x σ' H2 fun σ2 H3 => Ei X ifs σ2 H3 fun b H4 =>
      if b = true then Ein X inner σ2 H4 N else N σ2 H4)
theorem clause_loop {X : Cx} (hxe : X.xe = fun _ _ => False) (hc : X.calm = true) {e : Expr} {d : Nat} {tg iter : Expr} {ifs : List Expr} {acc : Value} {inner : Sem Unit} (C : Clause e d tg iter ifs acc X.env inner) {pins : List (Addr × Obj)} {σ : St} {H : Hp} {s : Shared}
    {it : Addr} {fp : List Addr} {tn : Nat → Heap → Prop} {J : It} {after : St → Hp → Prop} {R : Result → Shared → Prop} (I : Inv X pins σ H s) (T : Turn X.prog X.w X.K tg J fp it tn) (st : tn 0 s.heap) (hf : ∀ b ∈ fp, FpOk X pins H b) (h : ClauseL X tg ifs inner J after σ H)
    (hR : ∀ σ' H' s', Inv X pins σ' H' s' → after σ' H' → R (.ok .next) s') :
    codeAny (model X.prog X.w) X.A (.compStart e d (.ref it) acc X.env) R s := by
  obtain ⟨W, ⟨m0, w0⟩, turn⟩ := h
  have stat : ∀ {H' : Hp}, (∀ b ∈ fp, H' b = none) → ∀ b ∈ fp, FpOk X pins H' b := fun hn b hb => ⟨hn b hb, (hf b hb).2⟩
  have loop : codeAny (model X.prog X.w) X.A (.compLoop e d (.ref it) acc X.env) R s := by
    refine codeAny_compLoop_any C (fun k s' => ∃ i σ' H', Inv X pins σ' H' s' ∧ tn i s'.heap ∧ (∀ b ∈ fp, H' b = none) ∧ W i k σ' H') ?_ m0 ⟨0, σ, H, I, st, fun b hb => (hf b hb).1, w0⟩
    rintro k s4 ⟨i, σ4, H4, J4, st4, fr4, w4⟩
    rcases turn i k σ4 H4 w4 with ⟨stop, qn⟩ | ⟨go, N, hN, step⟩
    · have d1 := T.done X rfl rfl rfl hc i pins s4 σ4 H4 (fun _ _ => False) J4 (stat fr4) st4 stop
      refine thnF d1 fun r s5 ⟨hr, I5⟩ => ?_
      subst hr
      exact hR _ _ _ I5 qn
    · have d1 := T.item X rfl rfl rfl hc i pins s4 σ4 H4 (fun _ _ => False) J4 (stat fr4) st4 go
      refine thnF d1 fun r s5 ⟨u, hr, h5⟩ => ?_
      subst hr
      refine thnF h5 fun _ s6 ⟨x, H6, I6, r6, y6, st6, fr6⟩ => ?_
      have I6' := I6.pinned (stat fr6) (T.obj _ _ st6)
      have again : ∀ {σ7 : St} {H7 : Hp} {s7 : Shared}, Inv X (pins ++ pinsAt fp s6.heap) σ7 H7 s7 → N σ7 H7 → ∃ m, m < k ∧ ∃ i σ' H', Inv X pins σ' H' s7 ∧ tn i s7.heap ∧ (∀ b ∈ fp, H' b = none) ∧ W i m σ' H' := fun {σ7 H7 s7} I7 n7 => by
        obtain ⟨m', hm, w7⟩ := hN σ7 H7 n7
        refine ⟨m', hm, i + 1, σ7, H7, I7.unpinned, T.keep _ _ _ st6 fun b hb o e => (I7.pin (b, o) (List.mem_append_right _ (List.mem_append_right _ (mem_pinsAt hb e)))).1, fun b hb => ?_, w7⟩
        obtain ⟨o, e, d⟩ := T.obj _ _ st6 b hb
        exact (I7.pin (b, o) (List.mem_append_right _ (List.mem_append_right _ (mem_pinsAt hb e)))).2.1
      have a1 := (step x H6 y6).run _ s6 u I6' r6
      rw [hxe] at a1
      refine thnF a1 fun _ s7 ⟨σ7, H7, I7, q7⟩ => ?_
      have a2 := q7.run _ s7 I7
      rw [hxe] at a2
      refine thnF a2 fun ok s8 ⟨H8, I8, q8⟩ => ?_
      cases ok with
      | false =>
        rw [if_neg Bool.false_ne_true] at q8 ⊢
        exact again I8 q8
      | true =>
        rw [if_pos rfl] at q8 ⊢
        have a3 := q8.run _ s8 I8
        rw [hxe] at a3
        exact thnF a3 fun _ s9 ⟨σ9, H9, I9, q9⟩ => again I9 q9
  exact codeAny_compStart_any C loop (T.self _ 0 _ _ _ st loop)
theorem comp_core_any {X : Cx} {e : Expr} {tg iter : Expr} {ifs : List Expr} {scope : Scope} {N' : List Str} {newAcc : Sem Value} {o0 : Obj} {u0 : Addr → HO} {n : Nat} {inner : Value → Env → Sem Unit} {pins : List (Addr × Obj)} {σ : St} {H2 : Hp} {s2 : Shared} {E : Value → Shared → Prop} {RR : Value → Addr → Result → Shared → Prop} {it : Addr} {fp : List Addr} {tn : Nat → Heap → Prop} {J : It} {Q : VK}
    (hnew : ∀ (Q : Value → Shared → Prop) (E : Value → Shared → Prop) (s : Shared), Q (.ref s.heap.objs.size) { s with heap := s.heap.push o0 } → wpAny (model X.prog X.w) X.A newAcc Q E s) (hobj : ∀ (H : Hp) (h : Heap), sysModules < h.objs.size → ObjOk X.prog X.w H (h.push o0) h.objs.size (u0 h.objs.size))
    (hc : X.calm = true) (ck : CompOk X.env.scope scope X.N N') (hl : N'.length = X.N.length + n) (hC : ∀ acc env, Clause e 0 tg iter ifs acc env (inner acc env))
    (I2 : Inv X pins σ H2 s2) (T : Turn X.prog X.w X.K tg J fp it tn) (st2 : tn 0 s2.heap) (f2 : ∀ b ∈ fp, FpOk X pins H2 b)
    (q : ∀ D, H2 D = none → ∀ cl C s₀ H₀ ex, ClauseL (cxComp X N' scope cl C s₀ H₀ ex) tg ifs (inner (.ref D) (compEnvC scope cl C X.env)) J (fun _ H' => Q (.ref D) H') (σ ++ List.replicate n none) (upd H2 D (u0 D)))
    (hRR : ∀ D C H' s' m, Inv X pins σ H' s' → s'.heap.Ns C m → H' C = none → C ≠ X.env.locals → X.s₀.heap.objs.size ≤ C → (∀ x c, X.env.cells.lookup x = some c → c ≠ C) → (∀ p ∈ X.pn ++ pins, p.1 ≠ C) → Q (.ref D) H' → RR (.ref D) C (.ok .next) s') :
    wpAny (model X.prog X.w) X.A newAcc (fun acc s₃ => wpAny (model X.prog X.w) X.A (newFunctionEnv scope X.env.globals (closeL scope.names X.env.cells []) [] X.env.qual none .none (some X.env)) (fun cenv s₄ =>
      codeAny (model X.prog X.w) X.A (.compStart e 0 (.ref it) acc { cenv with scope := relabel scope X.env }) (RR acc cenv.locals) s₄) E s₃) E s2 := by
  refine hnew _ _ _ (newEnv_cells (fun h₁ hns₁ old₁ hcs₁ => ?_))
  have hD : H2 s2.heap.objs.size = none := I2.hok.fresh (Nat.le_refl _)
  have q0 := q s2.heap.objs.size hD
  have fl : ∀ b ∈ fp, b < s2.heap.objs.size := fun b hb => by
    obtain ⟨o, e, _⟩ := T.obj 0 _ st2 b hb
    exact Heap.lt_size e
  have I3 : Inv X pins σ (upd H2 s2.heap.objs.size (u0 s2.heap.objs.size)) { s2 with heap := s2.heap.push o0 } :=
    I2.laid (t' := s2.toks) (fun b o e => Heap.get?_push_of_some _ e) (Nat.le_refl _) (hobj _ _ I2.big)
  generalize hs3 : ({ s2 with heap := s2.heap.push o0 } : Shared) = s3 at I3 hns₁ old₁ hcs₁ ⊢
  have hz3 : s3.heap.objs.size = s2.heap.objs.size + 1 := by rw [← hs3]; exact Heap.size_push ..
  have old2 : ∀ b o, s2.heap.get? b = some o → s3.heap.get? b = some o := fun b o e => by rw [← hs3]; exact Heap.get?_push_of_some _ e
  have old : ∀ b o, s3.heap.get? b = some o → h₁.get? b = some o := old₁
  have f3 : ∀ b ∈ fp, FpOk X pins (upd H2 s2.heap.objs.size (u0 s2.heap.objs.size)) b ∧ b < s3.heap.objs.size := fun b hb => by
    refine ⟨⟨?_, (f2 b hb).2⟩, by rw [hz3]; exact Nat.lt_succ_of_lt (fl b hb)⟩
    rw [upd_ne (Nat.ne_of_lt (fl b hb))]
    exact (f2 b hb).1
  have I4 := fun (t' : Nat) => inv_comp (N' := N') (scope := scope) (n := n) (fp := fp) (h₁ := h₁) (t' := t') I3 ck hl hns₁ old hcs₁ f3
  generalize hX : cxComp X N' scope (cellsFrom (s3.heap.objs.size + 1) scope.names (closeL scope.names X.env.cells [])) s3.heap.objs.size s3 (upd H2 s2.heap.objs.size (u0 s2.heap.objs.size)) fp = X' at I4
  have eP : X'.prog = X.prog := by rw [← hX]; rfl
  have ew : X'.w = X.w := by rw [← hX]; rfl
  have eK : X'.K = X.K := by rw [← hX]; rfl
  have eA : X'.A = X.A := by rw [← hX]; rfl
  have eE : X'.env = compEnvC scope (cellsFrom (s3.heap.objs.size + 1) scope.names (closeL scope.names X.env.cells [])) s3.heap.objs.size X.env := by rw [← hX]; rfl
  have ec : X'.calm = true := by rw [← hX]; exact hc
  have ex' : X'.xe = fun _ _ => False := by rw [← hX]; rfl
  have stat : ∀ {H' : Hp}, (∀ b ∈ fp, H' b = none) → ∀ b ∈ fp, FpOk X' [] H' b := fun hn b hb => by
    refine ⟨hn b hb, ?_, ?_, ?_, ?_, ?_⟩
    · rw [eE]; exact Nat.ne_of_lt (f3 b hb).2
    · rw [← hX]
      intro hf
      rcases List.mem_cons.mp (I3.stkSub b hf) with z | z
      · exact (f3 b hb).1.2.1 z
      · exact (f3 b hb).1.2.2.1 z
    · rw [← hX]; exact .inl hb
    · rw [eE]
      intro x c e
      rcases cells_split e with z | z
      · exact fun k => absurd (f3 b hb).2 (Nat.not_lt.mpr (by rw [← k]; exact Nat.le_of_succ_le z.2))
      · exact (f3 b hb).1.2.2.2.2.1 x c (closeL_sub _ _ _ (fun _ _ z => by simp at z) x c (PySem.mem_of_lookup z))
    · rw [← hX]; intro p hp; exact absurd hp (by simp [cxComp])
  have fin : ∀ {σ' : St} {H' : Hp} {s' : Shared}, Inv X' [] σ' H' s' → Q (.ref s2.heap.objs.size) H' → RR (.ref s2.heap.objs.size) s3.heap.objs.size (.ok .next) s' := fun {σ' H' s'} I' q' => by
    obtain ⟨m', hn', _⟩ := id I'.loc
    rw [eE] at hn'
    have hos : s'.os = s3.os := by have := I'.os; rw [← hX] at this; exact this
    have hun : Un (frs X.stack) fp (upd H2 s2.heap.objs.size (u0 s2.heap.objs.size)) H' s3.heap s'.heap := by have := I'.base; rw [← hX] at this; exact this
    have hok : HOk X.prog X.w H' s'.heap := by have := I'.hok; rw [eP, ew] at this; exact this
    have IX : Inv X pins σ H' s' := I3.call' (ch := fp) hos hun hok I'.bare fun b hb => ⟨(f3 b hb).1.2.2.2.1, (f3 b hb).1.2.1, (f3 b hb).1.2.2.2.2.1, (f3 b hb).1.2.2.2.2.2⟩
    have hfr := I'.free
    rw [eE] at hfr
    refine hRR _ _ H' s' m' IX hn' hfr (Nat.ne_of_gt I3.lt) I3.sz (fun x c e z => ?_) (fun p hp z => ?_) q'
    · obtain ⟨v, o, ho, _⟩ := I3.cell x c e
      exact absurd (Heap.lt_size ho) (by rw [z]; exact Nat.lt_irrefl _)
    · exact absurd (Heap.lt_size (I3.pin p hp).1) (by rw [z]; exact Nat.lt_irrefl _)
  have fs0 : ∀ b ∈ fp, FpOk X' [] (upd H2 s2.heap.objs.size (u0 s2.heap.objs.size)) b := stat fun b hb => (f3 b hb).1.1
  have q1 : ClauseL X' tg ifs (inner (.ref s2.heap.objs.size) X'.env) J (fun _ H' => Q (.ref s2.heap.objs.size) H') (σ ++ List.replicate n none) (upd H2 s2.heap.objs.size (u0 s2.heap.objs.size)) := by
    rw [eE, ← hX]
    exact q0 _ _ _ _ _
  have T' : Turn X'.prog X'.w X'.K tg J fp it tn := by rw [eP, ew, eK]; exact T
  have fin2 := clause_loop (s := { s3 with heap := h₁, toks := s3.toks }) ex' ec (hC (.ref s2.heap.objs.size) X'.env) (I4 s3.toks) T' (T.keep 0 _ _ st2 fun b _ o e => old b o (old2 b o e)) fs0 q1 (R := RR (.ref s2.heap.objs.size) s3.heap.objs.size) fun σ' H' s' I' a' => fin I' a'
  rw [eP, ew, eA, eE] at fin2
  exact fin2
noncomputable def emit (elt : Expr) (acc : Value) (env : Env) : Sem Unit := do let _ ← call (.builtin "list.append") [acc, ← eval elt env]
section
variable {X : Cx} {elt tg iter : Expr} {ifs : List Expr} {scope : Scope} {pos : Pos} {σ : St} {H : Hp} {acc : Value} {env : Env} {N' : List Str} {J : It}
theorem clauseL1 : Clause (.ListComp elt [⟨tg, iter, ifs, 0⟩] scope pos) 0 tg iter ifs acc env (emit elt acc env) := ⟨rfl, fun _ => rfl, fun _ _ _ => rfl, fun _ _ => rfl, fun _ _ _ => rfl, fun _ _ => rfl, fun _ => rfl⟩
theorem ein_emit {D : Addr} {Q : St → Hp → Prop} (h : Ev X elt σ H fun v H1 => ∃ ys, H1 D = some (.lst ys) ∧ ys.length < sizeLine ∧ Q σ (upd H1 D (.lst (ys ++ [v])))) : Ein X (emit elt (.ref D) X.env) σ H Q := by
  refine ⟨fun pins s I => ?_⟩
  unfold emit
  refine wpAny_bind (thn (h.run pins s I) fun v s1 ⟨x, H1, I1, r1, ys, hy, hz, q⟩ => ?_)
  refine wpAny_bind (thn (mt_append (X := X) _ s1 σ H1 (.ref D) [x] (.ref D) [v] (fun _ H' => Q σ H') I1 rfl (.cons r1 .nil) ⟨_, ys, x, rfl, rfl, hy, hz, q⟩) fun _ s2 ⟨_, H2, I2, _, q2⟩ => wpAny_pure ⟨σ, H2, I2, q2⟩)
theorem Eg.mono {v : V} {R R' : St → Hp → Prop} (h : Eg X elt v σ H R) (f : ∀ σ' H', R σ' H' → R' σ' H') : Eg X elt v σ H R' := ⟨fun pins s u I r => thn (h.run pins s u I r) fun _ _ ⟨σ', H', I', q⟩ => ⟨σ', H', I', f _ _ q⟩⟩
theorem Ei.mono {T T' : Bool → Hp → Prop} (h : Ei X ifs σ H T) (f : ∀ b H', T b H' → T' b H') : Ei X ifs σ H T' := ⟨fun pins s I => thn (h.run pins s I) fun _ _ ⟨H', I', q⟩ => ⟨H', I', f _ _ q⟩⟩
theorem comp_cl {D : Addr} {after : Hp → Prop} (h : CompL X N' scope tg ifs elt J D after σ H) (cl : List (Str × Addr)) (C : Addr) (s₀ : Shared) (H₀ : Hp) (ex : List Addr) : ClauseL (cxComp X N' scope cl C s₀ H₀ ex) tg ifs (emit elt (.ref D) (compEnvC scope cl C X.env)) J (fun _ H' => after H') σ H := by
  obtain ⟨W, w0, t⟩ := h
  refine ⟨W, w0, fun i m σ' H' w => (t i m σ' H' w).imp id fun ⟨g, N, hN, st⟩ => ⟨g, N, hN, fun x H2 y => (st x H2 y cl C s₀ H₀ ex).mono fun σ2 H3 h3 => (h3 cl C s₀ H₀ ex).mono fun b H4 h4 => ?_⟩⟩
  cases b with
  | true =>
    rw [if_pos rfl] at h4 ⊢
    exact ein_emit (X := cxComp X N' scope cl C s₀ H₀ ex) (h4 cl C s₀ H₀ ex)
  | false =>
    rw [if_neg Bool.false_ne_true] at h4 ⊢
    exact h4
theorem comp_lst {n : Nat} {pins : List (Addr × Obj)} {H2 : Hp} {s2 : Shared} {E : Value → Shared → Prop} {RR : Value → Addr → Result → Shared → Prop} {it : Addr} {fp : List Addr} {tn : Nat → Heap → Prop} {Q : VK}
    (hc : X.calm = true) (ck : CompOk X.env.scope scope X.N N') (hl : N'.length = X.N.length + n) (I2 : Inv X pins σ H2 s2) (T : Turn X.prog X.w X.K tg J fp it tn) (st2 : tn 0 s2.heap) (f2 : ∀ b ∈ fp, FpOk X pins H2 b)
    (q : ∀ D, H2 D = none → CompL X N' scope tg ifs elt J D (fun H' => Q (.ref D) H') (σ ++ List.replicate n none) (upd H2 D (.lst [])))
    (hRR : ∀ D C H' s' m, Inv X pins σ H' s' → s'.heap.Ns C m → H' C = none → C ≠ X.env.locals → X.s₀.heap.objs.size ≤ C → (∀ x c, X.env.cells.lookup x = some c → c ≠ C) → (∀ p ∈ X.pn ++ pins, p.1 ≠ C) → Q (.ref D) H' → RR (.ref D) C (.ok .next) s') :
    wpAny (model X.prog X.w) X.A (newList []) (fun acc s₃ => wpAny (model X.prog X.w) X.A (newFunctionEnv scope X.env.globals (closeL scope.names X.env.cells []) [] X.env.qual none .none (some X.env)) (fun cenv s₄ =>
      codeAny (model X.prog X.w) X.A (.compStart (.ListComp elt [⟨tg, iter, ifs, 0⟩] scope pos) 0 (.ref it) acc { cenv with scope := relabel scope X.env }) (RR acc cenv.locals) s₄) E s₃) E s2 :=
  comp_core_any (newAcc := newList []) (o0 := { cls := .type "list", dict := none, data := .seq ([] : List Value).toArray }) (u0 := fun _ => .lst []) (fun _ _ _ h => wpAny_newObj_type h (by show (0 : Nat) ≤ sizeLine; exact Nat.zero_le _)) (fun _ _ _ => ⟨Nat.zero_le _, [], 0, .nil, Heap.get?_push_size _ rfl⟩) hc ck hl (fun _ _ => clauseL1) I2 T st2 f2 (fun D hD => comp_cl (q D hD)) hRR
end
section
variable {X : Cx} {elt tg iter c : Expr} {ifs : List Expr} {scope : Scope} {pos p : Pos} {wi : TI} {σ : St} {H : Hp} {Q : VK} {T : Bool → Hp → Prop} {rest : List Stmt} {D : Ends}
theorem ei_nil (h : T true H) : Ei X [] σ H T := ⟨fun pins s I => pif_nil pins s σ H T I h⟩
theorem ei_one (h : Et X c σ H T) : Ei X [c] σ H T := ⟨fun pins s I => pif_one pt_et pins s σ H T I h⟩
theorem ev_comp (sc : Scope) (N N' : List Str) (n : Nat) (hi : PI X tg iter wi)
    (h : wi σ H fun J H1 => ∀ D, H1 D = none → CompL X N' scope tg ifs elt J D (fun H' => Q (.ref D) H') (σ ++ List.replicate n none) (upd H1 D (.lst [])))
    (hc : X.calm = true := by rfl) (hsc : X.env.scope = sc := by rfl) (hN : X.N = N := by rfl) (hk : compOk sc scope N N' = true := by decide +kernel) (hl : N'.length = N.length + n := by rfl)
    (hs : ∀ x, foldedSetIterable iter X.env x = pure x := by intro _; rfl) : Ev X (.ListComp elt [⟨tg, iter, ifs, 0⟩] scope pos) σ H Q := by
  refine ⟨fun pins s I => ?_⟩
  subst hsc hN
  have ck := CompOk.of hk
  rw [eval_ListComp]
  refine wpAny_comprehension_free (use := none) rfl hs (closure_eq fun x hx hf => I.ok.has x.1 (ck.free x hx hf)) ck.kind ck.names (thn (hi pins s σ H _ I h) fun v s1 h1 => thn h1 fun itv s2 h2 => ?_)
  obtain ⟨it, fp, tn, J, H2, e, I2, T, st2, f2, q⟩ := h2
  subst e
  refine comp_lst (RR := fun acc C => compPost (model X.prog X.w) X.A X.xe none (EP X pins σ Q) acc C) hc ck hl I2 T st2 f2 q ?_
  intro D C H' s' m IX hn hC c1 c2 c3 c4 qq
  exact ⟨m, hn, fun h' hs' => ⟨.ref D, H', IX.turned (t' := s'.toks) (fun b o hb e => hs'.extBut b o hb e) hC (Ne.symm (Ne.symm c1)) (.inr c2) c3 c4, rfl, qq⟩⟩
theorem run_setC (i : Nat) {y : Str} {py spos : Pos} (sc : Scope) (N N' : List Str) (n : Nat) (hnd : X.N.Nodup) (hi : PI X tg iter wi)
    (h : wi σ H fun J H1 => ∀ A, H1 A = none → CompL X N' scope tg ifs elt J A (fun H' => Run X rest D (σ.set i (some (.ref A))) H') (σ ++ List.replicate n none) (upd H1 A (.lst [])))
    (hiN : X.N[i]? = some y := by rfl) (hy : Loc X.env.scope y := by first | exact Or.inl rfl | exact Or.inr rfl)
    (hsw : swapsWith (.ListComp elt [⟨tg, iter, ifs, 0⟩] scope pos) (some (.Name y py)) spos.line X.env = pure true := by rfl)
    (hc : X.calm = true := by rfl) (hsc : X.env.scope = sc := by rfl) (hN : X.N = N := by rfl) (hk : compOk sc scope N N' = true := by decide +kernel) (hl : N'.length = N.length + n := by rfl)
    (hs : ∀ x, foldedSetIterable iter X.env x = pure x := by intro _; rfl) (hf : X.fn y = true ∨ X.env.scope.names.lookup y = some .local := by first | exact .inl rfl | exact .inr rfl | assumption) :
    Run X (.Assign [.Name y py] (.ListComp elt [⟨tg, iter, ifs, 0⟩] scope pos) spos :: rest) D σ H := by
  refine run_cons (t := fun D' σ H => wi σ H fun J H1 => ∀ A, H1 A = none → CompL X N' scope tg ifs elt J A (fun H' => D'.nx (σ.set i (some (.ref A))) H') (σ ++ List.replicate n none) (upd H1 A (.lst []))) ?_ h
  intro pins s σ H D I h
  subst hsc hN
  have ck := CompOk.of hk
  rw [exec_Assign_Name_used _ _ _ _ hsw]
  refine wpAny_bind (wpAny_standAt (wpAny_bind ?_))
  show wpAny _ X.A (do let _ ← comprehension (.ListComp elt [⟨tg, iter, ifs, 0⟩] scope pos) scope X.env _ (newList []) false (eval iter X.env) (some (assign (.Name y py) X.env))) _ _ s
  refine wpAny_bind (wpAny_mono (wpAny_comprehension_free (use := some (assign (.Name y py) X.env)) (Q := fun _ s' => SP X pins D .next s') rfl hs (closure_eq fun x hx hf => I.ok.has x.1 (ck.free x hx hf)) ck.kind ck.names
    (thn (hi pins s σ H _ I h) fun v s1 h1 => thn h1 fun itv s2 h2 => ?_)) (fun _ s' hq => wpAny_pure (wpAny_pure hq)) fun _ _ e => e)
  obtain ⟨it, fp, tn, J, H2, e, I2, T, st2, f2, q⟩ := h2
  subst e
  refine comp_lst (Q := fun x H1 => D.nx (σ.set i (some x)) H1) (RR := fun acc C => compPost (model X.prog X.w) X.A X.xe (some (assign (.Name y py) X.env)) (fun _ s' => SP X pins D .next s') acc C) hc ck hl I2 T st2 f2 q ?_
  intro D' C H' s' m IX hn hC c1 c2 c3 c4 qq
  show wpAny _ X.A (assign (.Name y py) X.env (.ref D')) _ _ _
  refine wpAny_assign_Name (store_ok2 IX hnd hiN hy (v := .ref D') rfl (fun s'' I'' hsb => ?_) hf)
  obtain ⟨a, hsb, ha⟩ := hsb
  have hCa : C ≠ a := by
    rcases ha with ha | ha
    · rw [ha]; exact c1
    · exact Ne.symm (c3 _ _ ha)
  refine ⟨m, hn.sameBut hsb hCa, fun h' hs' => ⟨_, H', I''.turned (t' := s''.toks) (fun b o hb e => hs'.extBut b o hb e) hC c1 (.inr c2) c3 c4, qq⟩⟩
end
end L2
namespace L2
open PySem PySem.Spec PyProof.Rows
structure Has (P : Program) (w : World) (K : PySem.W.Frag) (mg : Str → Option Value) (base : Heap) (k : Nat) (x : Str) (ps : List Str) (sp : Sp) : Prop where
  ex : ∃ f fd, FnOk P w K mg base CX0 k f fd ps sp ∧ Binds K fd ps [] ∧ PySem.W.keepIn K (.ref f) = true ∧ mg x = some (.ref f)
theorem Has.mono {P : Program} {w : World} {K : PySem.W.Frag} {mg : Str → Option Value} {base : Heap} {j k : Nat} {x : Str} {ps : List Str} {sp : Sp} (h : Has P w K mg base j x ps sp) (le : j ≤ k) : Has P w K mg base k x ps sp :=
  let ⟨f, fd, F, r⟩ := h.ex; ⟨f, fd, F.mono le, r⟩
theorem ev_has {X : Cx} {k : Nat} {ps : List Str} {sp : Sp} {x : Str} {e : Expr} {es : List Expr} {σ : St} {H : Hp} {Q : VK} {p pos : Pos} (G : Has X.prog X.w X.K X.mg X.base k x ps sp) (hr : Room k X.A)
    (h : Ea X (e :: es) σ H fun vs H1 => sp vs H1 Q E0) (hg : Gl X x := by rfl) (hdb : (x == ("__debug__" : Str)) = false := by decide) (hs : noStar (e :: es) = true := by rfl) : Ev X (.Call (.Name x p) (e :: es) [] pos) σ H Q :=
  let ⟨_, _, F, b, kp, m⟩ := G.ex; ev_call F hr m kp b pass0 h hg hdb hs
theorem _root_.L2.Room.u100 {k : Nat} {A : Around} (hr : Room k A) : A.units + 100 < cLine := by have := hr.un; omega
theorem _root_.L2.Room.u1 {k : Nat} {A : Around} (hr : Room k A) : A.units + 1 < cLine := by have := hr.un; omega
noncomputable def Df (K : PySem.W.Frag) (x : Str) (st : Stmt) : Prop := ∃ (f : Addr) (fd : FuncData), PySem.W.nsIn K mainGlobals x = some (some (.ref f)) ∧ Fun K x x st f fd
theorem df_mk {K : PySem.W.Frag} {x : Str} {st : Stmt} {f : Addr} {oc kV doc pm cdv ct : Value} {od an : Option Addr} {sl : Array (Option Value)} (a : PySem.W.nsIn K mainGlobals x = some (some (.ref f)))
    (l : K.lookup f = some ⟨oc, od, .func (PySem.W.fnOf x x (defArgs st) (defBody st) (defScope st) .none kV doc pm an cdv ct), sl⟩) (c : PySem.W.codeIn K cdv x = true) (k : PySem.W.keepIn K (.ref f) = true) : Df K x st := ⟨f, _, a, fun_mk l c k⟩
structure Bun where
  f : Addr
  cdv : Value
  A : Around
  outer : List Env
  s : Shared
  H : Hp
  E : XK
noncomputable def cxB (N : List Str) (qual : Str) (scope : Scope) (P : Program) (w : World) (K : PySem.W.Frag) (mg : Str → Option Value) (base : Heap) (b : Bun) : Cx := (cxOf CX0 P w K mg base N qual scope b.f b.cdv b.A b.outer b.s b.H b.E).nox
noncomputable def En (Q : VK) : Ends := { nx := fun _ H' => Q .non H', rt := Q }
theorem Fun.gb {P : Program} {w : World} {K : PySem.W.Frag} {mg : Str → Option Value} {base : Heap} {x qual : Str} {st : Stmt} {f : Addr} {fd : FuncData} {N ps : List Str} {k : Nat} {sp : Sp} (F : Fun K x qual st f fd) (S : FnScope N ps (defScope st)) (len : ∀ vs H Q E, sp vs H Q E → vs.length = ps.length)
    (hbody : ∀ (b : Bun) (H : Hp) (vs : List V) (Q : VK) (E : XK), Room k (b.A.deeper (envOfC qual (defScope st) b.s.heap.objs.size b.f b.cdv)) → sp vs H Q E → Run (cxB N qual (defScope st) P w K mg base b) (defBody st) (En Q) (start N vs) H) : FnOk P w K mg base CX0 (k + 1) f fd ps sp :=
  F.go S len fun cdv A outer s H vs Q E hr hsp => hbody ⟨f, cdv, A, outer, s, H, E⟩ H vs Q E hr hsp
theorem len_s {us : List Value} {k : Nat} (h : us.length = k + 1) : ∃ a r, us = a :: r ∧ r.length = k := by
  cases us with
  | nil => cases h
  | cons a r => exact ⟨a, r, rfl, Nat.succ.inj h⟩
theorem bd1 {fd : FuncData} {ps : List Str} (f : ∀ a : Value, bindArgs fd ⟨[a], []⟩ = pure (ps.zip [a])) : ∀ us : List Value, us.length = 1 → bindArgs fd ⟨us, []⟩ = pure (ps.zip us) := fun us h => by
  obtain ⟨a, r0, e0, h0⟩ := len_s h
  have z := List.length_eq_zero_iff.mp h0
  subst z e0
  exact f a
theorem bd2 {fd : FuncData} {ps : List Str} (f : ∀ a b : Value, bindArgs fd ⟨[a, b], []⟩ = pure (ps.zip [a, b])) : ∀ us : List Value, us.length = 2 → bindArgs fd ⟨us, []⟩ = pure (ps.zip us) := fun us h => by
  obtain ⟨a, r0, e0, h0⟩ := len_s h
  obtain ⟨b, r1, e1, h1⟩ := len_s h0
  have z := List.length_eq_zero_iff.mp h1
  subst z e1 e0
  exact f a b
theorem bd3 {fd : FuncData} {ps : List Str} (f : ∀ a b c : Value, bindArgs fd ⟨[a, b, c], []⟩ = pure (ps.zip [a, b, c])) : ∀ us : List Value, us.length = 3 → bindArgs fd ⟨us, []⟩ = pure (ps.zip us) := fun us h => by
  obtain ⟨a, r0, e0, h0⟩ := len_s h
  obtain ⟨b, r1, e1, h1⟩ := len_s h0
  obtain ⟨c, r2, e2, h2⟩ := len_s h1
  have z := List.length_eq_zero_iff.mp h2
  subst z e2 e1 e0
  exact f a b c
theorem bd4 {fd : FuncData} {ps : List Str} (f : ∀ a b c d : Value, bindArgs fd ⟨[a, b, c, d], []⟩ = pure (ps.zip [a, b, c, d])) : ∀ us : List Value, us.length = 4 → bindArgs fd ⟨us, []⟩ = pure (ps.zip us) := fun us h => by
  obtain ⟨a, r0, e0, h0⟩ := len_s h
  obtain ⟨b, r1, e1, h1⟩ := len_s h0
  obtain ⟨c, r2, e2, h2⟩ := len_s h1
  obtain ⟨d, r3, e3, h3⟩ := len_s h2
  have z := List.length_eq_zero_iff.mp h3
  subst z e3 e2 e1 e0
  exact f a b c d
theorem Df.has {P : Program} {w : World} {K : PySem.W.Frag} {mg : Str → Option Value} {h base : Heap} {k : Nat} {x : Str} {st : Stmt} {ps : List Str} {sp : Sp} (d : Df K x st) (X : K.In h) (G : h.Ns mainGlobals mg)
    (hb : ∀ (kV doc pm : Value) (an : Option Addr) (cdv ct : Value) (us : List Value), us.length = ps.length → bindArgs (PySem.W.fnOf x x (defArgs st) (defBody st) (defScope st) .none kV doc pm an cdv ct) ⟨us, []⟩ = pure (ps.zip us))
    (ok : ∀ {f : Addr} {fd : FuncData}, Fun K x x st f fd → FnOk P w K mg base CX0 k f fd ps sp) : Has P w K mg base k x ps sp :=
  let ⟨f, fd, a, F⟩ := d; ⟨f, fd, ok F, F.binds hb, F.kp, PySem.W.mg_of X G a⟩
theorem Df.law {P : Program} {w : World} {K : PySem.W.Frag} {mg : Str → Option Value} {h : Heap} {k : Nat} {x y : Str} {st : Stmt} {sp : Sp} {fa : Addr} (d : Df K x st) (X : K.In h) (G : h.Ns mainGlobals mg) (hfa : mg x = some (.ref fa))
    (hb : ∀ (kV doc pm : Value) (an : Option Addr) (cdv ct : Value) (s : Shared) (v : Value), BindsTo s (PySem.W.fnOf x x (defArgs st) (defBody st) (defScope st) .none kV doc pm an cdv ct) ⟨[v], []⟩ [(y, v)])
    (ok : ∀ (base : Heap) {f : Addr} {fd : FuncData}, Fun K x x st f fd → FnOk P w K mg base CX0 k f fd [y] sp) :
    ∃ fd : FuncData, (∀ (s : Shared) (v : Value), BindsTo s fd ⟨[v], []⟩ [(y, v)]) ∧ ∀ base : Heap, K.In base → base.Ns mainGlobals mg → FnOk P w K mg base CX0 k fa fd [y] sp := by
  obtain ⟨f, fd, a, F⟩ := d
  have e := hfa.symm.trans (PySem.W.mg_of X G a)
  cases e
  obtain ⟨oc, od, kV, doc, pm, an, cdv, ct, osl, rfl, lk, hcd⟩ := id F.ex
  exact ⟨_, hb kV doc pm an cdv ct, fun base _ _ => ok base F⟩
end L2
namespace SetT
open PySem
end SetT
namespace SetT
open PySem
section
variable (prog : Program) (w : World)
end
section
variable {prog : Program} {w : World} {es : Array (Int × Value)} {t : SetTable} {zs : List Str} {h h' : Heap} {a : Addr}
end
section
variable {prog : Program} {w : World} {A : Around} {E : Value → Shared → Prop} {s : Shared} {a : Addr} {zs : List Str}
theorem sz_ok {n : Nat} (h : n < 1001) : n ≤ sizeLine := by rw [sizeLine_eq]; omega
noncomputable def added (zs : List Str) (z : Str) : List Str := if z ∈ zs then zs else zs ++ [z]
theorem pick_perm {α : Type} : ∀ (l : List α) (j : Nat) (hj : j < l.length), (l[j] :: l.eraseIdx j).Perm l
  | [], _, h => by simp at h
  | x :: r, 0, _ => List.Perm.refl _
  | x :: r, j + 1, h => (List.Perm.swap x _ _).trans ((pick_perm r j (Nat.lt_of_succ_lt_succ h)).cons x)
end
end SetT
namespace SetT
open PySem
section
variable {prog : Program} {w : World} {A : Around} {E : Value → Shared → Prop} {s : Shared} {a : Addr} {zs : List Str}
variable {o : Obj} {es : Array (Int × Value)} {ep : Nat} {t : SetTable}
end
end SetT
namespace SetT
open PySem
open Builtin.Frozenset
section
variable {prog : Program} {w : World} {A : Around} {E : Value → Shared → Prop} {s : Shared} {a : Addr} {zs : List Str}
variable {o : Obj} {ep : Nat} {t : SetTable}
end
end SetT
namespace SetT
open PySem
open Builtin.Frozenset
section
variable {prog : Program} {w : World} {A : Around} {E : Value → Shared → Prop} {s : Shared} {a r : Addr} {za zr : List Str}
end
end SetT
namespace SetT
open PySem
open Builtin.Frozenset
section
variable {prog : Program} {w : World} {A : Around} {E : Value → Shared → Prop} {s : Shared}
variable {R : Result → Shared → Prop} {I : Addr} {fp wr : List Addr} {G : Array GenState → Array GenState → Prop} {n : Nat} {P : Nat → Value → Prop} {St : Nat → Shared → Prop}
end
end SetT
namespace SetT
open PySem
open Builtin.Frozenset
section
variable {prog : Program} {w : World} {A : Around} {E : Value → Shared → Prop} {s : Shared} {a tp it : Addr} {zs : List Str} {o : Obj} {es : Array (Int × Value)} {ep : Nat} {t : SetTable} {ws : List (Int × Value)} {i : Nat} {first : Value}
end
end SetT
namespace SetT
open PySem PySem.Spec
open Builtin.Frozenset
section
variable {prog : Program} {w : World} {A : Around} {E : Value → Shared → Prop} {s : Shared} {a tp it : Addr} {zs : List Str} {o : Obj} {es : Array (Int × Value)} {ep : Nat} {t : SetTable} {ws : List (Int × Value)} {i : Nat} {first : Value}
end
end SetT
namespace SetT
open PySem PySem.Spec PyProof.Rows
theorem lt_dec (a b : List Nat) : ltCps a b = decide (a < b) := ltCps_eq a b
theorem rising_all : ∀ (l : List Str) (p : Str), risingS p l = true → ∀ x ∈ l, p.cps.toList ≤ x.cps.toList
  | [], _, _, x, hx => by cases hx
  | y :: r, p, h, x, hx => by
    unfold risingS at h
    rw [Bool.and_eq_true, Bool.not_eq_true', lt_dec, decide_eq_false_iff_not] at h
    have h1 : p.cps.toList ≤ y.cps.toList := h.1
    rcases List.mem_cons.mp hx with rfl | hx
    · exact h1
    · exact List.le_trans h1 (rising_all r y h.2 x hx)
theorem rising_sorted {p : Str} : ∀ {l : List Str}, risingS p l = true → sortedS l = true
  | [], _ => rfl
  | y :: r, h => by
    unfold risingS at h
    rw [Bool.and_eq_true] at h
    exact h.2
theorem str_ext {a b : Str} (h : a.cps.toList = b.cps.toList) : a = b := by
  cases a; cases b
  simp only at h
  have := Array.toList_inj.mp h
  rw [this]
section
variable {prog : Program} {w : World} {A : Around} {E : Value → Shared → Prop} {s : Shared} {a : Addr} {zs : List Str}
end
end SetT
namespace L2
open PySem PySem.Spec PyProof.Rows SetT
section
variable {X : Cx} {pins : List (Addr × Obj)} {σ : St} {H : Hp} {s s' : Shared} {a : Addr} {zs : List Str}
theorem Inv.like (I : Inv X pins σ H s) (e1 : s'.heap = s.heap) (e2 : s'.gens = s.gens) (e3 : s'.os = s.os) : Inv X pins σ H s' := by
  obtain ⟨h, g, d, t, o⟩ := s
  obtain ⟨h', g', d', t', o'⟩ := s'
  simp only at e1 e2 e3
  subst e1 e2 e3
  exact ⟨I.ok, I.os, I.bare, I.base, I.loc, I.cell, I.free, I.freeC, I.pin, I.hok, I.len⟩
theorem Inv.laid' {o : HO} (I : Inv X pins σ H s) (k : ∀ b u, s.heap.get? b = some u → s'.heap.get? b = some u) (e2 : s'.gens = s.gens) (e3 : s'.os = s.os) (hp : s.heap.objs.size ≤ a) (new : ObjOk X.prog X.w (upd H a o) s'.heap a o) : Inv X pins σ (upd H a o) s' :=
  (I.laid (t' := s.toks) k hp new).like (s' := s') rfl e2 e3
theorem strs_of_vals : ∀ {zs : List Str} {us : List Value}, Vals (zs.map V.str) us → StrsAre us zs
  | [], _, .nil => .nil
  | z :: r, _, .cons q qs => by
    obtain ⟨t, rfl⟩ := q
    exact .cons z t (strs_of_vals qs)
theorem vals_of_strs : ∀ {us : List Value} {zs : List Str}, StrsAre us zs → Vals (zs.map V.str) us
  | _, _, .nil => .nil
  | _, _, .cons z t q => .cons ⟨t, rfl⟩ (vals_of_strs q)
theorem call_sorted_strs : CallR X (.builtin "sorted") (fun xs H Q => ∃ p zs, xs = [.ref p] ∧ SqL X.K H p (zs.map V.str) ∧ zs.length < 64 ∧ ∀ l ss, H l = none → ss.Perm zs → sortedS ss = true → Q (.ref l) (upd H l (.lst (ss.map V.str)))) := by
  intro pins s σ H xs us Q I r h
  obtain ⟨p, zs, rfl, hp, hl, q⟩ := h
  obtain ⟨u, rfl, ru⟩ := vals1 r
  cases (show u = Value.ref p from ru)
  obtain ⟨its, rv, pl, hz⟩ := I.list hp
  have e1 := rv.length
  rw [List.length_map] at e1
  refine PyProof.Rows.sorted_strs pl.isList (strs_of_vals rv) (by omega) fun out ss hS hpm hso => ?_
  obtain ⟨e, he⟩ := sortedAll_at s.heap its out
  have hlen : ss.length ≤ sizeLine := by rw [hpm.length_eq]; exact sz_ok (by omega)
  refine ⟨.ref _, _, I.laid' (s' := { s with heap := sortedAll s.heap its out }) (fun b u hb => sortedAll_old hb) rfl rfl (Nat.le_succ _) (show ObjOk X.prog X.w _ _ _ (.lst (ss.map V.str)) from ⟨by rw [List.length_map]; exact hlen, out.toList, e, vals_of_strs hS, he⟩), rfl, q _ ss (I.hok.fresh (Nat.le_succ _)) hpm hso⟩
end
end L2
namespace L2
open PySem PySem.Spec PyProof.Rows
section
variable {X : Cx} {o e : Expr} {σ : St} {H : Hp} {Q : VK} {ap cp : Pos}
theorem ev_append (h : Ev X o σ H fun x H1 => ∃ l, x = .ref l ∧ (∃ xs, H1 l = some (.lst xs)) ∧ Ev X e σ H1 fun y H2 => ∃ xs, H2 l = some (.lst xs) ∧ xs.length < sizeLine ∧ Q .non (upd H2 l (.lst (xs ++ [y]))))
    (hbase : attributeBase o "append" X.env (eval o X.env) = eval o X.env := by rfl)
    (hfew : ((backTo cp (starEach [e] X.env)).all (fun x => !x.1) && (backToKw cp (keywordEach [] X.env)).all (fun x => x.1.isSome) && decide ([e].length + ([] : List Keyword).length + (if ([] : List Keyword).isEmpty then 0 else 1) < 30)) = true := by rfl)
    (hline : (ap.endLine == cp.line) = true := by rfl) (hs : starEach [e] X.env = (false, eval e X.env) :: starEach [] X.env := by rfl) (hplain : (backTo cp (starEach [] X.env)).any (·.1) = false := by rfl) (hst : isStar e = false := by rfl) :
    Ev X (.Call (.Attribute o "append" ap) [e] [] cp) σ H Q := by
  refine ev_of (pe_bm PySem.F.plainAttrs_list PySem.F.slot_list_append PySem.F.type_list_append mt_append pe_ev (pa_ea (es := [e])) hbase hfew hline hs hplain) (h.mono fun x H1 ⟨l, ex, ⟨xs, hl⟩, h2⟩ => ?_)
  subst ex
  refine ⟨.inl ⟨rfl, xs, SqL.of hl⟩, ?_⟩
  exact ea_cons (h2.mono fun y H2 ⟨ys, hy, hz, q⟩ => ea_nil ⟨l, ys, y, rfl, rfl, hy, hz, q⟩) hst
end
section
variable {X : Cx} {c : Expr} {body els rest : List Stmt} {D : Ends} {σ : St} {H : Hp} {pos : Pos}
theorem Run.nx {M M' : St → Hp → Prop} {l : List Stmt} (h : Run X l { D with nx := M } σ H) (f : ∀ σ' H', M σ' H' → M' σ' H') : Run X l { D with nx := M' } σ H :=
  ⟨fun pins s I => thn (h.run pins s I) fun fl s' q => by
    cases fl with
    | next =>
      obtain ⟨σ', H', I', m⟩ := q
      exact ⟨σ', H', I', f σ' H' m⟩
    | _ => exact q⟩
theorem run_ifM (φ ψ : Prop) (M : St → Hp → Prop) (hc : ∀ T : Bool → Hp → Prop, (∀ k : Bool, (k = true → φ) → (k = false → ψ) → T k H) → Et X c σ H T) (ht : φ → Run X body { D with nx := M } σ H) (hu : ψ → Run X els { D with nx := M } σ H)
    (hr : ∀ σ' H', M σ' H' → Run X rest D σ' H') : Run X (.If c body els pos :: rest) D σ H :=
  run_ifJ φ ψ hc (fun p => (ht p).nx hr) (fun p => (hu p).nx hr)
end
noncomputable def EqD (X : Cx) (H : Hp) (k : Nat) (x y : V) (b : Bool) : Prop := ∀ (pins : List (Addr × Obj)) (σ : St) (s : Shared) (A : Around) (u v : Value), Inv X pins σ H s → A.units + k < cLine → RelV x u → RelV y v → SeqAt.EqAt A s u v b
noncomputable def RcD (X : Cx) (H : Hp) (k : Nat) (x y : V) (b : Bool) : Prop := ∀ (pins : List (Addr × Obj)) (σ : St) (s : Shared) (A : Around) (u v : Value), Inv X pins σ H s → A.units + k < cLine → RelV x u → RelV y v → SeqAt.RcAt A s u v b
noncomputable def RnD (X : Cx) (H : Hp) (k : Nat) (x y : V) (b : Bool) : Prop := ∀ (pins : List (Addr × Obj)) (σ : St) (s : Shared) (A : Around) (u v : Value), Inv X pins σ H s → A.units + k < cLine → RelV x u → RelV y v → SeqAt.RcNeAt A s u v (!b)
section
variable {X : Cx} {H : Hp} {k : Nat} {a b : Addr} {xs ys : List V}
theorem eqD_flat {x y : V} (fx : flatV x = true) (fy : flatV y = true) : EqD X H k x y (eqV x y) := fun _ _ _ _ _ _ _ _ rx ry => eqAt_V rx ry fx fy
theorem vals_at {us : List Value} (r : Vals xs us) {j : Nat} (h : j < us.length) : ∃ x, xs[j]? = some x ∧ RelV x us[j] := by
  have hl := r.length
  have hj : j < xs.length := by omega
  obtain ⟨u, e, q⟩ := r.get (List.getElem?_eq_getElem hj)
  rw [List.getElem?_eq_getElem h] at e
  cases e
  exact ⟨_, List.getElem?_eq_getElem hj, q⟩
theorem rcD_list (e : Nat → Bool) (ha : SqL X.K H a xs) (hb : SqL X.K H b ys) (hl : xs.length = ys.length) (he : ∀ j x y, xs[j]? = some x → ys[j]? = some y → EqD X H k x y (e j)) : RcD X H (k + 1) (.ref a) (.ref b) ((List.range xs.length).all e) := fun pins σ s A u v I hu rx ry => by
  cases rx
  cases ry
  obtain ⟨i1, r1, p1, _⟩ := I.list ha
  obtain ⟨i2, r2, p2, _⟩ := I.list hb
  have l1 := r1.length
  have l2 := r2.length
  have q := SeqAt.RcAt.lists (A := A) (e := e) p1.isList p2.isList (by simp; omega) (by omega) fun j h1 h2 => by
    obtain ⟨x, ex, qx⟩ := vals_at r1 (j := j) (by simpa using h1)
    obtain ⟨y, ey, qy⟩ := vals_at r2 (j := j) (by simpa using h2)
    exact he j x y ex ey pins σ s A.in1 _ _ I (by show A.units + 1 + k < cLine; omega) (by simpa using qx) (by simpa using qy)
  rw [List.size_toArray, ← l1] at q
  exact q
theorem rnD_list (e : Nat → Bool) (ha : SqL X.K H a xs) (hb : SqL X.K H b ys) (hl : xs.length = ys.length) (he : ∀ j x y, xs[j]? = some x → ys[j]? = some y → EqD X H k x y (e j)) : RnD X H (k + 1) (.ref a) (.ref b) ((List.range xs.length).all e) := fun pins σ s A u v I hu rx ry => by
  cases rx
  cases ry
  obtain ⟨i1, r1, p1, _⟩ := I.list ha
  obtain ⟨i2, r2, p2, _⟩ := I.list hb
  have l1 := r1.length
  have l2 := r2.length
  have q := SeqAt.RcNeAt.lists (A := A) (e := e) p1.isList p2.isList (by simp; omega) (by omega) fun j h1 h2 => by
    obtain ⟨x, ex, qx⟩ := vals_at r1 (j := j) (by simpa using h1)
    obtain ⟨y, ey, qy⟩ := vals_at r2 (j := j) (by simpa using h2)
    exact he j x y ex ey pins σ s A.in1 _ _ I (by show A.units + 1 + k < cLine; omega) (by simpa using qx) (by simpa using qy)
  rw [List.size_toArray, ← l1] at q
  exact q
theorem rcD_lens (ha : SqL X.K H a xs) (hb : SqL X.K H b ys) (hl : xs.length ≠ ys.length) : RcD X H k (.ref a) (.ref b) false := fun pins σ s A u v I hu rx ry => by
  cases rx
  cases ry
  obtain ⟨i1, r1, p1, _⟩ := I.list ha
  obtain ⟨i2, r2, p2, _⟩ := I.list hb
  have l1 := r1.length
  have l2 := r2.length
  exact SeqAt.RcAt.lists_lengths p1.isList p2.isList (by simp; omega) (by omega)
theorem rnD_lens (ha : SqL X.K H a xs) (hb : SqL X.K H b ys) (hl : xs.length ≠ ys.length) : RnD X H k (.ref a) (.ref b) false := fun pins σ s A u v I hu rx ry => by
  cases rx
  cases ry
  obtain ⟨i1, r1, p1, _⟩ := I.list ha
  obtain ⟨i2, r2, p2, _⟩ := I.list hb
  have l1 := r1.length
  have l2 := r2.length
  exact SeqAt.RcNeAt.lists_lengths p1.isList p2.isList (by simp; omega) (by omega)
theorem rcD_tup (e : Nat → Bool) (ha : SqT X.K H a xs) (hb : SqT X.K H b ys) (hl : xs.length = ys.length) (he : ∀ j x y, xs[j]? = some x → ys[j]? = some y → EqD X H k x y (e j)) : RcD X H (k + 1) (.ref a) (.ref b) ((List.range xs.length).all e) := fun pins σ s A u v I hu rx ry => by
  cases rx
  cases ry
  obtain ⟨i1, r1, p1, _⟩ := I.tuple ha
  obtain ⟨i2, r2, p2, _⟩ := I.tuple hb
  have l1 := r1.length
  have l2 := r2.length
  have q := SeqAt.RcAt.tuples (A := A) (e := e) p1 p2 (by omega) fun j h1 h2 => by
    obtain ⟨x, ex, qx⟩ := vals_at r1 (j := j) (by simpa using h1)
    obtain ⟨y, ey, qy⟩ := vals_at r2 (j := j) (by simpa using h2)
    exact he j x y ex ey pins σ s A.in1 _ _ I (by show A.units + 1 + k < cLine; omega) (by simpa using qx) (by simpa using qy)
  rw [List.size_toArray, List.size_toArray, ← l1, ← l2, hl, Nat.min_self, ← hl] at q
  simpa using q
theorem op_eqD (hu : X.A.units + 100 < cLine) : OpR X (compareOp .Eq) (fun x y H Q => ∃ k c, k ≤ 100 ∧ RcD X H k x y c ∧ Q (.bl c) H) := by
  intro pins s σ H x y v u Q I rx ry h
  obtain ⟨k, c, hk, hc, q⟩ := h
  exact hc pins σ s X.A v u I (by omega) rx ry X.prog X.w X.xe _ ⟨.bl c, H, I, rfl, q⟩
theorem op_neD (hu : X.A.units + 100 < cLine) : OpR X (compareOp .NotEq) (fun x y H Q => ∃ k c, k ≤ 100 ∧ RnD X H k x y c ∧ Q (.bl (!c)) H) := by
  intro pins s σ H x y v u Q I rx ry h
  obtain ⟨k, c, hk, hc, q⟩ := h
  exact hc pins σ s X.A v u I (by omega) rx ry X.prog X.w X.xe _ ⟨.bl (!c), H, I, rfl, q⟩
end
end L2
namespace L2
open PySem PySem.Spec PyProof.Rows
section
variable {X : Cx} {H : Hp} {k : Nat} {a b : Addr} {xs ys : List V}
theorem rnD_tup (e : Nat → Bool) (ha : SqT X.K H a xs) (hb : SqT X.K H b ys) (hl : xs.length = ys.length) (he : ∀ j x y, xs[j]? = some x → ys[j]? = some y → EqD X H k x y (e j)) : RnD X H (k + 1) (.ref a) (.ref b) ((List.range xs.length).all e) := fun pins σ s A u v I hu rx ry => by
  cases rx
  cases ry
  obtain ⟨i1, r1, p1, _⟩ := I.tuple ha
  obtain ⟨i2, r2, p2, _⟩ := I.tuple hb
  have l1 := r1.length
  have l2 := r2.length
  have q := SeqAt.RcNeAt.tuples (A := A) (e := e) p1 p2 (by omega) fun j h1 h2 => by
    obtain ⟨x, ex, qx⟩ := vals_at r1 (j := j) (by simpa using h1)
    obtain ⟨y, ey, qy⟩ := vals_at r2 (j := j) (by simpa using h2)
    exact he j x y ex ey pins σ s A.in1 _ _ I (by show A.units + 1 + k < cLine; omega) (by simpa using qx) (by simpa using qy)
  rw [List.size_toArray, List.size_toArray, ← l1, ← l2, hl, Nat.min_self, ← hl] at q
  simpa using q
end
section
variable {X : Cx} {o e f c : Expr} {σ : St} {H : Hp} {Q : VK} {T : Bool → Hp → Prop} {ap cp pos : Pos} {body rest : List Stmt} {D : Ends}
theorem ev_m0 {name : Str} {Ty id : String} {r : V → List V → Hp → VK → Prop} (pa : PlainAttrs Ty) (slot : Slot Ty name id) (hty : typeOf (.builtin id) = pure (.type "method_descriptor")) (hm : MtR X id r)
    (h : Ev X o σ H fun x H1 => tyV X.K Ty x H1 ∧ r x [] H1 Q) (hbase : attributeBase o name X.env (eval o X.env) = eval o X.env := by rfl) (hline : (ap.endLine == cp.line) = true := by rfl) : Ev X (.Call (.Attribute o name ap) [] [] cp) σ H Q :=
  ev_of (pe_bm0 pa slot hty hm pe_ev hbase hline) h
theorem ev_m1 {name : Str} {Ty id : String} {r : V → List V → Hp → VK → Prop} (pa : PlainAttrs Ty) (slot : Slot Ty name id) (hty : typeOf (.builtin id) = pure (.type "method_descriptor")) (hm : MtR X id r)
    (h : Ev X o σ H fun x H1 => tyV X.K Ty x H1 ∧ Ev X e σ H1 fun y H2 => r x [y] H2 Q) (hbase : attributeBase o name X.env (eval o X.env) = eval o X.env := by rfl)
    (hfew : ((backTo cp (starEach [e] X.env)).all (fun x => !x.1) && (backToKw cp (keywordEach [] X.env)).all (fun x => x.1.isSome) && decide ([e].length + ([] : List Keyword).length + (if ([] : List Keyword).isEmpty then 0 else 1) < 30)) = true := by rfl)
    (hline : (ap.endLine == cp.line) = true := by rfl) (hs : starEach [e] X.env = (false, eval e X.env) :: starEach [] X.env := by rfl) (hplain : (backTo cp (starEach [] X.env)).any (·.1) = false := by rfl) (hst : isStar e = false := by rfl) : Ev X (.Call (.Attribute o name ap) [e] [] cp) σ H Q :=
  ev_of (pe_bm pa slot hty hm pe_ev (pa_ea (es := [e])) hbase hfew hline hs hplain) (h.mono fun x H1 ⟨t, h2⟩ => ⟨t, ea_cons (h2.mono fun y H2 q => ea_nil q) hst⟩)
theorem ev_m2 {name : Str} {Ty id : String} {r : V → List V → Hp → VK → Prop} (pa : PlainAttrs Ty) (slot : Slot Ty name id) (hty : typeOf (.builtin id) = pure (.type "method_descriptor")) (hm : MtR X id r)
    (h : Ev X o σ H fun x H1 => tyV X.K Ty x H1 ∧ Ev X e σ H1 fun y H2 => Ev X f σ H2 fun z H3 => r x [y, z] H3 Q) (hbase : attributeBase o name X.env (eval o X.env) = eval o X.env := by rfl)
    (hfew : ((backTo cp (starEach [e, f] X.env)).all (fun x => !x.1) && (backToKw cp (keywordEach [] X.env)).all (fun x => x.1.isSome) && decide ([e, f].length + ([] : List Keyword).length + (if ([] : List Keyword).isEmpty then 0 else 1) < 30)) = true := by rfl)
    (hline : (ap.endLine == cp.line) = true := by rfl) (hs : starEach [e, f] X.env = (false, eval e X.env) :: starEach [f] X.env := by rfl) (hplain : (backTo cp (starEach [f] X.env)).any (·.1) = false := by rfl) (hst : isStar e = false := by rfl) (hsf : isStar f = false := by rfl) : Ev X (.Call (.Attribute o name ap) [e, f] [] cp) σ H Q :=
  ev_of (pe_bm pa slot hty hm pe_ev (pa_ea (es := [e, f])) hbase hfew hline hs hplain) (h.mono fun x H1 ⟨t, h2⟩ => ⟨t, ea_cons (h2.mono fun y H2 h3 => ea_cons (h3.mono fun z H3 q => ea_nil q) hsf) hst⟩)
noncomputable def insertAt (xs : List V) (i : Nat) (y : V) : List V := xs.take i ++ y :: xs.drop i
noncomputable def rInsert : V → List V → Hp → VK → Prop := fun x vs H Q => ∃ l xs i y, x = .ref l ∧ vs = [.int i, y] ∧ H l = some (.lst xs) ∧ 0 ≤ i ∧ i.toNat ≤ xs.length ∧ xs.length < sizeLine ∧ Q .non (upd H l (.lst (insertAt xs i.toNat y)))
theorem fits_ix {i : Int} (h0 : 0 ≤ i) (h : i ≤ 16777216) : ¬ (!Builtin.List.listFitsIndex i) = true := by
  have e : Builtin.List.listFitsIndex i = true := by
    unfold Builtin.List.listFitsIndex
    rw [Bool.and_eq_true, decide_eq_true_eq, decide_eq_true_eq]
    omega
  rw [e]
  exact Bool.false_ne_true
theorem mt_insert : MtM X "list.insert" rInsert := by
  intro pins s σ H x vs v us Q I rx rv h
  obtain ⟨l, xs, i, y, rfl, rfl, hH, h0, hi, hz, q⟩ := h
  cases rx
  obtain ⟨u, w', rfl, ru, rw'⟩ := rv.two
  obtain ⟨tk, rfl⟩ := ru
  obtain ⟨z, its, n, r, hl, e⟩ := I.lstM hH
  have hs : sizeLine = 16777216 := sizeLine_eq
  have z2 : its.toArray.size ≤ sizeLine := by rw [List.size_toArray, ← hl]; exact z
  have mm := AutoSeq1.list_insert_list_int_val_1 l its.toArray n i tk w' (fits_ix h0 (by omega)) z2
  refine call_meets F.slot_list_insert ⟨_, e, rfl⟩ F.entry_list_insert (F.args_list_insert_3 _ _ _) mm ⟨e, ?_⟩
  have ef : (fun xs : Array Value => have k := if i < 0 then (i + (xs.size : Int)).toNat else min i.toNat xs.size; (xs.extract 0 k).push w' ++ xs.extract k) its.toArray = (its.take i.toNat ++ w' :: its.drop i.toNat).toArray := by
    have hn : ¬ i < 0 := by omega
    have hm : min i.toNat its.length = i.toNat := by omega
    simp only [hn, if_false, List.size_toArray, hm]
    apply Array.ext'
    simp
    exact List.take_of_length_le (by simp)
  refine ⟨.non, _, I.lset (its' := its.take i.toNat ++ w' :: its.drop i.toNat) hH e ef ((r.take i.toNat).append (.cons rw' (r.drop i.toNat))) ?_, rfl, q⟩
  rw [List.length_append, List.length_cons, List.length_take, List.length_drop]
  omega
noncomputable def rSetDef : V → List V → Hp → VK → Prop := fun x vs H Q => ∃ a kvs k y, x = .ref a ∧ vs = [kV k, y] ∧ H a = some (.dK kvs) ∧ kvs.length < sizeLine ∧
  ((∃ v, valV kvs k = some v ∧ Q v H) ∨ (valV kvs k = none ∧ Q y (upd H a (.dK (putK kvs k y)))))
theorem mt_setdef : MtM X "dict.setdefault" rSetDef := by
  intro pins s σ H x vs v us Q I rx rv h
  obtain ⟨a, kvs, k, y, rfl, rfl, hH, hz, q⟩ := h
  cases rx
  obtain ⟨u, w', rfl, ru, rw'⟩ := rv.two
  obtain ⟨z, hd, rs, rel, dd⟩ := dk_of I.hok hH
  have hl := rel.length
  refine call_meetsIn F.slot_dict_setdefault dd.typeIs F.entry_dict_setdefault (F.args_dict_setdefault_3 _ _ _) (kt_meets_setdefault (mixKind X.prog X.w) a (kV_is ru) hd w') ⟨rs, dd, by omega, fun v hv => ?_, fun hn h' dd' hs => ?_⟩
  · have rv2 := rel.val k
    rw [hv] at rv2
    rcases q with ⟨v', e', q⟩ | ⟨e', _⟩
    · rw [e'] at rv2
      exact ⟨v', H, I.tok _, rv2, q⟩
    · rw [e'] at rv2
      exact rv2.elim
  · have rv2 := rel.val k
    rw [hn] at rv2
    rcases q with ⟨v', e', _⟩ | ⟨e', q⟩
    · rw [e'] at rv2
      exact rv2.elim
    · have he : ∃ q, h'.get? a = some q := let ⟨q, _, _, hq, _⟩ := dd'; ⟨q, hq⟩
      have hl2 : (putK kvs k y).length ≤ sizeLine := by have := length_putK kvs k y; omega
      exact ⟨y, _, d_write I (by rw [hH]; exact True.intro) hs he (dk_new hl2 hd (rel.put k rw') dd'), rw', q⟩
theorem call_intB : CallR X (.type "int") (fun xs H Q => ∃ b : Bool, xs = [.bl b] ∧ Q (.int (if b then 1 else 0)) H) := by
  intro pins s σ H xs us Q I r h
  obtain ⟨b, rfl, q⟩ := h
  obtain ⟨u, rfl, ru⟩ := vals1 r
  cases (show u = Value.bool b from ru)
  exact call_int_bool ⟨.int (if b then 1 else 0), H, I.tok _, ⟨_, rfl⟩, q⟩
theorem run_ifH {els : List Stmt} (Φ : Bool → Hp → Prop) (M : St → Hp → Prop) (hc : Et X c σ H Φ) (ht : ∀ H1, Φ true H1 → Run X body { D with nx := M } σ H1) (hu : ∀ H1, Φ false H1 → Run X els { D with nx := M } σ H1)
    (hr : ∀ σ' H', M σ' H' → Run X rest D σ' H') : Run X (.If c body els pos :: rest) D σ H :=
  run_if (hc.mono fun k H1 p => by
    cases k with
    | true => rw [if_pos rfl]; exact (ht H1 p).nx hr
    | false => rw [if_neg Bool.false_ne_true]; exact (hu H1 p).nx hr)
theorem run_while (W : Nat → St → Hp → Prop) {m0 : Nat} (h0 : W m0 σ H)
    (turn : ∀ m σ H, W m σ H → Et X c σ H fun b H1 => if b = true then Run X body { D with nx := fun σ' H' => ∃ m', m' < m ∧ W m' σ' H', ct := fun σ' H' => ∃ m', m' < m ∧ W m' σ' H', bk := fun σ' H' => Run X rest D σ' H' } σ H1 else Run X rest D σ H1)
    (hp : PassesOwn (model X.prog X.w) X.A X.env X.xe := by exact PassesOwn.never) : Run X (.While c body [] pos :: rest) D σ H := by
  refine run_cons (ps_while hp pt_et pss_run) ⟨W, ⟨m0, h0⟩, fun m σ1 H1 w1 => (turn m σ1 H1 w1).mono fun b H2 q => ?_⟩
  cases b with
  | true =>
    rw [if_pos rfl] at q
    exact ⟨fun σ' H' => ∃ m', m' < m ∧ W m' σ' H', fun _ _ h => h, q⟩
  | false =>
    rw [if_neg Bool.false_ne_true] at q
    exact q
theorem ev_dnewK (h : ∀ p, H p = none → Q (.ref p) (upd H p (.dK []))) : Ev X (.Dict [] [] pos) σ H Q := ev_of pe_dnewK h
theorem ev_dget (hu : X.A.units + 1 < cLine) (h : Ev X o σ H fun x H1 => Ev X e σ H1 fun y H2 => ∃ a v, x = .ref a ∧ DGet H2 a y (some v) ∧ Q v H2) (hs : NoSl e := by intro _ _; rfl) : Ev X (.Subscript o e pos) σ H Q := ev_of (pe_dget hu pe_ev pe_ev hs) h
theorem et_din (hu : X.A.units + 1 < cLine) (h : Ev X e σ H fun y H1 => Ev X o σ H1 fun x H2 => ∃ a r, x = .ref a ∧ DGet H2 a y r ∧ T r.isSome H2) (hm : behindInMarks .In o = false := by with_unfolding_all rfl) : Et X (.Compare e [.In] [o] pos) σ H T :=
  et_of (pt_cmp (pc_din hu pe_ev pe_ev) hm) (h.mono fun y H1 h2 => h2.mono fun x H2 ⟨a, r, h3, h4, h5⟩ => ⟨a, r, h3, h4, _, rfl, h5⟩)
theorem et_dnotin (hu : X.A.units + 1 < cLine) (h : Ev X e σ H fun y H1 => Ev X o σ H1 fun x H2 => ∃ a r, x = .ref a ∧ DGet H2 a y r ∧ T (!r.isSome) H2) (hm : behindInMarks .NotIn o = false := by with_unfolding_all rfl) : Et X (.Compare e [.NotIn] [o] pos) σ H T :=
  et_of (pt_cmp (pc_dnotin hu pe_ev pe_ev) hm) (h.mono fun y H1 h2 => h2.mono fun x H2 ⟨a, r, h3, h4, h5⟩ => ⟨a, r, h3, h4, _, rfl, h5⟩)
theorem run_dput {p2 : Pos} (hu : X.A.units + 1 < cLine) (h : Ev X f σ H fun v H1 => Ev X o σ H1 fun x H2 => Ev X e σ H2 fun y H3 => ∃ a H4, x = .ref a ∧ DPut H3 a y v H4 ∧ Run X rest D σ H4) (hs : swapsWith f (some (.Subscript o e p2)) pos.line X.env = pure false := by rfl) :
    Run X (.Assign [.Subscript o e p2] f pos :: rest) D σ H := run_cons (ps_dput hu pe_ev pe_ev pe_ev hs) h
end
end L2
namespace Sort2
open PySem PySem.Spec PyProof.Rows
noncomputable def lexLt (a b : Int × Int) : Bool := if a.1 = b.1 then decide (a.2 < b.2) else decide (a.1 < b.1)
theorem keyLt_tuples (b : Bool) (x y : Value) : keyLt' (tuples' b) x y = (do
    let xs ← Builtin.List.listItems x
    let ys ← Builtin.List.listItems y
    for ((p, q), i) in (xs.toList.zip ys.toList).zipIdx do
      if !(← eqBool p q) then return ← oneLt' (b && i == 0) p q
    return xs.size < ys.size) := rfl
section
variable {prog : Program} {w : World} {A : Around} {E : Value → Shared → Prop} {s : Shared}
noncomputable def Pr (h : Heap) (a : Addr) (p : Int × Int) : Prop := ∃ o n t u, h.get? a = some o ∧ o.cls = .type "tuple" ∧ o.data = .seq #[.int p.1 t, .int p.2 u] n
theorem wp_eqInt {a b : Int} {t u : Tok} {Q : Bool → Shared → Prop} (h : Q (decide (a = b)) s) : wpAny (model prog w) A (eqBool (.int a t) (.int b u)) Q E s := by
  refine SeqAt.EqAt.int_int a t b u prog w E Q ?_
  have e : (a == b) = decide (a = b) := rfl
  rw [e]
  exact h
theorem wp_lt0 {a b : Int} {t u : Tok} {Q : Bool → Shared → Prop} (h : Q (decide (a < b)) s) : wpAny (model prog w) A (oneLt' false (.int a t) (.int b u)) Q E s := by
  rw [oneLt'_eq]
  simp only [Bool.false_eq_true, if_false]
  refine wpAny_bind ?_
  show wpAny _ _ (compareOp .Lt (.int a t) (.int b u)) _ _ _
  exact lt_int (wpAny_truthy_bool h)
theorem wp_keyLt {x y : Addr} {p q : Int × Int} {Q : Bool → Shared → Prop} (hx : Pr s.heap x p) (hy : Pr s.heap y q) (h : Q (lexLt p q) s) : wpAny (model prog w) A (keyLt' (tuples' true) (.ref x) (.ref y)) Q E s := by
  obtain ⟨ox, nx, tx, ux, hox, cx, dx⟩ := hx
  obtain ⟨oy, ny, ty, uy, hoy, cy, dy⟩ := hy
  rw [keyLt_tuples]
  refine wpAny_bind (listItems_at hox dx ?_)
  refine wpAny_bind (listItems_at hoy dy ?_)
  show wpAny _ _ (forIn [((Value.int p.1 tx, Value.int q.1 ty), 0), ((Value.int p.2 ux, Value.int q.2 uy), 1)] _ _ >>= _) _ _ _
  rw [List.forIn_cons]
  refine wpAny_bind (wpAny_bind ?_)
  dsimp only
  refine wpAny_bind (wp_eqInt ?_)
  by_cases c : p.1 = q.1
  · rw [decide_eq_true c]
    simp only [Bool.not_true, Bool.false_eq_true, if_false]
    refine wpAny_pure ?_
    dsimp only
    rw [List.forIn_cons]
    refine wpAny_bind ?_
    dsimp only
    refine wpAny_bind (wp_eqInt ?_)
    by_cases c2 : p.2 = q.2
    · rw [decide_eq_true c2]
      simp only [Bool.not_true, Bool.false_eq_true, if_false]
      refine wpAny_pure ?_
      dsimp only
      rw [List.forIn_nil]
      refine wpAny_pure (wpAny_pure ?_)
      have e : lexLt p q = false := by unfold lexLt; rw [if_pos c, c2]; simp
      rw [e] at h
      simpa using h
    · rw [decide_eq_false c2]
      simp only [Bool.not_false, if_true]
      refine wpAny_bind (wp_lt0 (wpAny_pure ?_))
      dsimp only
      refine wpAny_pure (wpAny_pure ?_)
      have e : lexLt p q = decide (p.2 < q.2) := by unfold lexLt; rw [if_pos c]
      rw [e] at h
      exact h
  · rw [decide_eq_false c]
    simp only [Bool.not_false, if_true]
    refine wpAny_bind (oneLt_int (wpAny_pure ?_))
    dsimp only
    refine wpAny_pure (wpAny_pure ?_)
    have e : lexLt p q = decide (p.1 < q.1) := by unfold lexLt; rw [if_neg c]
    rw [e] at h
    exact h
theorem sz2 {x y : Value} : (#[x, y] : Array Value).size ≤ sizeLine + 1 := by
  rw [sizeLine_eq]
  show 2 ≤ _
  decide
theorem first_eq (v : Value) : firstOfTuple' v = (do
    if (← typeOf v) != .type "tuple" then return none
    return (← Builtin.List.listItems v)[0]?) := rfl
theorem wp_first {x : Addr} {p : Int × Int} {Q : Option Value → Shared → Prop} (hx : Pr s.heap x p) (h : ∀ t, Q (some (.int p.1 t)) s) : wpAny (model prog w) A (firstOfTuple' (.ref x)) Q E s := by
  obtain ⟨ox, nx, tx, ux, hox, cx, dx⟩ := hx
  rw [first_eq]
  refine wpAny_bind (wpAny_typeOf (T := "tuple") ⟨ox, hox, cx⟩ ?_)
  rw [show (Value.type "tuple" != Value.type "tuple") = false by decide]
  simp only [Bool.false_eq_true, if_false]
  refine wpAny_bind (listItems_at hox dx ?_)
  exact wpAny_pure (h tx)
theorem wp_kind {x y : Addr} {p q : Int × Int} {Q : SortKind → Shared → Prop} (hx : Pr s.heap x p) (hy : Pr s.heap y q) (h : Q (tuples' true) s) : wpAny (model prog w) A (keyKind' #[.ref x, .ref y]) Q E s := by
  rw [keyKind'_eq, show (#[.ref x, .ref y] : Array Value) = [.ref x, .ref y].toArray from rfl, List.mapM_toArray]
  refine wpAny_bind (wpAny_map ?_)
  rw [List.mapM_cons]
  refine wpAny_bind (wp_first hx fun t => ?_)
  rw [List.mapM_cons]
  refine wpAny_bind (wpAny_bind (wp_first hy fun u => ?_))
  rw [List.mapM_nil]
  refine wpAny_bind (wpAny_pure (wpAny_pure (wpAny_pure ?_)))
  rw [if_pos (by simp)]
  refine wpAny_bind (wpAny_rule ?_)
  rw [oneTypeOnly'_eq]
  show wpAny _ _ ((Array.mapM typeOf [Value.int p.1 t, Value.int q.1 u].toArray >>= _) >>= _) _ _ _
  rw [List.mapM_toArray]
  have e1 : [Value.int p.1 t, Value.int q.1 u].mapM typeOf = (pure [Value.type "int", Value.type "int"] : Sem _) := rfl
  rw [e1]
  refine wpAny_pure ?_
  have e2 : (if ((#[Value.type "int", Value.type "int"] : Array Value).all fun x => x == (#[Value.type "int", Value.type "int"] : Array Value)[0]) = true then some (#[Value.type "int", Value.type "int"] : Array Value)[0] else none) = some (Value.type "int") := by
    rw [if_pos]
    · rfl
    · simp
  show Q (tuples' (Option.any (fun x => x != Value.type "tuple") _)) s
  rw [e2]
  exact h
theorem wp_at {st : SortSt} {x y : Addr} {p q : Int × Int} {i j : Nat} {Q : Option Bool → SortSt → Prop} (hk : kindOf st = tuples' true) (hi : (arrOf st)[i]? = some (.ref x, .ref x)) (hj : (arrOf st)[j]? = some (.ref y, .ref y)) (hx : Pr s.heap x p) (hy : Pr s.heap y q) (h : Q (some (lexLt p q)) st) :
    wpS (model prog w) A E s (ltAt' i j) Q st := by
  rw [ltAt'_eq]
  refine wpS_bind (wpS_get ?_)
  show wpS _ _ _ _ (elem' (arrOf st) i >>= fun a => elem' (arrOf st) j >>= fun b => lt' a b) Q st
  rw [elem'_eq, elem'_eq, hi, hj]
  refine wpS_bind (wpS_pure (wpS_bind (wpS_pure ?_)))
  rw [lt'_eq]
  refine wpS_bind (wpS_get ?_)
  rw [hk]
  refine wpS_bind (wpS_lift (wpAny_attempt (wp_keyLt hx hy ⟨rfl, ?_⟩)))
  exact wpS_pure h
noncomputable def sorted2 (x y : Addr) (p q : Int × Int) : Array Keyed := if lexLt q p then #[(.ref y, .ref y), (.ref x, .ref x)] else #[(.ref x, .ref x), (.ref y, .ref y)]
theorem wp_count {x y : Addr} {p q : Int × Int} {Q : Option Nat → SortSt → Prop} (hx : Pr s.heap x p) (hy : Pr s.heap y q)
    (h : Q (some 2) (SortSt.mk' (tuples' true) (sorted2 x y p q) #[] 7 none)) : wpS (model prog w) A E s (countRun' 0 2) Q (SortSt.mk' (tuples' true) #[(.ref x, .ref x), (.ref y, .ref y)] #[] 7 none) := by
  rw [countRun0_eq]
  refine wpS_bind ?_
  unfold ascLoop
  refine wpS_mono (wpS_forRange (I := fun i c st => st = SortSt.mk' (tuples' true) #[(.ref x, .ref x), (.ref y, .ref y)] #[] 7 none ∧ c = (none, i) ∧ (i = 2 → lexLt q p = false))
    (Q := fun c st => st = SortSt.mk' (tuples' true) #[(.ref x, .ref x), (.ref y, .ref y)] #[] 7 none ∧ ((c = (none, 1) ∧ lexLt q p = true) ∨ (c = (none, 2) ∧ lexLt q p = false))) ?_ ?_ ⟨rfl, rfl, fun h => by cases h⟩) ?_
  · rintro i c st h1 h2 ⟨rfl, rfl, hI⟩
    have e : i = 1 := by omega
    subst e
    refine wpS_bind (wp_at rfl rfl rfl hy hx ?_)
    dsimp only
    cases hb : lexLt q p with
    | true =>
      rw [if_pos rfl]
      exact wpS_pure ⟨rfl, .inl ⟨rfl, rfl⟩⟩
    | false =>
      rw [if_neg Bool.false_ne_true]
      exact wpS_pure ⟨rfl, rfl, fun _ => rfl⟩
  · rintro c st ⟨rfl, rfl, hI⟩
    exact ⟨rfl, .inr ⟨rfl, hI rfl⟩⟩
  · rintro c st ⟨rfl, ⟨rfl, hb⟩ | ⟨rfl, hb⟩⟩
    · dsimp only
      rw [if_neg (by decide), if_neg (by decide)]
      unfold descPart
      refine wpS_bind (wpS_lift (wpAny_rule ⟨rfl, ?_⟩))
      unfold descLoop
      refine wpS_bind (wpS_mono (wpS_forRange (I := fun i c st => c = (none, 2, 0) ∧ st = SortSt.mk' (tuples' true) #[(.ref x, .ref x), (.ref y, .ref y)] #[] 7 none) (Q := fun c st => c = (none, 2, 0) ∧ st = SortSt.mk' (tuples' true) #[(.ref x, .ref x), (.ref y, .ref y)] #[] 7 none) (fun i c st h1 h2 _ => by omega) (fun c st h => h) ⟨rfl, rfl⟩) ?_)
      rintro c st ⟨rfl, rfl⟩
      dsimp only
      rw [if_neg (by decide)]
      unfold tail3
      refine wpS_bind (wpS_reverse ?_)
      unfold ascLoop
      refine wpS_bind (wpS_mono (wpS_forRange (I := fun i c st => c = (none, 2) ∧ st = SortSt.mk' (tuples' true) #[(.ref y, .ref y), (.ref x, .ref x)] #[] 7 none) (Q := fun c st => c = (none, 2) ∧ st = SortSt.mk' (tuples' true) #[(.ref y, .ref y), (.ref x, .ref x)] #[] 7 none) (fun i c st h1 h2 _ => by omega) (fun c st h => h) ⟨rfl, rfl⟩) ?_)
      rintro c st ⟨rfl, rfl⟩
      dsimp only
      refine wpS_pure ?_
      unfold sorted2 at h
      rw [if_pos hb] at h
      exact h
    · dsimp only
      rw [if_pos (by decide)]
      refine wpS_pure ?_
      unfold sorted2 at h
      rw [if_neg (by rw [hb]; exact Bool.false_ne_true)] at h
      exact h
theorem wp_runs {x y : Addr} {p q : Int × Int} {Q : Unit → SortSt → Prop} (hx : Pr s.heap x p) (hy : Pr s.heap y q) (h : ∀ st, arrOf st = sorted2 x y p q → failedOf st = none → Q () st) :
    wpS (model prog w) A E s sortRuns' Q (SortSt.mk' (tuples' true) #[(.ref x, .ref x), (.ref y, .ref y)] #[] 7 none) := by
  rw [sortRuns'_eq]
  refine wpS_bind (wpS_get ?_)
  dsimp only
  have hmr : minRun' 2 2 0 = 2 := by rw [minRun'_succ, if_pos (by decide)]
  show wpS _ _ _ _ ((forIn [0:2] _ _) >>= _) _ _
  have sz : (#[(Value.ref x, Value.ref x), (Value.ref y, Value.ref y)] : Array Keyed).size = 2 := rfl
  refine wpS_bind (wpS_mono (wpS_forRange (I := fun i c st => (i = 0 ∧ c = (none, 0) ∧ st = SortSt.mk' (tuples' true) #[(.ref x, .ref x), (.ref y, .ref y)] #[] 7 none) ∨ (1 ≤ i ∧ c = (none, 2) ∧ st = SortSt.mk' (tuples' true) (sorted2 x y p q) #[(0, 2, 0)] 7 none))
    (Q := fun c st => c = (none, 2) ∧ st = SortSt.mk' (tuples' true) (sorted2 x y p q) #[(0, 2, 0)] 7 none) ?_ ?_ (.inl ⟨rfl, rfl, rfl⟩)) ?_)
  · rintro i c st h1 h2 (⟨rfl, rfl, rfl⟩ | ⟨hi, rfl, rfl⟩)
    · dsimp only
      rw [if_neg (by show ¬ (0 ≥ 2); decide)]
      refine wpS_bind ?_
      show wpS _ _ _ _ (countRun' 0 2) _ _
      refine wp_count hx hy ?_
      dsimp only
      rw [if_neg (by show ¬ (2 < minRun' 2 2 0); rw [hmr]; decide)]
      refine wpS_bind (wpS_get ?_)
      show wpS _ _ _ _ (modify _ >>= _) _ _
      exact wpS_bind (wpS_modify (wpS_pure (.inr ⟨Nat.le_refl _, rfl, rfl⟩)))
    · dsimp only
      rw [if_pos (by show 2 ≥ 2; decide)]
      exact wpS_pure ⟨rfl, rfl⟩
  · rintro c st (⟨h1, _, _⟩ | ⟨_, hc, hs⟩)
    · exact absurd h1 (by decide)
    · exact ⟨hc, hs⟩
  · rintro c st ⟨rfl, rfl⟩
    dsimp only
    refine wpS_bind (wpS_mono (wpS_forRange (I := fun _ c st => st = SortSt.mk' (tuples' true) (sorted2 x y p q) #[(0, 2, 0)] 7 none ∧ c = (none, ())) (Q := fun c st => st = SortSt.mk' (tuples' true) (sorted2 x y p q) #[(0, 2, 0)] 7 none ∧ c = (none, ())) ?_ (fun _ _ hh => hh) ⟨rfl, rfl⟩) ?_)
    · rintro i c st _ _ ⟨rfl, rfl⟩
      refine wpS_bind (wpS_get ?_)
      rw [if_pos (by show 1 ≤ 1; decide)]
      exact wpS_pure ⟨rfl, rfl⟩
    · rintro c st ⟨rfl, rfl⟩
      exact wpS_pure (h _ rfl rfl)
theorem wp_sort2 {a x y : Addr} {p q : Int × Int} {n : Nat} {P : Fin → Shared → Prop} (ho : s.heap.get? a = some (seqObj "list" #[.ref x, .ref y] n)) (hax : a ≠ x) (hay : a ≠ y) (hx : Pr s.heap x p) (hy : Pr s.heap y q)
    (h : P (.done (.ret .none)) { s with heap := sortedHeap s.heap a [.ref x, .ref y] (if lexLt p q then #[.ref y, .ref x] else #[.ref x, .ref y]) }) :
    wpAny (model prog w) A (Builtin.«list.sort» ⟨[.ref a], [(Str.ofString "reverse", .bool true)]⟩) P E s := by
  rw [list_sort_rev]
  have ha : a < s.heap.objs.size := Heap.lt_size ho
  refine wpAny_bind (listItems_at ho rfl ?_)
  refine wpAny_bind (listUpdate_at ho rfl ?_)
  obtain ⟨e1, ho1⟩ : ∃ e1, (s.heap.update a (Obj.mapSeq fun _ => #[])).get? a = some (seqObj "list" #[] e1) := ⟨_, get?_update_seq ho (fun _ => #[])⟩
  refine wpAny_bind (seqEpoch_at ho1 rfl ?_)
  refine wpAny_bind (wpAny_newTuple ?_)
  refine wpAny_bind (wpAny_newList ?_)
  refine wpAny_holding ?_
  have ho6 : (((s.heap.update a (Obj.mapSeq fun _ => #[])).push (seqObj "tuple" [Value.ref x, Value.ref y].toArray 0)).push (seqObj "list" #[] 0)).get? a = some (seqObj "list" #[] e1) :=
    Heap.get?_push_of_some _ (Heap.get?_push_of_some _ ho1)
  show wpAny (model prog w) A _ P E { s with heap := ((s.heap.update a (Obj.mapSeq fun _ => #[])).push (seqObj "tuple" [Value.ref x, Value.ref y].toArray 0)).push (seqObj "list" #[] 0) }
  have keep : ∀ z r, a ≠ z → Pr s.heap z r → Pr (((s.heap.update a (Obj.mapSeq fun _ => #[])).push (seqObj "tuple" [Value.ref x, Value.ref y].toArray 0)).push (seqObj "list" #[] 0)) z r := by
    rintro z r hz ⟨o, m, t, u, q1, q2⟩
    exact ⟨o, m, t, u, Heap.get?_push_of_some _ (Heap.get?_push_of_some _ ((Heap.get?_update_other _ _ hz).trans q1)), q2⟩
  have kx := keep x p hax hx
  have ky := keep y q hay hy
  dsimp only
  rw [if_pos rfl]
  refine wpAny_bind (wpAny_rule ?_)
  rw [if_neg (by show ¬ (2 < 2); decide)]
  refine wpAny_bind (wp_kind kx ky ?_)
  rw [if_neg (by show ¬ (2 < 2); decide)]
  have e2 : (if true = true then ((#[Value.ref x, Value.ref y] : Array Value).zip #[Value.ref x, Value.ref y]).reverse else (#[Value.ref x, Value.ref y] : Array Value).zip #[Value.ref x, Value.ref y]) = #[(Value.ref y, Value.ref y), (Value.ref x, Value.ref x)] := by
    rw [if_pos rfl]
    simp
  rw [e2]
  refine wpAny_bind (wpAny_mono (wp_runs (Q := fun _ st => arrOf st = sorted2 y x q p ∧ failedOf st = none) ky kx fun st h1 h2 => ⟨h1, h2⟩) ?_ fun _ _ e => e)
  rintro ⟨⟨⟩, st'⟩ s' ⟨rfl, hs, hf⟩
  dsimp only
  have e3 : (if true = true then ((arrOf st').map (·.2)).reverse else (arrOf st').map (·.2)) = (if lexLt p q then #[.ref y, .ref x] else #[.ref x, .ref y]) := by
    rw [if_pos rfl, hs]
    unfold sorted2
    split <;> simp
  refine wpAny_bind (seqEpoch_at ho6 rfl ?_)
  refine wpAny_bind (listUpdate_at ho6 rfl ?_ (hsz2 := by rw [e3]; split <;> exact sz2))
  rw [hf]
  simp only [bne_self_eq_false, Bool.false_eq_true, if_false]
  refine wpAny_pure ?_
  have e4 : (fun _ : Array Value => if True then ((arrOf st').map (·.2)).reverse else (arrOf st').map (·.2)) = fun _ => (if lexLt p q then #[.ref y, .ref x] else #[.ref x, .ref y]) := by
    funext _
    rw [if_pos trivial]
    rw [if_pos rfl] at e3
    exact e3
  rw [e4]
  exact h
theorem sorted2_rev {l x y : Addr} {p q : Int × Int} {Q : Value → Shared → Prop} (hl : s.heap.IsList l #[.ref x, .ref y]) (hx : Pr s.heap x p) (hy : Pr s.heap y q)
    (h : ∀ (h' : Heap) (e : Nat), (∀ b u, s.heap.get? b = some u → h'.get? b = some u) → h'.get? (s.heap.objs.size + 1) = some (seqObj "list" (if lexLt p q then #[.ref y, .ref x] else #[.ref x, .ref y]) e) → Q (.ref (s.heap.objs.size + 1)) { s with heap := h' }) :
    wpAny (model prog w) A (call (.builtin "sorted") [.ref l] [(Str.ofString "reverse", .bool true)]) Q E s := by
  refine call_function_entry_kw kind_sorted plain_sorted entry_sorted (args_sorted_rev _ _) ?_
  unfold Builtin.«sorted»
  refine wpAny_bind (m := checkCount "sorted" 1 1 _) (wpAny_pure ?_)
  refine wpAny_bind (collect_list (vs := [.ref x, .ref y]) hl ?_)
  refine wpAny_bind (wpAny_newList ?_)
  have hsz : ((s.heap.push (seqObj "list" #[] 0)).update s.heap.objs.size (Obj.mapSeq (· ++ [Value.ref x, Value.ref y].toArray))).objs.size = s.heap.objs.size + 1 := by
    rw [Heap.size_update, size_push']
  have hoL : (((s.heap.push (seqObj "list" #[] 0)).update s.heap.objs.size (Obj.mapSeq (· ++ [Value.ref x, Value.ref y].toArray))).push (seqObj "list" [Value.ref x, Value.ref y].toArray 0)).get? (s.heap.objs.size + 1) = some (seqObj "list" [Value.ref x, Value.ref y].toArray 0) := by
    rw [← hsz]; exact Heap.get?_push_size _ rfl
  have lx : x < s.heap.objs.size := let ⟨_, _, _, _, e, _⟩ := hx; Heap.lt_size e
  have ly : y < s.heap.objs.size := let ⟨_, _, _, _, e, _⟩ := hy; Heap.lt_size e
  have keep : ∀ z r, Pr s.heap z r → Pr (((s.heap.push (seqObj "list" #[] 0)).update s.heap.objs.size (Obj.mapSeq (· ++ [Value.ref x, Value.ref y].toArray))).push (seqObj "list" [Value.ref x, Value.ref y].toArray 0)) z r := by
    rintro z r ⟨o, m, t, u, q1, q2⟩
    have hz := Heap.lt_size q1
    exact ⟨o, m, t, u, Heap.get?_push_of_some _ ((Heap.get?_update_other _ _ (Nat.ne_of_gt hz)).trans (Heap.get?_push_of_some _ q1)), q2⟩
  show wpAny _ _ _ _ _ { s with heap := ((s.heap.push (seqObj "list" #[] 0)).update s.heap.objs.size (Obj.mapSeq (· ++ [Value.ref x, Value.ref y].toArray))).push (seqObj "list" [Value.ref x, Value.ref y].toArray 0) }
  rw [hsz]
  refine wpAny_bind (wpAny_holding (wpAny_call_entry_kw slot_list_sort ⟨_, hoL, rfl⟩ entry_list_sort (wp_sort2 hoL (Nat.ne_of_gt (Nat.lt_succ_of_lt lx)) (Nat.ne_of_gt (Nat.lt_succ_of_lt ly)) (keep x p hx) (keep y q hy) ⟨_, rfl, ?_⟩) (args_list_sort_rev _ _)))
  obtain ⟨e, he⟩ := sortedAll_at s.heap [Value.ref x, Value.ref y] (if lexLt p q then #[.ref y, .ref x] else #[.ref x, .ref y])
  exact wpAny_pure ⟨_, rfl, h _ e (fun b u hb => sortedAll_old hb) he⟩
end
end Sort2
namespace L2
open PySem PySem.Spec PyProof.Rows Sort2
section
variable {X : Cx} {e : Expr} {σ : St} {H : Hp} {Q : VK} {pos p kp cp : Pos} {j : Nat}
theorem pr_of {pins : List (Addr × Obj)} {s : Shared} {a : Addr} {i j : Int} (I : Inv X pins σ H s) (h : H a = some (.tup [.int i, .int j])) : Pr s.heap a (i, j) := by
  obtain ⟨its, r, pl, _⟩ := I.tuple (SqT.of h)
  obtain ⟨u, v, rfl, ⟨t, rfl⟩, ⟨t', rfl⟩⟩ := vals2 r
  obtain ⟨o, ho, hc, n, hd⟩ := pl
  exact ⟨o, n, t, t', ho, hc, hd⟩
theorem ev_sorted2 (hm : X.mg "sorted" = none) (h : Ev X e σ H fun v H1 => ∃ l x y a b c d, v = .ref l ∧ H1 l = some (.lst [.ref x, .ref y]) ∧ H1 x = some (.tup [.int a, .int b]) ∧ H1 y = some (.tup [.int c, .int d]) ∧
      ∀ r, H1 r = none → Q (.ref r) (upd H1 r (.lst (if lexLt (a, b) (c, d) then [.ref y, .ref x] else [.ref x, .ref y])))) (hg : Gl X "sorted" := by rfl)
    (he : backTo pos (starEach [e] X.env) = (false, eval e X.env) :: backTo pos (starEach [] X.env) := by rfl) (hplain : (backTo pos (starEach [e] X.env)).any (·.1) = false := by rfl) (hst : isStar e = false := by rfl) :
    Ev X (.Call (.Name "sorted" p) [e] [⟨some "reverse", .Constant (.bool true) j cp, kp⟩] pos) σ H Q := by
  refine ⟨fun pins s I => ?_⟩
  refine wpAny_Call_Name_kw (ld_blt I hg hm PyProof.Rows.boot_sorted ?_)
  have hE : Ea X [e] σ H fun vs H1 => ∃ l x y a b c d, vs = [.ref l] ∧ H1 l = some (.lst [.ref x, .ref y]) ∧ H1 x = some (.tup [.int a, .int b]) ∧ H1 y = some (.tup [.int c, .int d]) ∧
      ∀ r, H1 r = none → Q (.ref r) (upd H1 r (.lst (if lexLt (a, b) (c, d) then [.ref y, .ref x] else [.ref x, .ref y]))) :=
    ea_cons (h.mono fun v H1 ⟨l, x, y, a, b, c, d, e1, r1⟩ => ea_nil ⟨l, x, y, a, b, c, d, by rw [e1], r1⟩) hst
  refine callWith_kw (thn (hE.run pos pins s I) fun us s1 ⟨vs, H1, I1, r1, l, x, y, a, b, c, d, ev, hl, hx, hy, q⟩ => ?_) he hplain
  subst ev
  obtain ⟨u, rfl, ru⟩ := vals1 r1
  cases (show u = Value.ref l from ru)
  refine kws_cons (wpAny_pure (kws_nil ?_))
  obtain ⟨its, r2, pl, _⟩ := I1.list (SqL.of hl)
  obtain ⟨u, v, rfl, ru, rv⟩ := vals2 r2
  cases (show u = Value.ref x from ru)
  cases (show v = Value.ref y from rv)
  refine sorted2_rev pl.isList (pr_of I1 hx) (pr_of I1 hy) fun h' e kp he => ?_
  refine ⟨.ref _, _, I1.laid' (s' := { s1 with heap := h' }) kp rfl rfl (Nat.le_succ _) (show ObjOk X.prog X.w _ h' _ (.lst (if lexLt (a, b) (c, d) then [.ref y, .ref x] else [.ref x, .ref y])) from ?_), rfl, q _ (I1.hok.fresh (Nat.le_succ _))⟩
  split at he
  · rename_i hb
    rw [if_pos hb]
    exact ⟨by show 2 ≤ sizeLine; rw [sizeLine_eq]; decide, [.ref y, .ref x], e, .cons rfl (.cons rfl .nil), he⟩
  · rename_i hb
    rw [if_neg hb]
    exact ⟨by show 2 ≤ sizeLine; rw [sizeLine_eq]; decide, [.ref x, .ref y], e, .cons rfl (.cons rfl .nil), he⟩
end
end L2
namespace Nt
open PySem
noncomputable abbrev Net := List (Str × List Str)
noncomputable abbrev End := Nat × Nat
noncomputable def row (n : Net) (r : Nat) : List Str := ((n[r]?).map (·.2)).getD []
noncomputable def tieAt (n : Net) (e : End) : Option Str := (row n e.1)[e.2]?
noncomputable def rowSeats (r : Nat) (ts : List Str) (p : Nat) : List (Str × End) := (ts.zipIdx p).map fun x => (x.1, (r, x.2))
noncomputable def seatsFrom (r : Nat) : Net → List (Str × End)
  | [] => []
  | a :: n => rowSeats r a.2 0 ++ seatsFrom (r + 1) n
noncomputable def seats (n : Net) : List (Str × End) := seatsFrom 0 n
noncomputable def ends (n : Net) : List End := (seats n).map (·.2)
noncomputable def ties (n : Net) : List Str := n.flatMap (·.2)
noncomputable def pos (n : Net) (z : Str) : List End := ((seats n).filter fun x => decide (x.1 = z)).map (·.2)
theorem mem_rowSeats {r : Nat} {ts : List Str} {p : Nat} {z : Str} {e : End} : (z, e) ∈ rowSeats r ts p ↔ e.1 = r ∧ p ≤ e.2 ∧ ts[e.2 - p]? = some z := by
  unfold rowSeats
  rw [List.mem_map]
  constructor
  · rintro ⟨⟨y, k⟩, hm, he⟩
    cases he
    have := List.mem_zipIdx_iff_le_and_getElem?_sub.mp hm
    exact ⟨rfl, this.1, this.2⟩
  · rintro ⟨h1, h2, h3⟩
    refine ⟨(z, e.2), List.mem_zipIdx_iff_le_and_getElem?_sub.mpr ⟨h2, h3⟩, ?_⟩
    rw [← h1]
theorem mem_seatsFrom : ∀ {n : Net} {k : Nat} {z : Str} {e : End}, (z, e) ∈ seatsFrom k n ↔ k ≤ e.1 ∧ (row n (e.1 - k))[e.2]? = some z
  | [], k, z, e => by
    constructor
    · intro h; cases h
    · rintro ⟨_, h⟩
      simp [row] at h
  | a :: n, k, z, e => by
    unfold seatsFrom
    rw [List.mem_append, mem_rowSeats, mem_seatsFrom]
    constructor
    · rintro (⟨h1, _, h3⟩ | ⟨h1, h2⟩)
      · refine ⟨by omega, ?_⟩
        rw [show e.1 - k = 0 by omega]
        simpa [row] using h3
      · refine ⟨by omega, ?_⟩
        rw [show e.1 - k = (e.1 - (k + 1)) + 1 by omega]
        simpa [row] using h2
    · rintro ⟨h1, h2⟩
      rcases Nat.lt_or_ge k e.1 with h | h
      · refine .inr ⟨h, ?_⟩
        rw [show e.1 - k = (e.1 - (k + 1)) + 1 by omega] at h2
        simpa [row] using h2
      · refine .inl ⟨by omega, Nat.zero_le _, ?_⟩
        rw [show e.1 - k = 0 by omega] at h2
        simpa [row] using h2
theorem mem_seats {n : Net} {z : Str} {e : End} : (z, e) ∈ seats n ↔ tieAt n e = some z := by
  unfold seats tieAt
  rw [mem_seatsFrom]
  simp
theorem mem_ends {n : Net} {e : End} : e ∈ ends n ↔ ∃ z, tieAt n e = some z := by
  unfold ends
  rw [List.mem_map]
  constructor
  · rintro ⟨⟨z, e'⟩, h, rfl⟩
    exact ⟨z, mem_seats.mp h⟩
  · rintro ⟨z, h⟩
    exact ⟨(z, e), mem_seats.mpr h, rfl⟩
theorem mem_pos {n : Net} {z : Str} {e : End} : e ∈ pos n z ↔ tieAt n e = some z := by
  unfold pos
  rw [List.mem_map]
  constructor
  · rintro ⟨⟨y, e'⟩, h, rfl⟩
    rw [List.mem_filter, decide_eq_true_eq] at h
    obtain ⟨h1, h2⟩ := h
    subst h2
    exact mem_seats.mp h1
  · intro h
    exact ⟨(z, e), List.mem_filter.mpr ⟨mem_seats.mpr h, by simp⟩, rfl⟩
theorem seats_names_row (r : Nat) : ∀ (ts : List Str) (p : Nat), (rowSeats r ts p).map (·.1) = ts := by
  intro ts p
  unfold rowSeats
  rw [List.map_map]
  have : ((fun x : Str × End => x.1) ∘ fun x : Str × Nat => (x.1, (r, x.2))) = Prod.fst := rfl
  rw [this, List.zipIdx_map_fst]
theorem seats_names : ∀ (n : Net) (k : Nat), (seatsFrom k n).map (·.1) = ties n
  | [], _ => rfl
  | a :: n, k => by
    unfold seatsFrom ties
    rw [List.map_append, seats_names_row, seats_names n (k + 1), List.flatMap_cons]
    rfl
theorem rowSeats_nodup (r : Nat) (ts : List Str) (p : Nat) : ((rowSeats r ts p).map (·.2)).Nodup := by
  unfold rowSeats
  rw [List.map_map]
  have e : ((fun x : Str × End => x.2) ∘ fun x : Str × Nat => (x.1, (r, x.2))) = (fun k : Nat => (r, k)) ∘ Prod.snd := rfl
  rw [e, ← List.map_map, List.zipIdx_map_snd]
  refine List.Pairwise.map _ (R := (· ≠ ·)) ?_ List.nodup_range'
  intro a b h hab
  exact h (Prod.mk.inj hab).2
theorem ends_nodup_from : ∀ (n : Net) (k : Nat), ((seatsFrom k n).map (·.2)).Nodup
  | [], _ => List.nodup_nil
  | a :: n, k => by
    unfold seatsFrom
    rw [List.map_append, List.nodup_append]
    refine ⟨rowSeats_nodup _ _ _, ends_nodup_from n (k + 1), ?_⟩
    intro x hx y hy e
    subst e
    obtain ⟨⟨z, e1⟩, h1, rfl⟩ := List.mem_map.mp hx
    obtain ⟨⟨z2, e2⟩, h2, he⟩ := List.mem_map.mp hy
    simp only at he
    subst he
    have q1 := (mem_rowSeats.mp h1).1
    have q2 := (mem_seatsFrom.mp h2).1
    omega
theorem ends_nodup (n : Net) : (ends n).Nodup := ends_nodup_from n 0
theorem pos_nodup (n : Net) (z : Str) : (pos n z).Nodup := by
  unfold pos
  exact (ends_nodup n).sublist (List.Sublist.map _ (List.filter_sublist))
theorem pos_len (n : Net) (z : Str) : (pos n z).length = (ties n).count z := by
  unfold pos
  rw [List.length_map, ← seats_names n 0, ← List.countP_eq_length_filter, List.count, List.countP_map]
  rfl
noncomputable def Twice (n : Net) : Prop := ∀ z ∈ ties n, (ties n).count z = 2
theorem tie_mem {n : Net} {e : End} {z : Str} (h : tieAt n e = some z) : z ∈ ties n := by
  have := mem_seats.mpr h
  rw [← seats_names n 0]
  exact List.mem_map.mpr ⟨_, this, rfl⟩
noncomputable def other (n : Net) (e : End) : End := match tieAt n e with
  | some z => (match pos n z with
    | [a, b] => if a = e then b else a
    | _ => e)
  | none => e
theorem pos_two {n : Net} (T : Twice n) {e : End} {z : Str} (h : tieAt n e = some z) : ∃ a b, pos n z = [a, b] ∧ a ≠ b ∧ (e = a ∨ e = b) := by
  have hl := pos_len n z
  rw [T z (tie_mem h)] at hl
  have hn := pos_nodup n z
  have hm := mem_pos.mpr h
  match hp : pos n z, hl with
  | [a, b], _ =>
    rw [hp] at hn hm
    refine ⟨a, b, rfl, ?_, ?_⟩
    · intro e
      subst e
      simp at hn
    · simpa using hm
theorem other_spec {n : Net} (T : Twice n) {e : End} {z : Str} (h : tieAt n e = some z) : tieAt n (other n e) = some z ∧ other n (other n e) = e ∧ other n e ≠ e := by
  obtain ⟨a, b, hp, hab, he⟩ := pos_two T h
  have ha : tieAt n a = some z := mem_pos.mp (by rw [hp]; simp)
  have hb : tieAt n b = some z := mem_pos.mp (by rw [hp]; simp)
  rcases he with rfl | rfl
  · have e1 : other n e = b := by unfold other; simp only [h, hp]; simp
    have e2 : other n b = e := by unfold other; simp only [hb, hp]; simp [hab]
    rw [e1]
    exact ⟨hb, e2, hab.symm⟩
  · have e1 : other n e = a := by unfold other; simp only [h, hp]; simp [hab]
    have e2 : other n a = e := by unfold other; simp only [ha, hp]; simp
    rw [e1]
    exact ⟨ha, e2, hab⟩
noncomputable def left (n : Net) (e : End) : End := (e.1, (e.2 + 1) % (row n e.1).length)
noncomputable def step (n : Net) (e : End) : End := left n (other n e)
theorem end_lt {n : Net} {e : End} {z : Str} (h : tieAt n e = some z) : e.2 < (row n e.1).length := (List.getElem?_eq_some_iff.mp h).1
theorem row_lt {n : Net} {e : End} {z : Str} (h : tieAt n e = some z) : e.1 < n.length := by
  rcases Nat.lt_or_ge e.1 n.length with c | c
  · exact c
  · have := end_lt h
    unfold row at this
    rw [List.getElem?_eq_none c] at this
    simp at this
theorem end_of {n : Net} {e : End} (h : e.2 < (row n e.1).length) : ∃ z, tieAt n e = some z := ⟨_, List.getElem?_eq_getElem h⟩
theorem left_end {n : Net} {e : End} (h : e ∈ ends n) : left n e ∈ ends n := by
  obtain ⟨z, h⟩ := mem_ends.mp h
  have := end_lt h
  exact mem_ends.mpr (end_of (show (e.2 + 1) % (row n e.1).length < (row n e.1).length from Nat.mod_lt _ (by omega)))
theorem other_end {n : Net} (T : Twice n) {e : End} (h : e ∈ ends n) : other n e ∈ ends n := by
  obtain ⟨z, h⟩ := mem_ends.mp h
  exact mem_ends.mpr ⟨z, (other_spec T h).1⟩
theorem step_end {n : Net} (T : Twice n) {e : End} (h : e ∈ ends n) : step n e ∈ ends n := left_end (other_end T h)
theorem left_inj {n : Net} {a b : End} (ha : a ∈ ends n) (hb : b ∈ ends n) (h : left n a = left n b) : a = b := by
  obtain ⟨z, ha⟩ := mem_ends.mp ha
  obtain ⟨y, hb⟩ := mem_ends.mp hb
  have la := end_lt ha
  have lb := end_lt hb
  unfold left at h
  obtain ⟨h1, h2⟩ := Prod.mk.inj h
  rw [h1] at la h2
  have : a.2 = b.2 := by
    rcases Nat.lt_or_ge (a.2 + 1) (row n b.1).length with c | c <;> rcases Nat.lt_or_ge (b.2 + 1) (row n b.1).length with d | d
    · rw [Nat.mod_eq_of_lt c, Nat.mod_eq_of_lt d] at h2; omega
    · have e : b.2 + 1 = (row n b.1).length := by omega
      rw [Nat.mod_eq_of_lt c, e, Nat.mod_self] at h2; omega
    · have e : a.2 + 1 = (row n b.1).length := by omega
      rw [Nat.mod_eq_of_lt d, e, Nat.mod_self] at h2; omega
    · omega
  exact Prod.ext h1 this
theorem other_inj {n : Net} (T : Twice n) {a b : End} (ha : a ∈ ends n) (hb : b ∈ ends n) (h : other n a = other n b) : a = b := by
  obtain ⟨z, ha⟩ := mem_ends.mp ha
  obtain ⟨y, hb⟩ := mem_ends.mp hb
  rw [← (other_spec T ha).2.1, h, (other_spec T hb).2.1]
theorem step_inj {n : Net} (T : Twice n) {a b : End} (ha : a ∈ ends n) (hb : b ∈ ends n) (h : step n a = step n b) : a = b :=
  other_inj T ha hb (left_inj (other_end T ha) (other_end T hb) h)
theorem nodup_le {α : Type} [DecidableEq α] : ∀ {a b : List α}, a.Nodup → (∀ z ∈ a, z ∈ b) → a.length ≤ b.length
  | [], b, _, _ => Nat.zero_le _
  | x :: r, b, hn, hs => by
    rw [List.nodup_cons] at hn
    have hx := hs x List.mem_cons_self
    have := nodup_le (a := r) (b := b.erase x) hn.2 fun z hz => by
      have hne : z ≠ x := fun e => hn.1 (e ▸ hz)
      exact (List.mem_erase_of_ne hne).mpr (hs z (List.mem_cons_of_mem _ hz))
    rw [List.length_erase_of_mem hx] at this
    have hp : 0 < b.length := List.length_pos_of_mem hx
    rw [List.length_cons]
    omega
noncomputable def it {α : Type} (f : α → α) : Nat → α → α
  | 0, a => a
  | k + 1, a => f (it f k a)
theorem it_mem {α : Type} {f : α → α} {S : List α} (hf : ∀ a ∈ S, f a ∈ S) {a : α} (h : a ∈ S) : ∀ k, it f k a ∈ S
  | 0 => h
  | k + 1 => hf _ (it_mem hf h k)
theorem comes_back {α : Type} [DecidableEq α] {f : α → α} {S : List α} (hf : ∀ a ∈ S, f a ∈ S) (inj : ∀ a ∈ S, ∀ b ∈ S, f a = f b → a = b) {a : α} (h : a ∈ S) : ∃ k, 0 < k ∧ k ≤ S.length ∧ it f k a = a := by
  have cancel : ∀ i j, it f i a = it f (i + j) a → it f j a = a := by
    intro i
    induction i with
    | zero => intro j e; rw [Nat.zero_add] at e; exact e.symm
    | succ i ih =>
      intro j e
      refine ih j ?_
      rw [show i + 1 + j = (i + j) + 1 by omega] at e
      exact inj _ (it_mem hf h i) _ (it_mem hf h (i + j)) e
  refine Classical.byContradiction fun hn => ?_
  have nd : ((List.range (S.length + 1)).map fun i => it f i a).Nodup := by
    refine List.Pairwise.map _ (R := fun i j => i < j ∧ j < S.length + 1) ?_ ?_
    · rintro i j ⟨h1, h2⟩ e
      refine hn ⟨j - i, by omega, by omega, cancel i (j - i) ?_⟩
      rw [show i + (j - i) = j by omega]
      exact e
    · rw [List.pairwise_iff_getElem]
      intro i j hi hj hij
      simp only [List.getElem_range]
      simp at hj
      exact ⟨hij, hj⟩
  have := nodup_le nd fun z hz => by
    obtain ⟨i, _, rfl⟩ := List.mem_map.mp hz
    exact it_mem hf h i
  simp at this
  omega
theorem row_le : ∀ (n : Net) (r : Nat), (row n r).length ≤ (ties n).length
  | [], r => by simp [row, ties]
  | a :: n, 0 => by simp [row, ties]
  | a :: n, r + 1 => by
    have := row_le n r
    simp [row, ties] at this ⊢
    omega
theorem ties_take_le : ∀ (n : Net) (r : Nat), (ties (n.take r)).length ≤ (ties n).length
  | [], r => by simp [ties]
  | a :: n, 0 => by simp [ties]
  | a :: n, r + 1 => by
    have := ties_take_le n r
    simp [ties] at this ⊢
    omega
structure IsFace (n : Net) (e : Nt.End) (fs : List End) : Prop where
  pos : 0 < fs.length
  len : fs.length ≤ (ends n).length
  at' : ∀ i, i < fs.length → fs[i]? = some (it (step n) i e)
  back : it (step n) fs.length e = e
  first : ∀ i, 0 < i → i < fs.length → it (step n) i e ≠ e
end Nt
namespace Nt
open PySem L2
noncomputable abbrev Ls (zs : List Str) : HO := .lst (zs.map V.str)
noncomputable abbrev Tp (e : End) : HO := .tup [.int e.1, .int e.2]
structure RowsAt (H : Hp) (R : Addr) (as : List (Addr × Addr)) (n : Net) : Prop where
  len : as.length = n.length
  lst : H R = some (.lst (as.map fun a => .ref a.1))
  tup : ∀ (i : Nat) a r, as[i]? = some a → n[i]? = some r → H a.1 = some (.tup [.str r.1, .ref a.2]) ∧ H a.2 = some (Ls r.2)
  inj : (as.map (·.2)).Nodup
theorem RowsAt.same {H H' : Hp} {R : Addr} {as : List (Addr × Addr)} {n : Net} (h : RowsAt H R as n) (s : Same H H') : RowsAt H' R as n :=
  ⟨h.len, s _ _ h.lst, fun i a r h1 h2 => ⟨s _ _ (h.tup i a r h1 h2).1, s _ _ (h.tup i a r h1 h2).2⟩, h.inj⟩
theorem RowsAt.at {H : Hp} {R : Addr} {as : List (Addr × Addr)} {n : Net} (h : RowsAt H R as n) {i : Nat} (hi : i < n.length) :
    ∃ a, as[i]? = some a ∧ atI (as.map fun a => V.ref a.1) (i : Int) = some (.ref a.1) ∧ H a.1 = some (.tup [.str n[i].1, .ref a.2]) ∧ H a.2 = some (Ls (row n i)) ∧ row n i = n[i].2 := by
  have hl := h.len
  have e : as[i]? = some as[i] := List.getElem?_eq_getElem (by omega)
  have er : row n i = n[i].2 := by unfold row; rw [List.getElem?_eq_getElem hi]; rfl
  have q := h.tup i as[i] n[i] e (List.getElem?_eq_getElem hi)
  refine ⟨as[i], e, atI_nat (by rw [List.getElem?_map, e]; rfl), q.1, ?_, er⟩
  rw [er]
  exact q.2
theorem at_strs {zs : List Str} {j : Nat} {z : Str} (h : zs[j]? = some z) : atI (zs.map V.str) (j : Int) = some (.str z) := atI_nat (by rw [List.getElem?_map, h]; rfl)
inductive Pd (H : Hp) : List Addr → List End → Prop where
  | nil : Pd H [] []
  | cons {t : Addr} {e : End} {ts : List Addr} {es : List End} : H t = some (Tp e) → Pd H ts es → Pd H (t :: ts) (e :: es)
theorem Pd.append {H : Hp} {ts us : List Addr} {es fs : List End} (h : Pd H ts es) (g : Pd H us fs) : Pd H (ts ++ us) (es ++ fs) := by
  induction h with
  | nil => exact g
  | cons h1 _ ih => exact .cons h1 ih
theorem Pd.keep {H H' : Hp} {ts : List Addr} {es : List End} (h : Pd H ts es) (k : ∀ t e, H t = some (Tp e) → H' t = some (Tp e)) : Pd H' ts es := by
  induction h with
  | nil => exact .nil
  | cons h1 _ ih => exact .cons (k _ _ h1) ih
theorem Pd.length {H : Hp} {ts : List Addr} {es : List End} (h : Pd H ts es) : ts.length = es.length := by
  induction h with
  | nil => rfl
  | cons _ _ ih => rw [List.length_cons, List.length_cons, ih]
theorem Pd.at {H : Hp} {ts : List Addr} {es : List End} (h : Pd H ts es) : ∀ {i : Nat} {e : End}, es[i]? = some e → ∃ t, ts[i]? = some t ∧ H t = some (Tp e) := by
  induction h with
  | nil => intro i e h; simp at h
  | cons h1 _ ih =>
    intro i e h
    cases i with
    | zero => simp at h; subst h; exact ⟨_, rfl, h1⟩
    | succ i => simp only [List.getElem?_cons_succ] at h ⊢; exact ih h
noncomputable def posIn (done : List (Str × End)) (z : Str) : List End := (done.filter fun x => decide (x.1 = z)).map (·.2)
theorem posIn_snoc (done : List (Str × End)) (y z : Str) (e : End) : posIn (done ++ [(y, e)]) z = posIn done z ++ (if y = z then [e] else []) := by
  unfold posIn
  rw [List.filter_append, List.map_append]
  congr 1
  by_cases h : y = z
  · rw [if_pos h]; simp [h]
  · rw [if_neg h]; simp [h]
structure SeatsOn (H0 H : Hp) (d : Addr) (done : List (Str × End)) (kvs : List (Key × V)) (ks : List Str) (A : Str → Option (Addr × List Addr)) : Prop where
  same : Same H0 H
  free : H0 d = none
  dict : H d = some (.dK kvs)
  keys : kvs.map (·.1) = ks.map Sum.inr
  nodup : ks.Nodup
  mem : ∀ z, z ∈ ks ↔ (A z).isSome = true
  val : ∀ z, valV kvs (Sum.inr z) = (A z).map fun a => .ref a.1
  at' : ∀ z a ts, A z = some (a, ts) → H0 a = none ∧ a ≠ d ∧ H a = some (.lst (ts.map V.ref)) ∧ Pd H ts (posIn done z)
  inj : ∀ z y a ts us, A z = some (a, ts) → A y = some (a, us) → z = y
  none' : ∀ z, A z = none → posIn done z = []
  some' : ∀ z a ts, A z = some (a, ts) → posIn done z ≠ []
theorem SeatsOn.start {H : Hp} {d : Addr} (h : H d = none) : SeatsOn H (upd H d (.dK [])) d [] [] [] (fun _ => none) where
  same := fun b u q => by rw [upd_ne (ne_of_none q h)]; exact q
  free := h
  dict := upd_same
  keys := rfl
  nodup := List.nodup_nil
  mem := fun z => by simp
  val := fun z => rfl
  at' := fun z a ts h => by cases h
  inj := fun z y a ts us h => by cases h
  none' := fun z _ => rfl
  some' := fun z a ts h => by cases h
theorem tp_ne_lst {H : Hp} {t a : Addr} {e : End} {xs : List V} (h : H t = some (Tp e)) (g : H a = some (.lst xs)) : t ≠ a := ne_of h g fun z => nomatch z
theorem SeatsOn.old {H0 H : Hp} {d : Addr} {done : List (Str × End)} {kvs : List (Key × V)} {ks : List Str} {A : Str → Option (Addr × List Addr)} (S : SeatsOn H0 H d done kvs ks A) {z : Str} {e : End} {a l0 t : Addr} {ts : List Addr}
    (hA : A z = some (a, ts)) (hl : H l0 = none) (ht : (upd H l0 (.lst [])) t = none) :
    SeatsOn H0 (upd (upd (upd H l0 (.lst [])) t (Tp e)) a (.lst (ts.map V.ref ++ [.ref t]))) d (done ++ [(z, e)]) kvs ks (fun y => if y = z then some (a, ts ++ [t]) else A y) := by
  obtain ⟨q1, q2, q3, q4⟩ := S.at' z a ts hA
  have htH : H t = none := by
    by_cases c : t = l0
    · rw [c, upd_same] at ht; cases ht
    · rwa [upd_ne c] at ht
  have hla : l0 ≠ a := (ne_of_none q3 hl).symm
  have hta : t ≠ a := (ne_of_none q3 htH).symm
  have hat : a ≠ t := hta.symm
  have keep : ∀ b u, b ≠ a → H b = some u → (upd (upd (upd H l0 (.lst [])) t (Tp e)) a (.lst (ts.map V.ref ++ [.ref t]))) b = some u := fun b u h1 h2 => by
    rw [upd_ne h1, upd_ne (ne_of_none h2 htH), upd_ne (ne_of_none h2 hl)]
    exact h2
  have kt : ∀ b f, H b = some (Tp f) → (upd (upd (upd H l0 (.lst [])) t (Tp e)) a (.lst (ts.map V.ref ++ [.ref t]))) b = some (Tp f) := fun b f h => keep b _ (tp_ne_lst h q3) h
  have et : (upd (upd (upd H l0 (.lst [])) t (Tp e)) a (.lst (ts.map V.ref ++ [.ref t]))) t = some (Tp e) := by rw [upd_ne hta, upd_same]
  refine ⟨fun b u h => ?_, S.free, keep d _ (Ne.symm q2) S.dict, S.keys, S.nodup, fun y => ?_, fun y => ?_, fun y a' ts' h => ?_, fun y y' a' ts' us h1 h2 => ?_, fun y h => ?_, fun y a' ts' h => ?_⟩
  · exact keep b u (ne_of_none h q1) (S.same _ _ h)
  · rw [S.mem y]
    by_cases c : y = z
    · rw [if_pos c, c, hA]; simp
    · rw [if_neg c]
  · rw [S.val y]
    by_cases c : y = z
    · rw [if_pos c, c, hA]; rfl
    · rw [if_neg c]
  · by_cases c : y = z
    · rw [if_pos c] at h
      cases h
      refine ⟨q1, q2, by rw [upd_same, List.map_append]; rfl, ?_⟩
      rw [posIn_snoc, c, if_pos rfl]
      exact (q4.keep kt).append (.cons et .nil)
    · rw [if_neg c] at h
      obtain ⟨r1, r2, r3, r4⟩ := S.at' y a' ts' h
      have hne : a' ≠ a := fun e2 => c (S.inj y z a ts' ts (e2 ▸ h) hA)
      refine ⟨r1, r2, keep _ _ hne r3, ?_⟩
      rw [posIn_snoc, if_neg (fun h => c h.symm), List.append_nil]
      exact r4.keep kt
  · by_cases c : y = z <;> by_cases c' : y' = z
    · rw [c, c']
    · rw [if_pos c] at h1
      rw [if_neg c'] at h2
      cases h1
      exact absurd (S.inj y' z a us ts h2 hA) c'
    · rw [if_neg c] at h1
      rw [if_pos c'] at h2
      cases h2
      exact absurd (S.inj y z a ts' ts h1 hA) c
    · rw [if_neg c] at h1
      rw [if_neg c'] at h2
      exact S.inj y y' a' ts' us h1 h2
  · by_cases c : y = z
    · rw [if_pos c] at h; cases h
    · rw [if_neg c] at h
      rw [posIn_snoc, if_neg (fun h => c h.symm), List.append_nil]
      exact S.none' y h
  · by_cases c : y = z
    · rw [posIn_snoc, if_pos c.symm]
      simp
    · rw [if_neg c] at h
      rw [posIn_snoc, if_neg (fun h => c h.symm), List.append_nil]
      exact S.some' y a' ts' h
theorem SeatsOn.new {H0 H : Hp} {d : Addr} {done : List (Str × End)} {kvs : List (Key × V)} {ks : List Str} {A : Str → Option (Addr × List Addr)} (S : SeatsOn H0 H d done kvs ks A) {z : Str} {e : End} {l0 t : Addr}
    (hA : A z = none) (hl : H l0 = none) (ht : (upd (upd H l0 (.lst [])) d (.dK (putK kvs (Sum.inr z) (.ref l0)))) t = none) :
    SeatsOn H0 (upd (upd (upd (upd H l0 (.lst [])) d (.dK (putK kvs (Sum.inr z) (.ref l0)))) t (Tp e)) l0 (.lst [.ref t])) d (done ++ [(z, e)]) (putK kvs (Sum.inr z) (.ref l0)) (ks ++ [z]) (fun y => if y = z then some (l0, [t]) else A y) := by
  have hdl : d ≠ l0 := ne_of_none S.dict hl
  have htd : t ≠ d := fun c => by rw [c, upd_same] at ht; cases ht
  have htl : t ≠ l0 := fun c => by rw [upd_ne htd, c, upd_same] at ht; cases ht
  have htH : H t = none := by rwa [upd_ne htd, upd_ne htl] at ht
  have vn : valV kvs (Sum.inr z) = none := by rw [S.val z, hA]; rfl
  have keep : ∀ b u, b ≠ d → H b = some u → (upd (upd (upd (upd H l0 (.lst [])) d (.dK (putK kvs (Sum.inr z) (.ref l0)))) t (Tp e)) l0 (.lst [.ref t])) b = some u := fun b u h1 h2 => by
    rw [upd_ne (ne_of_none h2 hl), upd_ne (ne_of_none h2 htH), upd_ne h1, upd_ne (ne_of_none h2 hl)]
    exact h2
  have kt : ∀ b f, H b = some (Tp f) → (upd (upd (upd (upd H l0 (.lst [])) d (.dK (putK kvs (Sum.inr z) (.ref l0)))) t (Tp e)) l0 (.lst [.ref t])) b = some (Tp f) := fun b f h => keep b _ (ne_of h S.dict fun z => nomatch z) h
  have h0l : H0 l0 = none := S.same.free hl
  have zk : z ∉ ks := fun h => by
    have := (S.mem z).mp h
    rw [hA] at this
    cases this
  refine ⟨fun b u h => ?_, S.free, ?_, ?_, ?_, fun y => ?_, fun y => ?_, fun y a' ts' h => ?_, fun y y' a' ts' us h1 h2 => ?_, fun y h => ?_, fun y a' ts' h => ?_⟩
  · exact keep b u (ne_of_none h S.free) (S.same _ _ h)
  · rw [upd_ne hdl, upd_ne htd.symm, upd_same]
  · rw [putK_new _ vn, List.map_append, S.keys, List.map_append]
    rfl
  · rw [List.nodup_append]
    exact ⟨S.nodup, by simp, fun x hx y hy e => by rw [List.mem_singleton] at hy; subst hy e; exact zk hx⟩
  · rw [List.mem_append, List.mem_singleton, S.mem y]
    by_cases c : y = z
    · rw [if_pos c]; simp [c]
    · rw [if_neg c]; simp [c]
  · rw [valV_put]
    by_cases c : y = z
    · rw [if_pos (by rw [c]), if_pos c]; rfl
    · rw [if_neg (fun h => c (Sum.inr.inj h)), if_neg c, S.val y]
  · by_cases c : y = z
    · rw [if_pos c] at h
      cases h
      refine ⟨h0l, hdl.symm, by rw [upd_same]; rfl, ?_⟩
      rw [posIn_snoc, c, if_pos rfl, S.none' z hA]
      exact .cons (by rw [upd_ne htl, upd_same]) .nil
    · rw [if_neg c] at h
      obtain ⟨r1, r2, r3, r4⟩ := S.at' y a' ts' h
      refine ⟨r1, r2, keep _ _ r2 r3, ?_⟩
      rw [posIn_snoc, if_neg (fun h => c h.symm), List.append_nil]
      exact r4.keep kt
  · by_cases c : y = z <;> by_cases c' : y' = z
    · rw [c, c']
    · rw [if_pos c] at h1
      rw [if_neg c'] at h2
      cases h1
      exact absurd hl (by rw [(S.at' y' l0 us h2).2.2.1]; exact fun h => nomatch h)
    · rw [if_neg c] at h1
      rw [if_pos c'] at h2
      cases h2
      exact absurd hl (by rw [(S.at' y l0 ts' h1).2.2.1]; exact fun h => nomatch h)
    · rw [if_neg c] at h1
      rw [if_neg c'] at h2
      exact S.inj y y' a' ts' us h1 h2
  · by_cases c : y = z
    · rw [if_pos c] at h; cases h
    · rw [if_neg c] at h
      rw [posIn_snoc, if_neg (fun h => c h.symm), List.append_nil]
      exact S.none' y h
  · by_cases c : y = z
    · rw [posIn_snoc, if_pos c.symm]
      simp
    · rw [if_neg c] at h
      rw [posIn_snoc, if_neg (fun h => c h.symm), List.append_nil]
      exact S.some' y a' ts' h
theorem seatsFrom_append : ∀ (n m : Net) (k : Nat), seatsFrom k (n ++ m) = seatsFrom k n ++ seatsFrom (k + n.length) m
  | [], m, k => rfl
  | a :: n, m, k => by
    show rowSeats k a.2 0 ++ seatsFrom (k + 1) (n ++ m) = (rowSeats k a.2 0 ++ seatsFrom (k + 1) n) ++ seatsFrom (k + (n.length + 1)) m
    rw [seatsFrom_append n m (k + 1), List.append_assoc, show k + 1 + n.length = k + (n.length + 1) by omega]
theorem seats_take {n : Net} {r : Nat} (h : r < n.length) : seats (n.take (r + 1)) = seats (n.take r) ++ rowSeats r (row n r) 0 := by
  unfold seats
  rw [List.take_add_one, List.getElem?_eq_getElem h, seatsFrom_append]
  have e : (n.take r).length = r := by rw [List.length_take]; omega
  rw [e, Nat.zero_add]
  have er : row n r = n[r].2 := by unfold row; rw [List.getElem?_eq_getElem h]; rfl
  rw [er]
  show _ ++ (rowSeats r n[r].2 0 ++ []) = _
  rw [List.append_nil]
theorem rowSeats_take {r : Nat} {ts : List Str} {p : Nat} {z : Str} (h : ts[p]? = some z) : rowSeats r (ts.take (p + 1)) 0 = rowSeats r (ts.take p) 0 ++ [(z, (r, p))] := by
  unfold rowSeats
  have hp := (List.getElem?_eq_some_iff.mp h).1
  rw [List.take_add_one, h, List.zipIdx_append, List.map_append]
  have e : (ts.take p).length = p := by rw [List.length_take]; omega
  rw [e, Nat.zero_add]
  rfl
structure SeatsAt (H : Hp) (d : Addr) (n : Net) (ks : List Str) : Prop where
  dict : ∃ kvs, H d = some (.dK kvs) ∧ kvs.map (·.1) = ks.map Sum.inr ∧ ∀ z ∈ ties n, ∃ a ts, valV kvs (Sum.inr z) = some (.ref a) ∧ H a = some (.lst (ts.map V.ref)) ∧ Pd H ts (pos n z)
  nodup : ks.Nodup
  mem : ∀ z, z ∈ ks ↔ z ∈ ties n
theorem SeatsAt.same {H H' : Hp} {d : Addr} {n : Net} {ks : List Str} (S : SeatsAt H d n ks) (s : Same H H') : SeatsAt H' d n ks := by
  obtain ⟨kvs, h1, h2, h3⟩ := S.dict
  refine ⟨⟨kvs, s _ _ h1, h2, fun z hz => ?_⟩, S.nodup, S.mem⟩
  obtain ⟨a, ts, q1, q2, q3⟩ := h3 z hz
  exact ⟨a, ts, q1, s _ _ q2, q3.keep fun t e h => s _ _ h⟩
theorem ties_pos {n : Net} {z : Str} : z ∈ ties n ↔ pos n z ≠ [] := by
  rw [← List.count_pos_iff, ← pos_len, List.length_pos_iff]
theorem SeatsOn.whole {H0 H : Hp} {d : Addr} {n : Net} {kvs : List (Key × V)} {ks : List Str} {A : Str → Option (Addr × List Addr)} (S : SeatsOn H0 H d (seats n) kvs ks A) : SeatsAt H d n ks := by
  have mem : ∀ z, z ∈ ks ↔ z ∈ ties n := fun z => by
    rw [S.mem z, ties_pos]
    cases h : A z with
    | none => simp; exact S.none' z h
    | some p =>
      obtain ⟨a, ts⟩ := p
      simp
      exact S.some' z a ts h
  refine ⟨⟨kvs, S.dict, S.keys, fun z hz => ?_⟩, S.nodup, mem⟩
  have := (S.mem z).mp ((mem z).mpr hz)
  cases h : A z with
  | none => rw [h] at this; cases this
  | some p =>
    obtain ⟨a, ts⟩ := p
    obtain ⟨q1, q2, q3, q4⟩ := S.at' z a ts h
    exact ⟨a, ts, by rw [S.val z, h]; rfl, q3, q4⟩
theorem all2 (e : Nat → Bool) : (List.range 2).all e = (e 0 && e 1) := by
  show (([0, 1] : List Nat).all e) = _
  simp
theorem dec_end (x y : End) : (eqV (.int x.1) (.int y.1) && eqV (.int x.2) (.int y.2)) = decide (x = y) := by
  obtain ⟨a, b⟩ := x
  obtain ⟨c, d⟩ := y
  by_cases h : a = c <;> by_cases h2 : b = d
  · subst h h2; simp [eqV]
  · have : ¬ (b : Int) = (d : Int) := fun e => h2 (by omega)
    simp [eqV, h2, this]
  · have : ¬ (a : Int) = (c : Int) := fun e => h (by omega)
    simp [eqV, h, this]
  · have : ¬ (a : Int) = (c : Int) := fun e => h (by omega)
    simp [eqV, h, this]
section
variable {X : Cx} {H : Hp} {s t : Addr} {x y : End}
theorem eqs_tp : ∀ (j : Nat) (u v : V), [V.int x.1, .int x.2][j]? = some u → [V.int y.1, .int y.2][j]? = some v → EqD X H 0 u v (if j = 0 then eqV (.int x.1) (.int y.1) else eqV (.int x.2) (.int y.2))
  | 0, u, v, h1, h2 => by
    cases h1
    cases h2
    exact eqD_flat rfl rfl
  | 1, u, v, h1, h2 => by
    cases h1
    cases h2
    exact eqD_flat rfl rfl
  | j + 2, u, v, h1, h2 => by simp at h1
theorem rcD_tp (hs : H s = some (Tp x)) (ht : H t = some (Tp y)) : RcD X H 1 (.ref s) (.ref t) (decide (x = y)) := by
  have := rcD_tup (X := X) (k := 0) (fun j => if j = 0 then eqV (.int x.1) (.int y.1) else eqV (.int x.2) (.int y.2)) (SqT.of hs) (SqT.of ht) rfl eqs_tp
  rw [show ([V.int (x.1 : Int), .int x.2].length) = 2 from rfl, all2] at this
  have e := dec_end x y
  simp only [if_true] at this
  rw [if_neg (by decide), e] at this
  exact this
theorem rnD_tp (hs : H s = some (Tp x)) (ht : H t = some (Tp y)) : RnD X H 1 (.ref s) (.ref t) (decide (x = y)) := by
  have := rnD_tup (X := X) (k := 0) (fun j => if j = 0 then eqV (.int x.1) (.int y.1) else eqV (.int x.2) (.int y.2)) (SqT.of hs) (SqT.of ht) rfl eqs_tp
  rw [show ([V.int (x.1 : Int), .int x.2].length) = 2 from rfl, all2] at this
  have e := dec_end x y
  simp only [if_true] at this
  rw [if_neg (by decide), e] at this
  exact this
end
end Nt
namespace Nt
open PySem L2
noncomputable abbrev lets : Str := "abcdefghijklmnopqrstuvwxyz0123456789"
theorem lets_len : lets.cps.toList.length = 36 := by decide +kernel
theorem lets_nodup : lets.cps.toList.Nodup := by decide +kernel
noncomputable def sgn (i : Int) : Nat := (atI lets.cps.toList (i % 36)).getD 0
theorem sgn_at (i : Int) : atI lets.cps.toList (i % 36) = some (sgn i) := by
  have h0 : 0 ≤ i % 36 := Int.emod_nonneg _ (by decide)
  have h1 : i % 36 < 36 := Int.emod_lt_of_pos _ (by decide)
  have hj : (i % 36).toNat < lets.cps.toList.length := by rw [lets_len]; omega
  have q := atI_nat (xs := lets.cps.toList) (j := (i % 36).toNat) (v := lets.cps.toList[(i % 36).toNat]) (by simp [hj])
  rw [show (((i % 36).toNat : Nat) : Int) = i % 36 by omega] at q
  unfold sgn
  rw [q]
  rfl
theorem sgn_inj {i j : Int} (h : sgn i = sgn j) : i % 36 = j % 36 := by
  have key : ∀ k : Int, lets.cps.toList[(k % 36).toNat]? = some (sgn k) := fun k => by
    have h0 : 0 ≤ k % 36 := Int.emod_nonneg _ (by decide)
    have h1 : k % 36 < 36 := Int.emod_lt_of_pos _ (by decide)
    have hj : (k % 36).toNat < lets.cps.toList.length := by rw [lets_len]; omega
    have q := atI_nat (xs := lets.cps.toList) (j := (k % 36).toNat) (v := lets.cps.toList[(k % 36).toNat]) (by simp [hj])
    rw [show (((k % 36).toNat : Nat) : Int) = k % 36 by omega, sgn_at] at q
    rw [List.getElem?_eq_getElem hj, Option.some.inj q]
  have hi := key i
  have hj := key j
  rw [h] at hi
  obtain ⟨l1, e1⟩ := List.getElem?_eq_some_iff.mp hi
  obtain ⟨l2, e2⟩ := List.getElem?_eq_some_iff.mp hj
  have := (List.getElem_inj (xs := lets.cps.toList) (h₀ := l1) (h₁ := l2) lets_nodup).mp (e1.trans e2.symm)
  have a0 : 0 ≤ i % 36 := Int.emod_nonneg _ (by decide)
  have b0 : 0 ≤ j % 36 := Int.emod_nonneg _ (by decide)
  omega
noncomputable def turn (b : Int) (sp : Int) (v k : Nat) : Int := b / 64 + (k : Int) * (b / 7 % 5) + (if (k : Int) = sp then (v : Int) else 0)
noncomputable def nm (b sp : Int) (v : Nat) : Nat → Str
  | 0 => ⟨#[]⟩
  | k + 1 => nm b sp v k ++ ⟨#[sgn (turn b sp v k)]⟩
theorem app_list (x y : Str) : (x ++ y).cps.toList = x.cps.toList ++ y.cps.toList := by
  show (x.cps ++ y.cps).toList = _
  simp
theorem nm_list (b sp : Int) (v : Nat) : ∀ k, (nm b sp v k).cps.toList = (List.range k).map fun j => sgn (turn b sp v j)
  | 0 => rfl
  | k + 1 => by
    show (nm b sp v k ++ ⟨#[sgn (turn b sp v k)]⟩).cps.toList = _
    rw [app_list, nm_list b sp v k, List.range_succ, List.map_append]
    rfl
theorem nm_inj {b sp : Int} {u v k : Nat} (hu : u < 36) (hv : v < 36) (h0 : 0 ≤ sp) (h1 : sp < (k : Int)) (h : nm b sp u k = nm b sp v k) : u = v := by
  have e : (nm b sp u k).cps.toList = (nm b sp v k).cps.toList := by rw [h]
  rw [nm_list, nm_list] at e
  have hk : sp.toNat < k := by omega
  have q : ((List.range k).map fun j => sgn (turn b sp u j))[sp.toNat]? = ((List.range k).map fun j => sgn (turn b sp v j))[sp.toNat]? := by rw [e]
  rw [List.getElem?_map, List.getElem?_map, List.getElem?_range hk] at q
  have q2 : sgn (turn b sp u sp.toNat) = sgn (turn b sp v sp.toNat) := Option.some.inj q
  have q3 := sgn_inj q2
  unfold turn at q3
  rw [show ((sp.toNat : Nat) : Int) = sp by omega, if_pos rfl, if_pos rfl] at q3
  omega
theorem fold_list (c : Nat) : ∀ (k : Nat) (acc : Array Nat), ((List.replicate k (#[c] : Array Nat)).foldl (· ++ ·) acc).toList = acc.toList ++ List.replicate k c
  | 0, acc => by simp
  | k + 1, acc => by
    rw [List.replicate_succ, List.foldl_cons, fold_list c k, List.replicate_succ]
    simp
theorem mul_list (c : Nat) {i : Int} (h : 1 ≤ i) : (Txt.mul ⟨#[c]⟩ i).cps.toList = List.replicate i.toNat c := by
  unfold Txt.mul
  rw [if_neg (by omega)]
  by_cases e : i = 1
  · subst e
    rfl
  · have e1 : (i == 1 || (⟨#[c]⟩ : Str).length == 0) = false := by
      have : (i == 1) = false := by simpa using e
      rw [this]
      rfl
    rw [e1]
    simp only [Bool.false_eq_true, if_false]
    have := fold_list c i.toNat #[]
    simpa using this
noncomputable def nameOf (b : Int) (v : Nat) : Str := if b % 3 = 2 then Txt.mul ⟨#[sgn (b / 64 + (v : Int) / 8)]⟩ (1 + (v : Int) % 8) else nm b (b / 8 % (1 + b % 8)) v (1 + b % 8).toNat
theorem nameOf_inj {b : Int} {u v : Nat} (hu : u < 36) (hv : v < 36) (h : nameOf b u = nameOf b v) : u = v := by
  have s0 : 0 ≤ b % 8 := Int.emod_nonneg _ (by decide)
  unfold nameOf at h
  by_cases c : b % 3 = 2
  · rw [if_pos c, if_pos c] at h
    have u0 : 0 ≤ (u : Int) % 8 := Int.emod_nonneg _ (by decide)
    have v0 : 0 ≤ (v : Int) % 8 := Int.emod_nonneg _ (by decide)
    have e : (Txt.mul ⟨#[sgn (b / 64 + (u : Int) / 8)]⟩ (1 + (u : Int) % 8)).cps.toList = (Txt.mul ⟨#[sgn (b / 64 + (v : Int) / 8)]⟩ (1 + (v : Int) % 8)).cps.toList := by rw [h]
    rw [mul_list _ (by omega), mul_list _ (by omega)] at e
    have l := congrArg List.length e
    rw [List.length_replicate, List.length_replicate] at l
    have hd : (List.replicate (1 + (u : Int) % 8).toNat (sgn (b / 64 + (u : Int) / 8)))[0]? = (List.replicate (1 + (v : Int) % 8).toNat (sgn (b / 64 + (v : Int) / 8)))[0]? := by rw [e]
    rw [List.getElem?_replicate, List.getElem?_replicate, if_pos (by omega), if_pos (by omega)] at hd
    have q := sgn_inj (Option.some.inj hd)
    omega
  · rw [if_neg c, if_neg c] at h
    refine nm_inj hu hv (Int.emod_nonneg _ (by omega)) ?_ h
    have := Int.emod_lt_of_pos (b / 8) (show 0 < 1 + b % 8 by omega)
    omega
noncomputable def namesOf (b : Int) (m : Nat) : List Str := (List.range m).map (nameOf b)
theorem namesOf_nodup {b : Int} {m : Nat} (h : m ≤ 36) : (namesOf b m).Nodup := by
  unfold namesOf
  refine List.Pairwise.map _ (R := fun i j => i < j ∧ j < m) ?_ ?_
  · rintro i j ⟨h1, h2⟩ e
    have := nameOf_inj (by omega) (by omega) e
    omega
  · rw [List.pairwise_iff_getElem]
    intro i j hi hj hij
    simp only [List.getElem_range]
    simp at hj
    exact ⟨hij, hj⟩
theorem namesOf_succ (b : Int) (m : Nat) : namesOf b (m + 1) = namesOf b m ++ [nameOf b m] := by
  unfold namesOf
  rw [List.range_succ, List.map_append]
  rfl
theorem namesOf_len (b : Int) (m : Nat) : (namesOf b m).length = m := by unfold namesOf; simp
theorem namesOf_at {b : Int} {m i : Nat} (h : i < m) : (namesOf b m)[i]? = some (nameOf b i) := by
  unfold namesOf
  rw [List.getElem?_map, List.getElem?_range h]
  rfl
end Nt
namespace V2
open PySem L2
noncomputable def top (i : Nat) : Stmt := PySem.Challenge.pw_threewebs_k62_out_and_shrunk_summed.main.body.getD i (.Pass ⟨0, 0, 0, 0⟩)
noncomputable abbrev s_points_of : Stmt := top 1
noncomputable abbrev sLinks : Stmt := top 2
noncomputable abbrev s_tree_count : Stmt := top 4
noncomputable abbrev s_tie_table : Stmt := top 5
noncomputable abbrev s_determinant : Stmt := top 6
noncomputable abbrev sCell : Stmt := top 8
noncomputable abbrev sBig : Stmt := top 9
noncomputable abbrev sNames : Stmt := top 10
noncomputable abbrev sSeats : Stmt := top 11
noncomputable abbrev sOther : Stmt := top 12
noncomputable abbrev sStep : Stmt := top 13
noncomputable abbrev sFace : Stmt := top 14
noncomputable abbrev sPut : Stmt := top 15
noncomputable abbrev sNet : Stmt := top 16
noncomputable abbrev s_l_ties : Stmt := top 17
noncomputable abbrev s_l_hangs : Stmt := top 18
noncomputable abbrev s_l_out : Stmt := top 19
noncomputable abbrev s_l_shrink : Stmt := top 20
noncomputable abbrev s_l_sort : Stmt := top 21
noncomputable abbrev s_l_whole : Stmt := top 22
noncomputable abbrev sLaw : Stmt := top 23
structure Txt (mg : Str → Option Value) : Prop where
  isi : mg "isinstance" = none
  ttuple : mg "tuple" = none
  tstr : mg "str" = none
  tint : mg "int" = none
  tbool : mg "bool" = none
  tlist : mg "list" = none
  tdict : mg "dict" = none
  tset : mg "set" = none
  enum : mg "enumerate" = none
  zip : mg "zip" = none
  len : mg "len" = none
  range : mg "range" = none
  sorted : mg "sorted" = none
  max : mg "max" = none
  all : mg "all" = none
end V2
namespace V2
open PySem L2 Nt Sort2
theorem small {n : Nat} (h : n ≤ 100000) : n ≤ sizeLine := by rw [sizeLine_eq]; omega
theorem small' {n : Nat} (h : n ≤ 100000) : n < sizeLine := by rw [sizeLine_eq]; omega
theorem same_new {H : Hp} {p : Addr} (h : H p = none) (o : HO) : Same H (upd H p o) := fun b u q => by rw [upd_ne (ne_of_none q h)]; exact q
theorem same_mut {H1 H2 : Hp} {r : Addr} {o : HO} (s : Same H1 H2) (h : H1 r = none) : Same H1 (upd H2 r o) := fun b u q => by
  rw [upd_ne (ne_of_none q h)]
  exact s _ _ q
theorem ls_app {H : Hp} {l : Addr} {zs : List Str} {y : Str} : upd H l (.lst (zs.map V.str ++ [V.str y])) = upd H l (Ls (zs ++ [y])) := by
  show _ = upd H l (.lst ((zs ++ [y]).map V.str))
  rw [List.map_append]
  rfl
noncomputable def spCell (K : PySem.W.Frag) : Sp := fun vs H Q _ => ∃ (a : Addr) (ns : List Int) (k : Int), vs = [.ref a, .int k] ∧ SqL K H a (ns.map V.int) ∧ 0 ≤ k ∧ ∀ i, Q (.int i) H
noncomputable def spBig (K : PySem.W.Frag) : Sp := fun vs H Q _ => ∃ (a : Addr) (ns : List Int) (k : Int), vs = [.ref a, .int k] ∧ SqL K H a (ns.map V.int) ∧ 0 ≤ k ∧ ∀ i H', Same H H' → Q (.int i) H'
noncomputable def spNames : Sp := fun vs H Q _ => ∃ (b m : Int), vs = [.int b, .int m] ∧ 0 ≤ m ∧ m ≤ 36 ∧ ∀ l H', Same H H' → H l = none → H' l = some (Ls (namesOf b m.toNat)) → Q (.ref l) H'
noncomputable def spSeats : Sp := fun vs H Q _ => ∃ (R : Addr) (as : List (Addr × Addr)) (n : Net), vs = [.ref R] ∧ RowsAt H R as n ∧ n.length ≤ 1000 ∧ (ties n).length ≤ 1000 ∧ ∀ d ks H', Same H H' → H d = none → SeatsAt H' d n ks → Q (.ref d) H'
noncomputable def spOther : Sp := fun vs H Q _ => ∃ (R d t : Addr) (as : List (Addr × Addr)) (n : Net) (ks : List Str) (e : Nt.End), vs = [.ref R, .ref d, .ref t] ∧ RowsAt H R as n ∧ SeatsAt H d n ks ∧ Twice n ∧ H t = some (Tp e) ∧ e ∈ ends n ∧ ∀ u, H u = some (Tp (other n e)) → Q (.ref u) H
noncomputable def spStep : Sp := fun vs H Q _ => ∃ (R d t : Addr) (as : List (Addr × Addr)) (n : Net) (ks : List Str) (e : Nt.End), vs = [.ref R, .ref d, .ref t, .int 1] ∧ RowsAt H R as n ∧ SeatsAt H d n ks ∧ Twice n ∧ H t = some (Tp e) ∧ e ∈ ends n ∧ ∀ u H', Same H H' → H u = none → H' u = some (Tp (step n e)) → Q (.ref u) H'
noncomputable def spFace : Sp := fun vs H Q _ => ∃ (R d t : Addr) (as : List (Addr × Addr)) (n : Net) (ks : List Str) (e : Nt.End), vs = [.ref R, .ref d, .ref t] ∧ RowsAt H R as n ∧ SeatsAt H d n ks ∧ Twice n ∧ H t = some (Tp e) ∧ e ∈ ends n ∧ (ends n).length ≤ 1000 ∧
  ∀ l ts fs H', Same H H' → H l = none → H' l = some (.lst (ts.map V.ref)) → Pd H' ts fs → IsFace n e fs → Q (.ref l) H'
section
variable {P : Program} {w : World} {K : PySem.W.Frag} {mg : Str → Option Value} {base : Heap}
theorem scCell : FnScope ["_law_script", "_law_k"] ["_law_script", "_law_k"] (defScope sCell) := ⟨rfl, rfl, rfl, by decide +kernel, rfl, by decide +kernel, by decide +kernel⟩
theorem at_ints {ns : List Int} {k : Int} (h0 : 0 ≤ k) (h1 : k < (ns.length : Int)) : ∃ v : Int, atI (ns.map V.int) k = some (.int v) := by
  have hj : k.toNat < ns.length := by omega
  have q := atI_nat (xs := ns.map V.int) (j := k.toNat) (v := .int ns[k.toNat]) (by simp [hj])
  rw [show ((k.toNat : Nat) : Int) = k by omega] at q
  exact ⟨_, q⟩
theorem ok_cell {f : Addr} {fd : FuncData} (F : Fun K "_law_cell_at" "_law_cell_at" sCell f fd) (T : Txt mg) : FnOk P w K mg base CX0 1 f fd ["_law_script", "_law_k"] (spCell K) := by
  refine F.gb scCell (fun vs H Q E h => ?_) (fun b0 H vs Q E hr h => ?_)
  · obtain ⟨a, ns, k, rfl, _⟩ := h
    rfl
  obtain ⟨a, ns, k, rfl, hS, h0, q⟩ := h
  show Run _ _ _ [some (.ref a), some (.int k)] H
  refine run_if (et_cmp op_lt (ev_v 1 (ev_blt call_len_seq T.len boot_len (ea_cons (ev_v 0 (ea_nil ⟨a, _, rfl, .inl hS, _, _, rfl, rfl, _, rfl, ?_⟩))))))
  refine ite2 (fun c => ?_) (fun c => ?_)
  · have c' := of_decide_eq_true c
    obtain ⟨v, hv⟩ := at_ints (ns := ns) h0 (by rw [List.length_map] at c'; exact c')
    exact run_ret (ev_ix ix_list (ev_v 0 (ev_v 1 ⟨a, _, _, .int v, rfl, rfl, hS, hv, q v⟩)))
  · exact run_nil (run_ret (ev_int (q 0)))
noncomputable abbrev bys : List V := [.int 48271, .int 69621, .int 16807, .int 39373, .int 21401, .int 60493, .int 87721, .int 31337]
noncomputable abbrev prs : List V := [.int 99991, .int 99989, .int 99971, .int 99961, .int 99929, .int 99923, .int 99907, .int 99901]
theorem eight {i : Int} (h0 : 0 ≤ i) (h1 : i < 8) : i = 0 ∨ i = 1 ∨ i = 2 ∨ i = 3 ∨ i = 4 ∨ i = 5 ∨ i = 6 ∨ i = 7 := by
  obtain ⟨k, rfl⟩ := Int.eq_ofNat_of_zero_le h0
  exact (by decide : ∀ k : Fin 8, (k.1 : Int) = 0 ∨ (k.1 : Int) = 1 ∨ (k.1 : Int) = 2 ∨ (k.1 : Int) = 3 ∨ (k.1 : Int) = 4 ∨ (k.1 : Int) = 5 ∨ (k.1 : Int) = 6 ∨ (k.1 : Int) = 7) ⟨k, Int.ofNat_lt.mp h1⟩
theorem at_bys {i : Int} (h0 : 0 ≤ i) (h1 : i < 8) : ∃ m : Int, atI bys i = some (.int m) ∧ 0 < m ∧ m < 100000 := by
  rcases eight h0 h1 with rfl | rfl | rfl | rfl | rfl | rfl | rfl | rfl <;> exact ⟨_, rfl, by decide, by decide⟩
theorem at_prs {i : Int} (h0 : 0 ≤ i) (h1 : i < 8) : ∃ m : Int, atI prs i = some (.int m) ∧ 0 < m ∧ m < 100000 := by
  rcases eight h0 h1 with rfl | rfl | rfl | rfl | rfl | rfl | rfl | rfl <;> exact ⟨_, rfl, by decide, by decide⟩
theorem scBig : FnScope ["_law_script", "_law_at", "_law_by", "_law_prime", "_law_cell", "_law_big_here", "_law_k", "_law_one"] ["_law_script", "_law_at"] (defScope sBig) := ⟨rfl, rfl, rfl, by decide +kernel, rfl, by decide +kernel, by decide +kernel⟩
theorem ok_big {f : Addr} {fd : FuncData} (F : Fun K "_law_big" "_law_big" sBig f fd) (T : Txt mg) (G : Has P w K mg base 1 "_law_cell_at" ["_law_script", "_law_k"] (spCell K)) :
    FnOk P w K mg base CX0 2 f fd ["_law_script", "_law_at"] (spBig K) := by
  refine F.gb scBig (fun vs H Q E h => ?_) (fun b0 H vs Q E hr h => ?_)
  · obtain ⟨a, ns, k, rfl, _⟩ := h
    rfl
  obtain ⟨a, ns, k, rfl, hS, h0, q⟩ := h
  have nd := scBig.nd
  show Run _ _ _ [some (.ref a), some (.int k), none, none, none, none, none, none] H
  refine run_set 2 nd (ev_tup (ea_cons (ev_int (ea_cons (ev_int (ea_cons (ev_int (ea_cons (ev_int (ea_cons (ev_int (ea_cons (ev_int (ea_cons (ev_int (ea_cons (ev_int (ea_nil ⟨(by show 8 ≤ sizeLine; decide), fun p hp => ?_⟩))))))))))))))))))
  refine run_set 3 nd (ev_tup (ea_cons (ev_int (ea_cons (ev_int (ea_cons (ev_int (ea_cons (ev_int (ea_cons (ev_int (ea_cons (ev_int (ea_cons (ev_int (ea_cons (ev_int (ea_nil ⟨(by show 8 ≤ sizeLine; decide), fun p2 hp2 => ?_⟩))))))))))))))))))
  have npp : p ≠ p2 := by
    intro e
    rw [← e, upd_same] at hp2
    cases hp2
  have s1 : Same H (upd H p (.tup bys)) := same_new hp _
  have s2 : Same H (upd (upd H p (.tup bys)) p2 (.tup prs)) := s1.trans (same_new hp2 _)
  have e1 : (upd (upd H p (.tup bys)) p2 (.tup prs)) p = some (.tup bys) := by rw [upd_ne npp, upd_same]
  have e2 : (upd (upd H p (.tup bys)) p2 (.tup prs)) p2 = some (.tup prs) := upd_same
  generalize upd (upd H p (.tup bys)) p2 (.tup prs) = H2 at s2 e1 e2 ⊢
  refine run_set 4 nd (ev_has G hr (ea_cons (ev_v 0 (ea_cons (ev_v 1 (ea_nil ⟨a, ns, k, rfl, s2.seq hS, h0, fun b => ?_⟩))))))
  show Run _ _ _ [some (.ref a), some (.int k), some (.ref p), some (.ref p2), some (.int b), none, none, none] H2
  refine run_ifJ True True (fun R qq => ?_) (fun _ => ?_) (fun _ => run_nil ?_)
  · refine et_bool (ew_and (et_cmp op_eq (ev_op op_mod (ev_v 4 (ev_int ⟨_, _, rfl, rfl, (by show (0 : Int) < 2; decide), ev_int ⟨rfl, _, rfl, ?_⟩⟩)))))
    refine ite2 (fun c => ?_) (fun c => qq false (fun z => nomatch z) fun _ => trivial)
    exact ew_and1 (et_cmp op_gt (ev_v 4 (ev_op op_pow (ev_int (ev_int ⟨_, _, rfl, rfl, ⟨by decide, by decide, by decide⟩, _, _, rfl, rfl, _, rfl, qq _ (fun _ => trivial) fun _ => trivial⟩)))))
  · exact run_ret (ev_op op_fdiv (ev_v 4 (ev_int ⟨_, _, rfl, rfl, ⟨by decide, by decide⟩, q _ _ s2⟩)))
  refine run_set 5 nd (ev_int ?_)
  refine run_forR1 T.range (ev_int ⟨60, rfl, by decide, by decide, loop_range (n := 60) (fun _ σ H3 => H3 = H2 ∧ ∃ (x : Int) (u v : Option V), σ = [some (.ref a), some (.int k), some (.ref p), some (.ref p2), some (.int b), some (.int x), u, v]) ⟨rfl, 0, _, _, rfl⟩ ?_ ?_⟩)
  · rintro i σ H3 hi ⟨rfl, x, u, v, rfl⟩
    have i9 : 0 ≤ (0 + (i : Int)) % 9 := Int.emod_nonneg _ (by decide)
    obtain ⟨m1, f1, g1, g2⟩ := at_bys (i := (0 + (i : Int)) % 8) (Int.emod_nonneg _ (by decide)) (Int.emod_lt_of_pos _ (by decide))
    obtain ⟨m2, f2, g3, g4⟩ := at_prs (i := (0 + (i : Int)) % 8) (Int.emod_nonneg _ (by decide)) (Int.emod_lt_of_pos _ (by decide))
    refine eg_name 6 nd ?_
    refine run_set 7 nd (ev_op op_add (ev_op op_add (ev_op op_mod (ev_has G hr (ea_cons (ev_v 0 (ea_cons (ev_op op_add (ev_v 1 (ev_op op_mod (ev_v 6 (ev_int ?_))))))))))))
    refine ⟨_, _, rfl, rfl, (by show (0 : Int) < 9; decide), _, _, rfl, rfl, ea_nil ⟨a, ns, _, rfl, s2.seq hS, ?_, fun c => ?_⟩⟩
    · show 0 ≤ k + (0 + (i : Int)) % 9
      omega
    refine ev_op op_pow (ev_int (ev_int ⟨_, _, rfl, rfl, ⟨by decide, by decide, by decide⟩, _, _, rfl, rfl, (by show (0 : Int) < 10 ^ (18 : Int).toNat; decide), ev_int ⟨_, _, rfl, rfl, ?_⟩⟩))
    refine ev_op op_mul (ev_v 6 (ev_v 6 ?_))
    refine ⟨_, _, rfl, rfl, .inl ⟨by omega, by omega⟩, _, _, rfl, rfl, ?_⟩
    refine run_set 5 nd (ev_op op_add (ev_op op_mul (ev_v 5 (ev_int ⟨_, _, rfl, rfl, .inr ⟨by decide, by decide⟩, ?_⟩))))
    refine ev_op op_mod (ev_op op_mod (ev_op op_mul (ev_v 7 (ev_ix ix_tup (ev_v 2 (ev_op op_mod (ev_v 6 (ev_int ⟨_, _, rfl, rfl, (by show (0 : Int) < 8; decide), p, _, _, _, rfl, rfl, SqT.of e1, f1, _, _, rfl, rfl, .inr ⟨by omega, by omega⟩, ?_⟩))))))))
    refine ev_ix ix_tup (ev_v 3 (ev_op op_mod (ev_v 6 (ev_int ⟨_, _, rfl, rfl, (by show (0 : Int) < 8; decide), p2, _, _, _, rfl, rfl, SqT.of e2, f2, _, _, rfl, rfl, g3, ev_int ⟨_, _, rfl, rfl, (by show (0 : Int) < 7919; decide), _, _, rfl, rfl, ?_⟩⟩))))
    exact run_nil ⟨rfl, _, _, _, rfl⟩
  · rintro σ H3 ⟨rfl, x, u, v, rfl⟩
    exact run_ret (ev_v 5 (q x _ s2))
noncomputable abbrev NN : List Str := ["_law_stem", "_law_many", "_law_signs", "_law_size", "_law_spot", "_law_names_here", "_law_v", "_law_name", "_law_k", "_law_turn"]
theorem scNames : FnScope NN ["_law_stem", "_law_many"] (defScope sNames) := ⟨rfl, rfl, rfl, by decide +kernel, rfl, by decide +kernel, by decide +kernel⟩
theorem ok_names {f : Addr} {fd : FuncData} (F : Fun K "_law_names" "_law_names" sNames f fd) (T : Txt mg) : FnOk P w K mg base CX0 1 f fd ["_law_stem", "_law_many"] spNames := by
  refine F.gb scNames (fun vs H Q E h => ?_) (fun b0 H vs Q E hr h => ?_)
  · obtain ⟨b, m, rfl, _⟩ := h
    rfl
  obtain ⟨b, m, rfl, m0, m1, q⟩ := h
  have nd := scNames.nd
  have s0 : 0 ≤ b % 8 := Int.emod_nonneg _ (by decide)
  have s1 : b % 8 < 8 := Int.emod_lt_of_pos _ (by decide)
  show Run _ _ _ [some (.int b), some (.int m), none, none, none, none, none, none, none, none] H
  refine run_set 2 nd (ev_str ?_)
  refine run_set 3 nd (ev_op op_add (ev_int (ev_op op_mod (ev_v 0 (ev_int ⟨_, _, rfl, rfl, (by show (0 : Int) < 8; decide), _, _, rfl, rfl, ?_⟩)))))
  refine run_set 4 nd (ev_op op_mod (ev_op op_fdiv (ev_v 0 (ev_int ⟨_, _, rfl, rfl, ⟨by decide, by decide⟩, ev_v 3 ⟨_, _, rfl, rfl, (by show 0 < 1 + b % 8; omega), ?_⟩⟩))))
  refine run_set 5 nd (ev_lst (ea_nil ⟨(by show 0 ≤ sizeLine; decide), fun l hl => ?_⟩))
  show Run _ _ _ [some (.int b), some (.int m), some (.str lets), some (.int (1 + b % 8)), some (.int (b / 8 % (1 + b % 8))), some (.ref l), none, none, none, none] _
  have spE : b / 8 % (1 + b % 8) = b / 8 % (1 + b % 8) := rfl
  refine run_forR1 T.range (ev_v 1 ⟨m, rfl, by omega, by omega, loop_range (n := m.toNat) (fun i σ H3 => H3 = upd H l (Ls (namesOf b i)) ∧ ∃ u1 u2 u3 u4, σ = [some (.int b), some (.int m), some (.str lets), some (.int (1 + b % 8)), some (.int (b / 8 % (1 + b % 8))), some (.ref l), u1, u2, u3, u4]) ⟨rfl, _, _, _, _, rfl⟩ ?_ ?_⟩)
  · rintro i σ H3 hi ⟨rfl, u1, u2, u3, u4, rfl⟩
    refine eg_name 6 nd ?_
    refine run_set 7 nd (ev_str ?_)
    refine run_forR1 T.range (ev_v 3 ⟨_, rfl, by omega, by omega, loop_range (n := (1 + b % 8).toNat) (fun j σ H4 => H4 = upd H l (Ls (namesOf b i)) ∧ ∃ (u3 u4 : Option V), σ = [some (.int b), some (.int m), some (.str lets), some (.int (1 + b % 8)), some (.int (b / 8 % (1 + b % 8))), some (.ref l), some (.int (0 + (i : Int))), some (.str (nm b (b / 8 % (1 + b % 8)) i j)), u3, u4]) ⟨rfl, _, _, rfl⟩ ?_ ?_⟩)
    · rintro j σ H4 hj ⟨rfl, v3, v4, rfl⟩
      have t0 : 0 ≤ b / 7 % 5 := Int.emod_nonneg _ (by decide)
      have t1 : b / 7 % 5 < 5 := Int.emod_lt_of_pos _ (by decide)
      have nl : (nm b (b / 8 % (1 + b % 8)) i j).length = j := by
        have := congrArg List.length (nm_list b (b / 8 % (1 + b % 8)) i j)
        show (nm b (b / 8 % (1 + b % 8)) i j).cps.size = j
        simpa using this
      refine eg_name 8 nd ?_
      refine run_set 9 nd (ev_op op_add (ev_op op_fdiv (ev_v 0 (ev_int ⟨_, _, rfl, rfl, ⟨by decide, by decide⟩, ev_op op_mul (ev_v 8 (ev_op op_mod (ev_op op_fdiv (ev_v 0 (ev_int ⟨_, _, rfl, rfl, ⟨by decide, by decide⟩, ev_int ⟨_, _, rfl, rfl, (by show (0 : Int) < 5; decide), ?_⟩⟩)))))⟩))))
      refine ⟨_, _, rfl, rfl, .inr ⟨by omega, by omega⟩, _, _, rfl, rfl, ?_⟩
      refine run_ifM ((0 + (j : Int)) = b / 8 % (1 + b % 8)) (¬ (0 + (j : Int)) = b / 8 % (1 + b % 8)) (fun σ' H' => H' = upd H l (Ls (namesOf b i)) ∧ σ' = [some (.int b), some (.int m), some (.str lets), some (.int (1 + b % 8)), some (.int (b / 8 % (1 + b % 8))), some (.ref l), some (.int (0 + (i : Int))), some (.str (nm b (b / 8 % (1 + b % 8)) i j)), some (.int (0 + (j : Int))), some (.int (turn b (b / 8 % (1 + b % 8)) i j))]) (fun R qq => ?_) (fun hc => ?_) (fun hc => run_nil ⟨rfl, ?_⟩) ?_
      · refine et_cmp op_eq (ev_v 8 (ev_v 4 ⟨rfl, _, rfl, ?_⟩))
        by_cases hc : (0 + (j : Int)) = b / 8 % (1 + b % 8)
        · rw [decide_eq_true (show V.int (0 + (j : Int)) = V.int (b / 8 % (1 + b % 8)) by rw [hc])]
          exact qq true (fun _ => hc) fun h => by cases h
        · rw [decide_eq_false fun h => hc (V.int.inj h)]
          exact qq false (fun h => by cases h) fun _ => hc
      · refine run_set 9 nd (ev_op op_add (ev_v 9 (ev_v 6 ⟨_, _, rfl, rfl, run_nil ⟨rfl, ?_⟩⟩)))
        have e : b / 64 + (0 + (j : Int)) * (b / 7 % 5) + (0 + (i : Int)) = turn b (b / 8 % (1 + b % 8)) i j := by
          unfold turn
          rw [if_pos (by omega), Int.zero_add, Int.zero_add]
        rw [← e]
        rfl
      · have e : b / 64 + (0 + (j : Int)) * (b / 7 % 5) = turn b (b / 8 % (1 + b % 8)) i j := by
          unfold turn
          rw [if_neg (by omega), Int.zero_add, Int.add_zero]
        rw [← e]
        rfl
      · rintro σ' H' ⟨rfl, rfl⟩
        refine run_set 7 nd (ev_op op_add_str (ev_v 7 (ev_ix ix_str (ev_v 2 (ev_op op_mod (ev_v 9 (ev_int ⟨_, _, rfl, rfl, (by show (0 : Int) < 36; decide), lets, _, sgn (turn b (b / 8 % (1 + b % 8)) i j), rfl, rfl, by decide +kernel, sgn_at _, _, _, rfl, rfl, small (by show (nm b (b / 8 % (1 + b % 8)) i j).length + 1 ≤ 100000; omega), run_nil ⟨rfl, _, _, rfl⟩⟩)))))))
    · rintro σ H4 ⟨rfl, v3, v4, rfl⟩
      refine run_ifM (b % 3 = 2) (¬ b % 3 = 2) (fun σ' H' => H' = upd H l (Ls (namesOf b i)) ∧ σ' = [some (.int b), some (.int m), some (.str lets), some (.int (1 + b % 8)), some (.int (b / 8 % (1 + b % 8))), some (.ref l), some (.int (0 + (i : Int))), some (.str (nameOf b i)), v3, v4]) (fun R qq => ?_) (fun hc => ?_) (fun hc => run_nil ⟨rfl, ?_⟩) ?_
      · refine et_cmp op_eq (ev_op op_mod (ev_v 0 (ev_int ⟨_, _, rfl, rfl, (by show (0 : Int) < 3; decide), ev_int ⟨rfl, _, rfl, ?_⟩⟩)))
        by_cases hc : b % 3 = 2
        · rw [decide_eq_true (show V.int (b % 3) = V.int 2 by rw [hc])]
          exact qq true (fun _ => hc) fun h => by cases h
        · rw [decide_eq_false fun h => hc (V.int.inj h)]
          exact qq false (fun h => by cases h) fun _ => hc
      · have e0 : 0 ≤ (0 + (i : Int)) % 8 := Int.emod_nonneg _ (by decide)
        have e1 : (0 + (i : Int)) % 8 < 8 := Int.emod_lt_of_pos _ (by decide)
        refine run_set 7 nd (ev_op op_repS (ev_ix ix_str (ev_v 2 (ev_op op_mod (ev_op op_add (ev_op op_fdiv (ev_v 0 (ev_int ⟨_, _, rfl, rfl, ⟨by decide, by decide⟩, ev_op op_fdiv (ev_v 6 (ev_int ⟨_, _, rfl, rfl, ⟨by decide, by decide⟩, _, _, rfl, rfl, ev_int ⟨_, _, rfl, rfl, (by show (0 : Int) < 36; decide), lets, _, sgn (b / 64 + (0 + (i : Int)) / 8), rfl, rfl, by decide +kernel, sgn_at _, ?_⟩⟩))⟩))))))))
        refine ev_op op_add (ev_int (ev_op op_mod (ev_v 6 (ev_int ⟨_, _, rfl, rfl, (by show (0 : Int) < 8; decide), _, _, rfl, rfl, ?_⟩))))
        refine ⟨_, _, rfl, rfl, by omega, by omega, ?_, run_nil ⟨rfl, ?_⟩⟩
        · show 1 * _ ≤ _
          omega
        · have e : Txt.mul ⟨#[sgn (b / 64 + (0 + (i : Int)) / 8)]⟩ (1 + (0 + (i : Int)) % 8) = nameOf b i := by
            unfold nameOf
            rw [if_pos hc, Int.zero_add]
          rw [← e]
          rfl
      · have e : nm b (b / 8 % (1 + b % 8)) i (1 + b % 8).toNat = nameOf b i := by
          unfold nameOf
          rw [if_neg hc]
        rw [← e]
      · rintro σ' H' ⟨rfl, rfl⟩
        refine run_expr (ev_append (ev_v 5 ⟨l, rfl, ⟨_, upd_same⟩, ev_v 7 ⟨_, upd_same, ?_, ?_⟩⟩))
        · rw [List.length_map, namesOf_len]
          exact small' (by omega)
        · rw [upd_upd]
          refine run_nil ⟨?_, _, _, _, _, rfl⟩
          rw [namesOf_succ]
          exact ls_app
  · rintro σ H3 ⟨rfl, u1, u2, u3, u4, rfl⟩
    exact run_ret (ev_v 5 (q l _ (same_new hl _) hl upd_same))
end
end V2
namespace V2
open PySem L2 Nt Sort2
section
variable {P : Program} {w : World} {K : PySem.W.Frag} {mg : Str → Option Value} {base : Heap}
theorem ty_dK {H : Hp} {d : Addr} {kvs : List (Key × V)} (h : H d = some (.dK kvs)) : tyV K "dict" (.ref d) H := Or.inr (Or.inr (Or.inl ⟨rfl, Or.inl ⟨kvs, h⟩⟩))
noncomputable abbrev NS : List Str := ["_law_rows", "_law_seats_here", "_law_r", "_law_place"]
theorem scSeats : FnScope NS ["_law_rows"] (defScope sSeats) := ⟨rfl, rfl, rfl, by decide +kernel, rfl, by decide +kernel, by decide +kernel⟩
theorem ok_seats {f : Addr} {fd : FuncData} (F : Fun K "_law_seats" "_law_seats" sSeats f fd) (T : Txt mg) : FnOk P w K mg base CX0 1 f fd ["_law_rows"] spSeats := by
  refine F.gb scSeats (fun vs H Q E h => ?_) (fun b0 H vs Q E hr h => ?_)
  · obtain ⟨R, as, n, rfl, _⟩ := h
    rfl
  obtain ⟨R, as, n, rfl, hR, hn, ht, q⟩ := h
  have nd := scSeats.nd
  have hal := hR.len
  show Run _ _ _ [some (.ref R), none, none, none] H
  refine run_set 1 nd (ev_dnewK fun d hd => ?_)
  refine run_forR1 T.range (ev_blt call_len_seq T.len boot_len (ea_cons (ev_v 0 (ea_nil ⟨R, _, rfl, .inl (SqL.of (same_new hd _ _ _ hR.lst)), _, rfl, by omega, by rw [List.length_map]; omega, ?_⟩))))
  rw [List.length_map, hal, Int.toNat_natCast]
  refine loop_range (fun r σ H3 => ∃ kvs ks A u1 u2, SeatsOn H H3 d (seats (n.take r)) kvs ks A ∧ σ = [some (.ref R), some (.ref d), u1, u2]) ⟨_, _, _, _, _, SeatsOn.start hd, rfl⟩ ?_ ?_
  · rintro r σ H3 hi ⟨kvs, ks, A', u1, u2, S, rfl⟩
    rw [Int.zero_add]
    refine eg_name 2 nd ?_
    obtain ⟨a, ea, eat, et, el, er⟩ := (hR.same S.same).at hi
    refine run_forR1 T.range (ev_blt call_len_seq T.len boot_len (ea_cons (ev_ix ix_tup (ev_ix ix_list (ev_v 0 (ev_v 2 ⟨R, _, _, .ref a.1, rfl, rfl, SqL.of (S.same _ _ hR.lst), eat, ev_int ⟨a.1, _, _, .ref a.2, rfl, rfl, SqT.of et, rfl, ea_nil ⟨a.2, _, rfl, .inl (SqL.of el), _, rfl, by omega, ?_, ?_⟩⟩⟩))))))
    · have : (row n r).length ≤ 1000 := by
        have h1 : (row n r).length ≤ (ties n).length := by
          exact row_le n r
        omega
      rw [List.length_map]
      omega
    rw [List.length_map, Int.toNat_natCast]
    refine loop_range (fun p σ H4 => ∃ kvs ks A u2, SeatsOn H H4 d (seats (n.take r) ++ rowSeats r ((row n r).take p) 0) kvs ks A ∧ σ = [some (.ref R), some (.ref d), some (.int (r : Int)), u2]) ⟨kvs, ks, A', _, by simpa [rowSeats] using S, rfl⟩ ?_ ?_
    · rintro p σ H4 hp ⟨kvs, ks, A', u2, S, rfl⟩
      rw [Int.zero_add]
      refine eg_name 3 nd ?_
      obtain ⟨a, ea, eat, et, el, er⟩ := (hR.same S.same).at hi
      have hz : (row n r)[p]? = some (row n r)[p] := List.getElem?_eq_getElem hp
      generalize (row n r)[p] = z at hz
      have next : seats (n.take r) ++ rowSeats r ((row n r).take (p + 1)) 0 = (seats (n.take r) ++ rowSeats r ((row n r).take p) 0) ++ [(z, (r, p))] := by
        rw [rowSeats_take hz, List.append_assoc]
      have hlen : kvs.length < sizeLine := by
        have h1 : ks.length ≤ 1000 := by
          refine Nat.le_trans (nodup_le (b := ties n) S.nodup fun y hy => ?_) ht
          have h2 := (S.mem y).mp hy
          cases hA : A' y with
          | none => rw [hA] at h2; cases h2
          | some pr =>
            obtain ⟨a2, ts2⟩ := pr
            have h3 := S.some' y a2 ts2 hA
            unfold posIn at h3
            obtain ⟨x, hx⟩ := List.exists_mem_of_ne_nil _ h3
            obtain ⟨⟨y2, e2⟩, hm, _⟩ := List.mem_map.mp hx
            rw [List.mem_filter, decide_eq_true_eq] at hm
            obtain ⟨hm, rfl⟩ := hm
            have : (y2, e2) ∈ seats n := by
              rcases List.mem_append.mp hm with hm | hm
              · have q1 := mem_seats.mp hm
                refine mem_seats.mpr ?_
                have q2 := row_lt q1
                unfold tieAt row at q1 ⊢
                rw [List.length_take] at q2
                rwa [List.getElem?_take_of_lt (by omega)] at q1
              · have q1 := mem_rowSeats.mp hm
                refine mem_seats.mpr ?_
                unfold tieAt
                rw [q1.1]
                have q3 := q1.2.2
                rw [Nat.sub_zero] at q3
                have q4 := (List.getElem?_eq_some_iff.mp q3).1
                rw [List.length_take] at q4
                rwa [List.getElem?_take_of_lt (by omega)] at q3
            exact tie_mem (mem_seats.mp this)
        have h2 := congrArg List.length S.keys
        rw [List.length_map, List.length_map] at h2
        exact small' (by omega)
      refine run_expr (ev_append (ev_m2 PySem.F.plainAttrs_dict PySem.F.slot_dict_setdefault PySem.F.type_dict_setdefault mt_setdef (ev_v 1 ⟨ty_dK S.dict, ev_ix ix_list (ev_ix ix_tup (ev_ix ix_list (ev_v 0 (ev_v 2 ⟨R, _, _, .ref a.1, rfl, rfl, SqL.of (S.same _ _ hR.lst), eat, ev_int ⟨a.1, _, _, .ref a.2, rfl, rfl, SqT.of et, rfl, ev_v 3 ⟨a.2, _, _, .str z, rfl, rfl, SqL.of el, at_strs hz, ?_⟩⟩⟩))))⟩)))
      refine ev_lst (ea_nil ⟨(by show 0 ≤ sizeLine; decide), fun l0 hl0 => ?_⟩)
      have hdl : d ≠ l0 := ne_of_none S.dict hl0
      refine ⟨d, kvs, Sum.inr z, .ref l0, rfl, rfl, by rw [upd_ne hdl]; exact S.dict, hlen, ?_⟩
      cases hA : A' z with
      | some pr =>
        obtain ⟨a2, ts2⟩ := pr
        obtain ⟨q1, q2, q3, q4⟩ := S.at' z a2 ts2 hA
        have hla : a2 ≠ l0 := ne_of_none q3 hl0
        refine .inl ⟨.ref a2, by rw [S.val z, hA]; rfl, a2, rfl, ⟨_, by rw [upd_ne hla]; exact q3⟩, ?_⟩
        refine ev_tup (ea_cons (ev_v 2 (ea_cons (ev_v 3 (ea_nil ⟨(by show 2 ≤ sizeLine; decide), fun t ht2 => ?_⟩)))))
        have hta : a2 ≠ t := fun e => by rw [← e, upd_ne hla, q3] at ht2; cases ht2
        refine ⟨ts2.map V.ref, by rw [upd_ne hta, upd_ne hla]; exact q3, ?_, ?_⟩
        · rw [List.length_map, q4.length]
          have h1 : (posIn (seats (n.take r) ++ rowSeats r ((row n r).take p) 0) z).length ≤ 100000 := by
            unfold posIn
            rw [List.length_map]
            refine Nat.le_trans (List.length_filter_le _ _) ?_
            rw [List.length_append]
            have h2 : (seats (n.take r)).length ≤ 1000 := by
              have := congrArg List.length (seats_names (n.take r) 0)
              rw [List.length_map] at this
              unfold seats
              rw [this]
              exact Nat.le_trans (ties_take_le n r) ht
            have h3 : (rowSeats r ((row n r).take p) 0).length ≤ 1000 := by
              unfold rowSeats
              rw [List.length_map, List.length_zipIdx, List.length_take]
              have h1 : (row n r).length ≤ (ties n).length := by
                exact row_le n r
              omega
            omega
          exact small' h1
        · refine run_nil ⟨kvs, ks, (fun y => if y = z then some (a2, ts2 ++ [t]) else A' y), _, ?_, rfl⟩
          rw [next]
          exact S.old (e := (r, p)) hA hl0 ht2
      | none =>
        refine .inr ⟨by rw [S.val z, hA]; rfl, l0, rfl, ⟨_, by rw [upd_ne hdl.symm]; exact upd_same⟩, ?_⟩
        refine ev_tup (ea_cons (ev_v 2 (ea_cons (ev_v 3 (ea_nil ⟨(by show 2 ≤ sizeLine; decide), fun t ht2 => ?_⟩)))))
        have htl : l0 ≠ t := fun e => by rw [← e, upd_ne hdl.symm, upd_same] at ht2; cases ht2
        refine ⟨[], by rw [upd_ne htl, upd_ne hdl.symm, upd_same], by show 0 < sizeLine; decide, ?_⟩
        refine run_nil ⟨putK kvs (Sum.inr z) (.ref l0), ks ++ [z], (fun y => if y = z then some (l0, [t]) else A' y), _, ?_, rfl⟩
        rw [next]
        exact S.new (e := (r, p)) hA hl0 ht2
    · rintro σ H4 ⟨kvs, ks, A', u2, S, rfl⟩
      refine run_nil ⟨kvs, ks, A', _, _, ?_, rfl⟩
      rw [seats_take hi]
      rwa [List.take_length] at S
  · rintro σ H3 ⟨kvs, ks, A', u1, u2, S, rfl⟩
    rw [List.take_length] at S
    exact run_ret (ev_v 1 (q d ks H3 S.same S.free S.whole))
noncomputable abbrev NO : List Str := ["_law_rows", "_law_seats_here", "_law_end", "_law_pair"]
theorem scOther : FnScope NO ["_law_rows", "_law_seats_here", "_law_end"] (defScope sOther) := ⟨rfl, rfl, rfl, by decide +kernel, rfl, by decide +kernel, by decide +kernel⟩
theorem ok_other {f : Addr} {fd : FuncData} (F : Fun K "_law_other" "_law_other" sOther f fd) (T : Txt mg) : FnOk P w K mg base CX0 1 f fd ["_law_rows", "_law_seats_here", "_law_end"] spOther := by
  refine F.gb scOther (fun vs H Q E h => ?_) (fun b0 H vs Q E hr h => ?_)
  · obtain ⟨R, d, t, as, n, ks, e, rfl, _⟩ := h
    rfl
  obtain ⟨R, d, t, as, n, ks, e, rfl, hR, hS, hT, ht, he, q⟩ := h
  have nd := scOther.nd
  have hu := hr.u100
  obtain ⟨z, hz⟩ := mem_ends.mp he
  have hlt := row_lt hz
  obtain ⟨a, ea, eat, et, el, er⟩ := hR.at hlt
  obtain ⟨kvs, h1, h2, h3⟩ := hS.dict
  obtain ⟨pa, ts, v1, v2, v3⟩ := h3 z (tie_mem hz)
  obtain ⟨x, y, hp, hxy, hor⟩ := pos_two hT hz
  rw [hp] at v3
  cases v3 with
  | cons x1 v3 =>
  cases v3 with
  | cons y1 v3 =>
  cases v3
  rename_i tx ty
  show Run _ _ _ [some (.ref R), some (.ref d), some (.ref t), none] H
  have hu1 := hr.u1
  refine run_set 3 nd (ev_dget hu1 (ev_v 1 (ev_ix ix_list (ev_ix ix_tup (ev_ix ix_list (ev_v 0 (ev_ix ix_tup (ev_v 2 (ev_int ⟨t, _, _, .int (e.1 : Int), rfl, rfl, SqT.of ht, rfl, R, _, _, .ref a.1, rfl, rfl, SqL.of hR.lst, eat, ev_int ⟨a.1, _, _, .ref a.2, rfl, rfl, SqT.of et, rfl, ?_⟩⟩)))))))))
  refine ev_ix ix_tup (ev_v 2 (ev_int ⟨t, _, _, .int (e.2 : Int), rfl, rfl, SqT.of ht, rfl, a.2, _, _, .str z, rfl, rfl, SqL.of el, at_strs hz, d, .ref pa, rfl, by rw [← v1]; exact DGet.k (k := Sum.inr z) h1, ?_⟩))
  show Run _ _ _ [some (.ref R), some (.ref d), some (.ref t), some (.ref pa)] H
  refine run_ret (ev_ix ix_list (ev_v 3 (ev_typ call_intB T.tint PyProof.Rows.boot_int (ea_cons (ev_cmp (op_eqD hu) (ev_ix ix_list (ev_v 3 (ev_int ⟨pa, _, _, .ref tx, rfl, rfl, SqL.of v2, rfl, ev_v 2 ⟨1, _, by decide, rcD_tp x1 ht, ?_⟩⟩))))))))
  by_cases c : x = e
  · rw [decide_eq_true c]
    refine ea_nil ⟨_, rfl, pa, [.ref tx, .ref ty], 1, .ref ty, rfl, rfl, SqL.of v2, rfl, q ty ?_⟩
    have e1 : other n e = y := by unfold other; simp only [hz, hp]; simp [c]
    rw [e1]
    exact y1
  · rw [decide_eq_false c]
    refine ea_nil ⟨_, rfl, pa, [.ref tx, .ref ty], 0, .ref tx, rfl, rfl, SqL.of v2, rfl, q tx ?_⟩
    have e1 : other n e = x := by unfold other; simp only [hz, hp]; simp [c]
    rw [e1]
    exact x1
noncomputable abbrev NT : List Str := ["_law_rows", "_law_seats_here", "_law_end", "_law_turn", "_law_other_here"]
theorem scStep : FnScope NT ["_law_rows", "_law_seats_here", "_law_end", "_law_turn"] (defScope sStep) := ⟨rfl, rfl, rfl, by decide +kernel, rfl, by decide +kernel, by decide +kernel⟩
theorem ok_step {f : Addr} {fd : FuncData} (F : Fun K "_law_step" "_law_step" sStep f fd) (T : Txt mg) (G : Has P w K mg base 1 "_law_other" ["_law_rows", "_law_seats_here", "_law_end"] spOther) :
    FnOk P w K mg base CX0 2 f fd ["_law_rows", "_law_seats_here", "_law_end", "_law_turn"] spStep := by
  refine F.gb scStep (fun vs H Q E h => ?_) (fun b0 H vs Q E hr h => ?_)
  · obtain ⟨R, d, t, as, n, ks, e, rfl, _⟩ := h
    rfl
  obtain ⟨R, d, t, as, n, ks, e, rfl, hR, hS, hT, ht, he, q⟩ := h
  have nd := scStep.nd
  have ho := other_end hT he
  obtain ⟨z, hz⟩ := mem_ends.mp ho
  have hlt := row_lt hz
  have hpl := end_lt hz
  obtain ⟨a, ea, eat, et, el, er⟩ := hR.at hlt
  show Run _ _ _ [some (.ref R), some (.ref d), some (.ref t), some (.int 1), none] H
  refine run_set 4 nd (ev_has G hr (ea_cons (ev_v 0 (ea_cons (ev_v 1 (ea_cons (ev_v 2 (ea_nil ⟨R, d, t, as, n, ks, e, rfl, hR, hS, hT, ht, he, fun u hu => ?_⟩))))))))
  show Run _ _ _ [some (.ref R), some (.ref d), some (.ref t), some (.int 1), some (.ref u)] H
  refine run_ret (ev_tup (ea_cons (ev_ix ix_tup (ev_v 4 (ev_int ⟨u, _, _, .int ((other n e).1 : Int), rfl, rfl, SqT.of hu, rfl, ?_⟩)))))
  refine ea_cons (ev_op op_mod (ev_op op_add (ev_ix ix_tup (ev_v 4 (ev_int ⟨u, _, _, .int ((other n e).2 : Int), rfl, rfl, SqT.of hu, rfl, ev_v 3 ⟨_, _, rfl, rfl, ?_⟩⟩)))))
  refine ev_blt call_len_seq T.len boot_len (ea_cons (ev_ix ix_tup (ev_ix ix_list (ev_v 0 (ev_ix ix_tup (ev_v 4 (ev_int ⟨u, _, _, .int ((other n e).1 : Int), rfl, rfl, SqT.of hu, rfl, R, _, _, .ref a.1, rfl, rfl, SqL.of hR.lst, eat, ev_int ⟨a.1, _, _, .ref a.2, rfl, rfl, SqT.of et, rfl, ea_nil ⟨a.2, _, rfl, .inl (SqL.of el), ?_⟩⟩⟩)))))))
  rw [List.length_map]
  refine ⟨_, _, rfl, rfl, by omega, ea_nil ⟨(by show 2 ≤ sizeLine; decide), fun p hp => ?_⟩⟩
  refine q p _ (same_new hp _) hp ?_
  rw [upd_same]
  unfold Nt.step Nt.left
  show some (HO.tup [.int ((other n e).1 : Int), .int ((((other n e).2 : Int) + 1) % ((row n (other n e).1).length : Int))]) = some (HO.tup [.int ((other n e).1 : Int), .int ((((other n e).2 + 1) % (row n (other n e).1).length : Nat) : Int)])
  rw [Int.natCast_emod]
  rfl
noncomputable abbrev NF : List Str := ["_law_rows", "_law_seats_here", "_law_end", "_law_face_here", "_law_here"]
theorem scFace : FnScope NF ["_law_rows", "_law_seats_here", "_law_end"] (defScope sFace) := ⟨rfl, rfl, rfl, by decide +kernel, rfl, by decide +kernel, by decide +kernel⟩
noncomputable def orb (n : Net) (e : Nt.End) (j : Nat) : List Nt.End := (List.range j).map fun i => it (step n) i e
theorem orb_succ (n : Net) (e : Nt.End) (j : Nat) : orb n e (j + 1) = orb n e j ++ [it (step n) j e] := by
  unfold orb
  rw [List.range_succ, List.map_append]
  rfl
theorem ok_face {f : Addr} {fd : FuncData} (F : Fun K "_law_face" "_law_face" sFace f fd) (T : Txt mg) (G : Has P w K mg base 2 "_law_step" ["_law_rows", "_law_seats_here", "_law_end", "_law_turn"] spStep) :
    FnOk P w K mg base CX0 3 f fd ["_law_rows", "_law_seats_here", "_law_end"] spFace := by
  refine F.gb scFace (fun vs H Q E h => ?_) (fun b0 H vs Q E hr h => ?_)
  · obtain ⟨R, d, t, as, n, ks, e, rfl, _⟩ := h
    rfl
  obtain ⟨R, d, t, as, n, ks, e, rfl, hR, hS, hT, ht, he, hb, q⟩ := h
  have nd := scFace.nd
  have hu := hr.u100
  obtain ⟨k, k0, k1, k2⟩ := comes_back (f := step n) (S := ends n) (fun a ha => step_end hT ha) (fun a ha b hb => step_inj hT ha hb) he
  show Run _ _ _ [some (.ref R), some (.ref d), some (.ref t), none, none] H
  refine run_set 3 nd (ev_lst (ea_cons (ev_v 2 (ea_nil ⟨(by show 1 ≤ sizeLine; decide), fun l hl => ?_⟩))))
  have g1 := same_new hl (.lst [.ref t])
  refine run_set 4 nd (ev_has G hr (ea_cons (ev_v 0 (ea_cons (ev_v 1 (ea_cons (ev_v 2 (ea_cons (ev_int (ea_nil ⟨R, d, t, as, n, ks, e, rfl, hR.same g1, hS.same g1, hT, g1 _ _ ht, he, fun u H1 s1 nu eu => ?_⟩))))))))))
  show Run _ _ _ [some (.ref R), some (.ref d), some (.ref t), some (.ref l), some (.ref u)] H1
  refine run_while (fun m σ H2 => ∃ (j : Nat) (ts : List Addr) (u : Addr), m = k - j ∧ 0 < j ∧ j ≤ k ∧ Same H H2 ∧ H2 l = some (.lst (ts.map V.ref)) ∧ Pd H2 ts (orb n e j) ∧ H2 u = some (Tp (it (step n) j e)) ∧ (∀ i, 0 < i → i < j → it (step n) i e ≠ e) ∧ σ = [some (.ref R), some (.ref d), some (.ref t), some (.ref l), some (.ref u)])
    (m0 := k - 1) ⟨1, [t], u, rfl, Nat.one_pos, k0, g1.trans s1, s1 _ _ upd_same, .cons (s1 _ _ (g1 _ _ ht)) .nil, eu, fun i h1 h2 => by omega, rfl⟩ ?_
  rintro m σ H2 ⟨j, ts, u, rfl, j0, j1, sH, el, ep, eu, hf, rfl⟩
  refine et_cmp (op_neD hu) (ev_v 4 (ev_v 2 ⟨1, _, by decide, rnD_tp eu (sH _ _ ht), _, rfl, ?_⟩))
  have pl := ep.length
  have ol : (orb n e j).length = j := by unfold orb; simp
  by_cases c : it (step n) j e = e
  · rw [decide_eq_true c]
    refine iteF (run_ret (ev_v 3 (q l ts (orb n e j) H2 sH hl el ep ⟨by omega, by omega, fun i hi => ?_, by rw [ol]; exact c, fun i h1 h2 => hf i h1 (by omega)⟩)))
    unfold orb
    rw [List.getElem?_map, List.getElem?_range (by omega)]
    rfl
  · rw [decide_eq_false c]
    have jk : j < k := by
      rcases Nat.lt_or_ge j k with h | h
      · exact h
      · have : j = k := by omega
        subst this
        exact absurd k2 c
    refine iteT (run_expr (ev_append (ev_v 3 ⟨l, rfl, ⟨_, el⟩, ev_v 4 ⟨_, el, by rw [List.length_map]; exact small' (by omega), ?_⟩⟩)))
    have s2 : Same H (upd H2 l (.lst (ts.map V.ref ++ [.ref u]))) := same_mut sH hl
    have kt : ∀ b f, H2 b = some (Tp f) → (upd H2 l (.lst (ts.map V.ref ++ [.ref u]))) b = some (Tp f) := fun b f h => by
      rw [upd_ne (tp_ne_lst h el)]
      exact h
    have eu2 := kt u _ eu
    refine run_set 4 nd (ev_has G hr (ea_cons (ev_v 0 (ea_cons (ev_v 1 (ea_cons (ev_v 4 (ea_cons (ev_int (ea_nil ⟨R, d, u, as, n, ks, it (step n) j e, rfl, hR.same s2, hS.same s2, hT, eu2, it_mem (fun a ha => step_end hT ha) he j, fun v H3 s3 nv ev => ?_⟩))))))))))
    refine run_nil ⟨k - (j + 1), by omega, j + 1, ts ++ [u], v, rfl, Nat.succ_pos _, jk, s2.trans s3, ?_, ?_, ev, fun i h1 h2 => ?_, rfl⟩
    · rw [List.map_append]
      exact s3 _ _ upd_same
    · rw [orb_succ]
      exact (ep.keep fun b f h => s3 _ _ (kt b f h)).append (.cons (s3 _ _ eu2) .nil)
    · rcases Nat.lt_succ_iff_lt_or_eq.mp h2 with h | h
      · exact hf i h1 h
      · rw [h]; exact c
end
end V2
namespace Nt
open PySem L2
noncomputable def Full (n : Net) : Prop := (∃ nm, n = [(nm, [])]) ∨ (n ≠ [] ∧ ∀ i, i < n.length → row n i ≠ [])
noncomputable def Corner (n : Net) (c : End) : Prop := c.1 < n.length ∧ c.2 < max 1 (row n c.1).length
noncomputable def ins (n : Net) (c : End) (z : Str) : Net := n.modify c.1 fun r => (r.1, r.2.take c.2 ++ z :: r.2.drop c.2)
theorem ins_len (n : Net) (c : End) (z : Str) : (ins n c z).length = n.length := by unfold ins; rw [List.length_modify]
theorem ins_names (n : Net) (c : End) (z : Str) : (ins n c z).map (·.1) = n.map (·.1) := by
  unfold ins
  refine List.ext_getElem? fun i => ?_
  rw [List.getElem?_map, List.getElem?_map, List.getElem?_modify]
  cases n[i]? with
  | none => rfl
  | some r => by_cases h : c.1 = i <;> simp [h]
theorem row_ins (n : Net) (c : End) (z : Str) (i : Nat) (hc : c.1 < n.length) : row (ins n c z) i = if c.1 = i then (row n i).take c.2 ++ z :: (row n i).drop c.2 else row n i := by
  unfold row ins
  rw [List.getElem?_modify]
  by_cases h : c.1 = i
  · subst h
    rw [List.getElem?_eq_getElem hc]
    simp
  · rw [if_neg h]
    cases n[i]? with
    | none => simp [h]
    | some r => simp [h]
theorem ties_ins : ∀ (n : Net) (c : End) (z : Str), c.1 < n.length → (ties (ins n c z)).Perm (z :: ties n)
  | [], c, z, h => by simp at h
  | a :: n, (0, p), z, h => by
    unfold ins ties
    simp only [List.modify_zero_cons, List.flatMap_cons]
    have : (a.2.take p ++ z :: a.2.drop p).Perm (z :: a.2) := by
      refine List.perm_middle.trans ?_
      rw [List.take_append_drop]
    exact this.append_right _
  | a :: n, (i + 1, p), z, h => by
    have ih := ties_ins n (i, p) z (by simpa using h)
    unfold ins ties at ih ⊢
    simp only [List.modify_succ_cons, List.flatMap_cons]
    refine (ih.append_left a.2).trans ?_
    exact List.perm_middle
theorem full_ins {n : Net} {c : End} {z : Str} (F : Full n) (hc : c.1 < n.length) : n.length = 1 ∨ (∀ i, i < n.length → row n i ≠ []) → (∀ i, i < (ins n c z).length → row (ins n c z) i ≠ []) ∧ ins n c z ≠ [] := by
  intro h
  have hl := ins_len n c z
  refine ⟨fun i hi => ?_, fun e => ?_⟩
  · rw [row_ins n c z i hc]
    by_cases q : c.1 = i
    · rw [if_pos q]; simp
    · rw [if_neg q]
      rcases h with h | h
      · rw [hl] at hi
        omega
      · exact h i (by omega)
  · rw [e] at hl
    simp at hl
    omega
theorem Full.some {n : Net} (F : Full n) : n ≠ [] := by
  rcases F with ⟨nm, rfl⟩ | h
  · simp
  · exact h.1
theorem Full.either {n : Net} (F : Full n) : n.length = 1 ∨ (∀ i, i < n.length → row n i ≠ []) := by
  rcases F with ⟨nm, rfl⟩ | h
  · exact .inl rfl
  · exact .inr h.2
theorem Full.corner {n : Net} (F : Full n) (h0 : row n 0 ≠ []) {c : End} (hc : Corner n c) : c ∈ ends n := by
  rcases F with ⟨nm, rfl⟩ | h
  · exact absurd rfl h0
  · have := h.2 c.1 hc.1
    have hp : 0 < (row n c.1).length := List.length_pos_iff.mpr this
    have hlt : c.2 < (row n c.1).length := by
      have := hc.2
      omega
    exact mem_ends.mpr (end_of hlt)
theorem corner_of {n : Net} {e : End} (h : e ∈ ends n) : Corner n e := by
  obtain ⟨z, h⟩ := mem_ends.mp h
  have := end_lt h
  exact ⟨row_lt h, by omega⟩
noncomputable def Keep (H H' : Hp) (bad : List Addr) : Prop := ∀ b o, H b = some o → b ∉ bad → H' b = some o
theorem ls_ins (zs : List Str) (i : Nat) (z : Str) : insertAt (zs.map V.str) i (.str z) = (zs.take i ++ z :: zs.drop i).map V.str := by
  unfold insertAt
  rw [List.map_append, List.map_cons, List.map_take, List.map_drop]
theorem RowsAt.ins {H : Hp} {R : Addr} {as : List (Addr × Addr)} {n : Net} (h : RowsAt H R as n) {c : End} {z : Str} {a : Addr × Addr} (ha : as[c.1]? = some a) (hc : c.1 < n.length) :
    RowsAt (upd H a.2 (Ls ((row n c.1).take c.2 ++ z :: (row n c.1).drop c.2))) R as (Nt.ins n c z) := by
  have q0 := h.tup c.1 a n[c.1] ha (List.getElem?_eq_getElem hc)
  have hRa : R ≠ a.2 := by
    intro e
    have h1 := h.lst
    rw [e, q0.2] at h1
    have h2 := HO.lst.inj (Option.some.inj h1)
    have h3 := congrArg List.length h2
    cases hm : n[c.1].2 with
    | nil =>
      rw [hm] at h2
      have : as.map (fun a => V.ref a.1) = [] := h2.symm
      have hl := congrArg List.length this
      rw [List.length_map, h.len] at hl
      rw [hl] at hc
      exact absurd hc (Nat.not_lt_zero _)
    | cons y r =>
      rw [hm] at h2
      cases as with
      | nil => simp at h2
      | cons b bs =>
        simp at h2
  have er : row n c.1 = n[c.1].2 := by unfold row; rw [List.getElem?_eq_getElem hc]; rfl
  refine ⟨by rw [ins_len]; exact h.len, by rw [upd_ne hRa]; exact h.lst, fun i b r hb hr => ?_, h.inj⟩
  unfold Nt.ins at hr
  rw [List.getElem?_modify] at hr
  cases hn : n[i]? with
  | none => rw [hn] at hr; by_cases q : c.1 = i <;> simp [q] at hr
  | some r0 =>
    rw [hn] at hr
    have q1 := h.tup i b r0 hb hn
    have t1 : b.1 ≠ a.2 := ne_of q1.1 q0.2 fun e => nomatch e
    by_cases q : c.1 = i
    · subst q
      rw [List.getElem?_eq_getElem hc] at hn
      cases hn
      rw [ha] at hb
      cases hb
      simp at hr
      subst hr
      refine ⟨by rw [upd_ne t1]; exact q1.1, ?_⟩
      rw [upd_same, er]
    · simp [q] at hr
      subst hr
      have t2 : b.2 ≠ a.2 := fun e => by
        have l1 : i < as.length := (List.getElem?_eq_some_iff.mp hb).1
        have l2 : c.1 < as.length := (List.getElem?_eq_some_iff.mp ha).1
        have x1 : (as.map (·.2))[i]? = some b.2 := by rw [List.getElem?_map, hb]; rfl
        have x2 : (as.map (·.2))[c.1]? = some a.2 := by rw [List.getElem?_map, ha]; rfl
        obtain ⟨y1, z1⟩ := List.getElem?_eq_some_iff.mp x1
        obtain ⟨y2, z2⟩ := List.getElem?_eq_some_iff.mp x2
        exact q ((List.getElem_inj (h₀ := y2) (h₁ := y1) h.inj).mp (z2.trans (e.symm.trans z1.symm)))
      exact ⟨by rw [upd_ne t1]; exact q1.1, by rw [upd_ne t2]; exact q1.2⟩
theorem RowsAt.more {H : Hp} {R t l : Addr} {as : List (Addr × Addr)} {n : Net} {pt : Str} {zs : List Str} (h : RowsAt H R as n) (ht : H t = some (.tup [.str pt, .ref l])) (hl : H l = some (Ls zs)) (hn : l ∉ as.map (·.2)) (hR : l ≠ R) :
    RowsAt (upd H R (.lst (as.map (fun a => V.ref a.1) ++ [.ref t]))) R (as ++ [(t, l)]) (n ++ [(pt, zs)]) := by
  have hal := h.len
  refine ⟨by rw [List.length_append, List.length_append, hal]; rfl, by rw [upd_same, List.map_append]; rfl, fun i b r hb hr => ?_, ?_⟩
  · rcases Nat.lt_or_ge i as.length with c | c
    · rw [List.getElem?_append_left c] at hb
      rw [List.getElem?_append_left (by omega)] at hr
      have q := h.tup i b r hb hr
      have t1 : b.1 ≠ R := ne_of q.1 h.lst fun e => nomatch e
      have t2 : b.2 ≠ R := by
        intro e
        have h1 := h.lst
        rw [← e, q.2] at h1
        have h2 := HO.lst.inj (Option.some.inj h1)
        cases as with
        | nil => simp at c
        | cons b' bs =>
          cases hm : r.2 with
          | nil => rw [hm] at h2; simp at h2
          | cons y r => rw [hm] at h2; simp at h2
      exact ⟨by rw [upd_ne t1]; exact q.1, by rw [upd_ne t2]; exact q.2⟩
    · have e : i = as.length := by
        have := (List.getElem?_eq_some_iff.mp hb).1
        rw [List.length_append] at this
        simp at this
        omega
      subst e
      rw [List.getElem?_append_right (Nat.le_refl _)] at hb
      rw [hal, List.getElem?_append_right (Nat.le_refl _)] at hr
      simp at hb hr
      subst hb hr
      have t1 : t ≠ R := ne_of ht h.lst fun e => nomatch e
      exact ⟨by rw [upd_ne t1]; exact ht, by rw [upd_ne hR]; exact hl⟩
  · rw [List.map_append, List.nodup_append]
    exact ⟨h.inj, by simp, fun x hx y hy e => by simp at hy; subst hy e; exact hn hx⟩
theorem RowsAt.lists {H : Hp} {R : Addr} {as : List (Addr × Addr)} {n : Net} (h : RowsAt H R as n) {x : Addr × Addr} (hx : x ∈ as) : ∃ zs, H x.2 = some (Ls zs) := by
  obtain ⟨i, hi, e⟩ := List.mem_iff_getElem.mp hx
  have hl := h.len
  exact ⟨_, (h.tup i x (n[i]'(by omega)) (by rw [← e]; exact List.getElem?_eq_getElem hi) (List.getElem?_eq_getElem (by omega))).2⟩
theorem RowsAt.fresh {H : Hp} {R l : Addr} {as : List (Addr × Addr)} {n : Net} (h : RowsAt H R as n) (hl : H l = none) {x : Addr × Addr} (hx : x ∈ as) : l ≠ x.2 := by
  obtain ⟨zs, e⟩ := h.lists hx
  exact (ne_of_none e hl).symm
theorem ends_len (n : Net) : (ends n).length = (ties n).length := by
  unfold ends seats
  rw [List.length_map, ← seats_names n 0, List.length_map]
theorem IsFace.ends {n : Net} (T : Twice n) {e : End} {fs : List End} (h : IsFace n e fs) (he : e ∈ ends n) : ∀ c ∈ fs, c ∈ Nt.ends n := by
  intro c hc
  obtain ⟨i, hi, e2⟩ := List.mem_iff_getElem.mp hc
  have := h.at' i hi
  rw [List.getElem?_eq_getElem hi, e2] at this
  rw [Option.some.inj this]
  exact it_mem (fun a ha => step_end T ha) he i
theorem corner_ins {n : Net} {c k : End} {z : Str} (hc : Corner n c) (hk : k.1 < n.length) : Corner (ins n k z) c := by
  refine ⟨by rw [ins_len]; exact hc.1, ?_⟩
  rw [row_ins n k z c.1 hk]
  have := hc.2
  split
  · rw [List.length_append, List.length_cons, List.length_take, List.length_drop]
    omega
  · exact this
end Nt
namespace Nt
open PySem L2
noncomputable def dbl (zs : List Str) : List Str := zs.flatMap fun z => [z, z]
theorem dbl_count (y : Str) : ∀ zs : List Str, (dbl zs).count y = 2 * zs.count y
  | [] => rfl
  | z :: r => by
    unfold dbl
    rw [List.flatMap_cons]
    have ih := dbl_count y r
    unfold dbl at ih
    rw [List.count_append, ih, List.count_cons, List.count_cons, List.count_cons, List.count_nil]
    omega
theorem dbl_mem {y : Str} {zs : List Str} : y ∈ dbl zs ↔ y ∈ zs := by
  rw [← List.count_pos_iff, dbl_count, ← List.count_pos_iff]
  omega
theorem dbl_len : ∀ zs : List Str, (dbl zs).length = 2 * zs.length
  | [] => rfl
  | z :: r => by
    unfold dbl
    rw [List.flatMap_cons, List.length_append]
    have ih := dbl_len r
    unfold dbl at ih
    rw [ih, List.length_cons]
    simp
    omega
theorem dbl_snoc (zs : List Str) (z : Str) : dbl (zs ++ [z]) = dbl zs ++ [z, z] := by
  unfold dbl
  rw [List.flatMap_append]
  rfl
theorem twice_of {n : Net} {zs : List Str} (hn : zs.Nodup) (p : (ties n).Perm (dbl zs)) : Twice n := fun z hz => by
  rw [p.count_eq, dbl_count]
  have h1 : z ∈ zs := dbl_mem.mp (p.mem_iff.mp hz)
  rw [hn.count, if_pos h1]
noncomputable def NE (n : Net) : Prop := ∀ r ∈ n, r.2 ≠ []
theorem row_eq {n : Net} {i : Nat} (h : i < n.length) : row n i = n[i].2 := by unfold row; rw [List.getElem?_eq_getElem h]; rfl
theorem ne_full {n : Net} (h : NE n) (h0 : n ≠ []) : Full n := .inr ⟨h0, fun i hi => by rw [row_eq hi]; exact h _ (List.getElem_mem hi)⟩
theorem Full.ne {n : Net} (h : Full n) : (∃ nm, n = [(nm, [])]) ∨ NE n := by
  rcases h with h | ⟨_, h⟩
  · exact .inl h
  · refine .inr fun r hr => ?_
    obtain ⟨i, hi, rfl⟩ := List.mem_iff_getElem.mp hr
    have := h i hi
    rwa [row_eq hi] at this
theorem ties_erase : ∀ (n : Net) (k : Nat) (h : k < n.length), (ties n).Perm (n[k].2 ++ ties (n.eraseIdx k))
  | [], k, h => by simp at h
  | a :: n, 0, h => by unfold ties; simp
  | a :: n, k + 1, h => by
    have ih := ties_erase n k (by simpa using h)
    unfold ties at ih ⊢
    simp only [List.flatMap_cons, List.getElem_cons_succ, List.eraseIdx_cons_succ]
    refine (ih.append_left a.2).trans ?_
    rw [← List.append_assoc, ← List.append_assoc]
    exact List.perm_append_comm.append_right _
theorem names_erase (n : Net) (k : Nat) (h : k < n.length) : (n.map (·.1)).Perm (n[k].1 :: (n.eraseIdx k).map (·.1)) := by
  have := (SetT.pick_perm n k h).map (·.1)
  exact this.symm
theorem rot_perm (zs : List Str) (i : Nat) : (zs.drop i ++ zs.take i).Perm zs := by
  refine List.perm_append_comm.trans ?_
  rw [List.take_append_drop]
theorem RowsAt.upd {H : Hp} {R x : Addr} {as : List (Addr × Addr)} {n : Net} (h : RowsAt H R as n) {xs : List V} {o : HO} (hx : H x = some (.lst xs)) (hR : R ≠ x) (ha : ∀ a ∈ as, a.2 ≠ x) : RowsAt (upd H x o) R as n := by
  refine ⟨h.len, by rw [upd_ne hR]; exact h.lst, fun i a r h1 h2 => ?_, h.inj⟩
  have q := h.tup i a r h1 h2
  exact ⟨by rw [upd_ne (ne_of q.1 hx fun e => nomatch e)]; exact q.1, by rw [upd_ne (ha a (List.mem_of_getElem? h1))]; exact q.2⟩
theorem erase_at {α : Type} (l : List α) (k i : Nat) : (l.eraseIdx k)[i]? = if i < k then l[i]? else l[i + 1]? := by
  rw [List.getElem?_eraseIdx]
theorem RowsAt.erase {H : Hp} {R : Addr} {as : List (Addr × Addr)} {n : Net} (h : RowsAt H R as n) {k : Nat} (hk : k < n.length) :
    RowsAt (L2.upd H R (.lst ((as.map fun a => V.ref a.1).eraseIdx k))) R (as.eraseIdx k) (n.eraseIdx k) := by
  have hl := h.len
  refine ⟨by rw [List.length_eraseIdx, List.length_eraseIdx, hl], ?_, fun i a r h1 h2 => ?_, ?_⟩
  · rw [upd_same]
    congr 2
    refine List.ext_getElem? fun i => ?_
    rw [erase_at, List.getElem?_map, List.getElem?_map, List.getElem?_map, erase_at]
    split <;> rfl
  · rw [erase_at] at h1 h2
    have q : H a.1 = some (.tup [.str r.1, .ref a.2]) ∧ H a.2 = some (Ls r.2) := by
      by_cases c : i < k
      · rw [if_pos c] at h1 h2
        exact h.tup i a r h1 h2
      · rw [if_neg c] at h1 h2
        exact h.tup (i + 1) a r h1 h2
    have t2 : a.2 ≠ R := by
      intro e
      have h3 := h.lst
      rw [← e, q.2] at h3
      have h4 := HO.lst.inj (Option.some.inj h3)
      cases as with
      | nil => simp at hl; simp [← hl] at hk
      | cons b bs =>
        cases hm : r.2 with
        | nil => rw [hm] at h4; simp at h4
        | cons y r => rw [hm] at h4; simp at h4
    exact ⟨by rw [upd_ne (ne_of q.1 h.lst fun e => nomatch e)]; exact q.1, by rw [upd_ne t2]; exact q.2⟩
  · have : ((as.eraseIdx k).map (·.2)).Sublist (as.map (·.2)) := (List.eraseIdx_sublist as k).map _
    exact h.inj.sublist this
theorem cut_from (zs : List Str) (i : Nat) : cutV (zs.map V.str) (some (i : Int)) none = (zs.drop i).map V.str := by
  unfold cutV
  rw [HT.sIx_nat, HT.sIx_none, List.length_map]
  rw [List.take_of_length_le (by rw [List.length_drop, List.length_map]; omega), List.map_drop]
  rcases Nat.le_total i zs.length with h | h
  · rw [Nat.min_eq_left h]
  · rw [Nat.min_eq_right h, List.drop_of_length_le (by simp), List.drop_of_length_le (by simpa using h)]
theorem cut_to (zs : List Str) (i : Nat) : cutV (zs.map V.str) none (some (i : Int)) = (zs.take i).map V.str := by
  unfold cutV
  rw [HT.sIx_nat, HT.sIx_none, List.length_map, List.drop_zero, Nat.sub_zero, List.map_take]
  rcases Nat.le_total i zs.length with h | h
  · rw [Nat.min_eq_left h]
  · rw [Nat.min_eq_right h, List.take_of_length_le (by simp), List.take_of_length_le (by simpa using h)]
end Nt
namespace Nt
open PySem L2
noncomputable def nmA (n : Net) (r : Nat) : Str := ((n[r]?).map (·.1)).getD ⟨#[]⟩
theorem nmA_eq {n : Net} {r : Nat} (h : r < n.length) : nmA n r = n[r].1 := by unfold nmA; rw [List.getElem?_eq_getElem h]; rfl
noncomputable abbrev Lk := Str × Str × Str
noncomputable def IsLink (n : Net) (x : Lk) : Prop := ∃ a b, pos n x.1 = [a, b] ∧ x.2.1 = nmA n a.1 ∧ x.2.2 = nmA n b.1
structure LkI (n : Net) (done : List (Str × End)) (kM : List (Key × V)) (ls : List Lk) : Prop where
  m0 : ∀ z, posIn done z = [] → valV kM (Sum.inr z) = none
  m1 : ∀ z a rest, posIn done z = a :: rest → valV kM (Sum.inr z) = some (.str (nmA n a.1))
  mem : ∀ x : Lk, x ∈ ls ↔ ∃ a b rest, posIn done x.1 = a :: b :: rest ∧ x.2.1 = nmA n a.1 ∧ x.2.2 = nmA n b.1
  nod : (ls.map (·.1)).Nodup
  lenM : kM.length ≤ done.length
  lenL : ls.length ≤ done.length
theorem LkI.start (n : Net) : LkI n [] [] [] := ⟨fun _ _ => rfl, fun z a rest h => (by cases h), fun x => ⟨fun h => (by cases h), fun ⟨a, b, rest, h, _⟩ => (by cases h)⟩, List.nodup_nil, Nat.le_refl _, Nat.le_refl _⟩
theorem LkI.new {n : Net} {done : List (Str × End)} {kM : List (Key × V)} {ls : List Lk} (I : LkI n done kM ls) {z : Str} {e : End} (h0 : posIn done z = []) : LkI n (done ++ [(z, e)]) (putK kM (Sum.inr z) (.str (nmA n e.1))) ls := by
  refine ⟨fun y hy => ?_, fun y a rest hy => ?_, fun x => ?_, I.nod, ?_, ?_⟩
  · rw [posIn_snoc] at hy
    obtain ⟨h1, h2⟩ := List.append_eq_nil_iff.mp hy
    have hne : ¬ z = y := fun q => by rw [if_pos q] at h2; cases h2
    rw [valV_put, if_neg (fun q => hne (Sum.inr.inj q).symm)]
    exact I.m0 y h1
  · rw [posIn_snoc] at hy
    by_cases q : z = y
    · subst q
      rw [h0, if_pos rfl] at hy
      cases hy
      rw [valV_put, if_pos rfl]
    · rw [if_neg q, List.append_nil] at hy
      rw [valV_put, if_neg (fun p => q (Sum.inr.inj p).symm)]
      exact I.m1 y a rest hy
  · rw [I.mem x]
    by_cases q : z = x.1
    · constructor
      · rintro ⟨a, b, rest, h, _⟩
        rw [← q, h0] at h
        cases h
      · rintro ⟨a, b, rest, h, _⟩
        rw [posIn_snoc, ← q, h0, if_pos rfl] at h
        cases h
    · constructor
      · rintro ⟨a, b, rest, h, r⟩
        exact ⟨a, b, rest, by rw [posIn_snoc, if_neg q, List.append_nil]; exact h, r⟩
      · rintro ⟨a, b, rest, h, r⟩
        rw [posIn_snoc, if_neg q, List.append_nil] at h
        exact ⟨a, b, rest, h, r⟩
  · have := length_putK kM (Sum.inr z) (.str (nmA n e.1))
    have := I.lenM
    rw [List.length_append, List.length_singleton]
    omega
  · have := I.lenL
    rw [List.length_append, List.length_singleton]
    omega
theorem LkI.old {n : Net} {done : List (Str × End)} {kM : List (Key × V)} {ls : List Lk} (I : LkI n done kM ls) {z : Str} {a e : End} (h1 : posIn done z = [a]) : LkI n (done ++ [(z, e)]) kM (ls ++ [(z, nmA n a.1, nmA n e.1)]) := by
  have hz : posIn (done ++ [(z, e)]) z = [a, e] := by rw [posIn_snoc, h1, if_pos rfl]; rfl
  have hnz : z ∉ ls.map (·.1) := fun h => by
    obtain ⟨x, hx, ex⟩ := List.mem_map.mp h
    obtain ⟨b, c, rest, hp, _⟩ := (I.mem x).mp hx
    have ex : x.1 = z := ex
    rw [ex, h1] at hp
    cases hp
  refine ⟨fun y hy => ?_, fun y b rest hy => ?_, fun x => ?_, ?_, ?_, ?_⟩
  · rw [posIn_snoc] at hy
    exact I.m0 y (List.append_eq_nil_iff.mp hy).1
  · by_cases q : z = y
    · subst q
      rw [hz] at hy
      cases hy
      exact I.m1 z a [] h1
    · rw [posIn_snoc, if_neg q, List.append_nil] at hy
      exact I.m1 y b rest hy
  · rw [List.mem_append, List.mem_singleton, I.mem x]
    by_cases q : z = x.1
    · constructor
      · rintro (⟨b, c, rest, h, _⟩ | h)
        · rw [← q, h1] at h
          cases h
        · subst h
          exact ⟨a, e, [], hz, rfl, rfl⟩
      · rintro ⟨b, c, rest, h, r1, r2⟩
        rw [← q, hz] at h
        cases h
        obtain ⟨x1, x2, x3⟩ := x
        have q : z = x1 := q
        have r1 : x2 = nmA n a.1 := r1
        have r2 : x3 = nmA n e.1 := r2
        subst q r1 r2
        exact .inr rfl
    · constructor
      · rintro (⟨b, c, rest, h, r⟩ | h)
        · exact ⟨b, c, rest, by rw [posIn_snoc, if_neg q, List.append_nil]; exact h, r⟩
        · subst h
          exact absurd rfl q
      · rintro ⟨b, c, rest, h, r⟩
        rw [posIn_snoc, if_neg q, List.append_nil] at h
        exact .inl ⟨b, c, rest, h, r⟩
  · rw [List.map_append]
    exact nd_snoc I.nod hnz
  · have := I.lenM
    rw [List.length_append, List.length_singleton]
    omega
  · have := I.lenL
    rw [List.length_append, List.length_append]
    show _ + 1 ≤ _ + 1
    omega
theorem LkI.whole {n : Net} (T : Twice n) {kM : List (Key × V)} {ls : List Lk} (I : LkI n (seats n) kM ls) (x : Lk) : x ∈ ls ↔ IsLink n x := by
  rw [I.mem x]
  constructor
  · rintro ⟨a, b, rest, h, r⟩
    have hp : pos n x.1 = a :: b :: rest := h
    have ha : tieAt n a = some x.1 := mem_pos.mp (by rw [hp]; exact List.mem_cons_self ..)
    have hl := pos_len n x.1
    rw [hp, T x.1 (tie_mem ha)] at hl
    have : rest = [] := by
      have : rest.length + 1 + 1 = 2 := hl
      exact List.length_eq_zero_iff.mp (by omega)
    rw [this] at hp
    exact ⟨a, b, hp, r⟩
  · rintro ⟨a, b, h, r⟩
    exact ⟨a, b, [], h, r⟩
inductive Way (ls : List (Str × Str × Bool)) (f : Str) : Str → Bool → Prop where
  | here : Way ls f f false
  | there {x y : Str} {b o : Bool} : Way ls f x b → (x, y, o) ∈ ls → Way ls f y (b != o)
  | back {x y : Str} {b o : Bool} : Way ls f x b → (y, x, o) ∈ ls → Way ls f y (b != o)
end Nt
namespace L2
open PySem PySem.Spec PyProof.Rows
theorem is_kV {P : Program} {w : World} {k : Key} {u : Value} (h : (mixKind P w).is k u = true) : RelV (kV k) u := by
  rcases keyIs_shape h with ⟨i, t, rfl, rfl⟩ | ⟨x, t, rfl, rfl⟩ <;> exact ⟨t, rfl⟩
section
variable {X : Cx} {pins : List (Addr × Obj)} {σ : St} {H : Hp} {s : Shared}
theorem vals_of {xs : List V} : ∀ {vs : List Value}, vs.length = xs.length → (∀ (j : Nat) u, vs[j]? = some u → ∃ x, xs[j]? = some x ∧ RelV x u) → Vals xs vs := by
  induction xs with
  | nil =>
    intro vs h _
    cases vs with
    | nil => exact .nil
    | cons a b => simp at h
  | cons x r ih =>
    intro vs h g
    cases vs with
    | nil => simp at h
    | cons u q =>
      obtain ⟨x', e, ru⟩ := g 0 u rfl
      simp only [List.getElem?_cons_zero, Option.some.injEq] at e
      subst e
      exact .cons ru (ih (by simpa using h) fun j u hu => by simpa using g (j + 1) u (by simpa using hu))
theorem call_list_dict (hc : X.calm = true) : CallR X (.type "list") (fun xs H Q => ∃ a kvs, xs = [.ref a] ∧ Rd H a (.dK kvs) ∧ ∀ l, H l = none → Q (.ref l) (upd H l (.lst (kvs.map fun p => kV p.1)))) := by
  intro pins s σ H xs us Q I r h
  obtain ⟨a, kvs, rfl, hH, q⟩ := h
  obtain ⟨u, rfl, ru⟩ := vals1 r
  cases (show u = Value.ref a from ru)
  obtain ⟨z, hd, vs, rel, dd⟩ := dk_rd I.hok hH
  obtain ⟨ep, da⟩ := dd.dictAt
  have hl := rel.length
  refine PySem.W.kdl_call (PySem.W.kdl_dict (knd := mixKind X.prog X.w) (kvs := vs) (ep := ep) hd) (I.ok.hd hc) da (by omega) fun h' tk acc c' hk hS hacc => ?_
  have rv : Vals (kvs.map fun p => kV p.1) acc.toList := by
    refine vals_of (by rw [Array.length_toList, hacc.1, List.length_map]; omega) fun j u hu => ?_
    obtain ⟨k, x, e, g⟩ := hacc.2 j u (by rw [← Array.getElem?_toList]; exact hu)
    refine ⟨kV k, ?_, is_kV g⟩
    have e2 : (kvs.map (·.1))[j]? = some k := by rw [rel.keys, List.getElem?_map, e]; rfl
    rw [List.getElem?_map, Option.map_eq_some_iff] at e2
    obtain ⟨p, e3, e4⟩ := e2
    rw [List.getElem?_map, e3, ← e4]
    rfl
  exact ⟨.ref s.heap.objs.size, _, I.laid (t' := tk) hk (Nat.le_refl _) (show ObjOk X.prog X.w _ h' _ (.lst (kvs.map fun p => kV p.1)) from ⟨by rw [List.length_map]; exact z, acc.toList, c', rv, by rw [Array.toArray_toList]; exact hS⟩), rfl, q _ (I.hok.fresh (Nat.le_refl _))⟩
theorem inv_freeze {d : Addr} {kvs : List (Key × V)} (I : Inv X pins σ H s) (e : H d = some (.dK kvs)) : ∃ o, s.heap.get? d = some o ∧ Inv X pins σ (upd H d (.frz o (.dK kvs))) s := by
  obtain ⟨z, hd, vs, rel, dd⟩ := dk_of I.hok e
  obtain ⟨o, es, ep, ho, rest⟩ := id dd
  refine ⟨o, ho, ?_⟩
  exact d_write (t' := s.toks) I (by rw [e]; exact True.intro) ⟨rfl, fun _ _ => rfl⟩ ⟨o, ho⟩ (show ObjOk X.prog X.w _ s.heap d (.frz o (.dK kvs)) from ⟨ho, z, hd, vs, rel, dd⟩)
noncomputable def Itk (d : Addr) (o : Obj) (kvs : List (Key × V)) : It :=
  ⟨fun i H => H d = some (.frz o (.dK kvs)) ∧ i < kvs.length, fun i H x H' => H' = H ∧ ∃ p, kvs[i]? = some p ∧ x = kV p.1, fun i H => H d = some (.frz o (.dK kvs)) ∧ kvs.length ≤ i⟩
theorem frz_at {P : Program} {w : World} {h : Heap} {d : Addr} {o : Obj} {es : Array DictEntry} {ep : Nat} {kvs : List (Key × V)} (hok : HOk P w H h) (e : H d = some (.frz o (.dK kvs))) (hd : o.data = .dict es ep) : ∃ vs, KV kvs vs ∧ h.DictAt (mixKind P w) d vs ep := by
  obtain ⟨ho, z, _, vs, rel, dd⟩ := (show ObjOk P w H h d (.frz o (.dK kvs)) from hok d _ e)
  obtain ⟨ep', o', es', ho', r1, r2, r3⟩ := dd.dictAt
  have : o = o' := Option.some.inj (ho.symm.trans ho')
  subst this
  rw [hd] at r2
  injection r2 with e1 e2
  subst e1
  subst e2
  exact ⟨vs, rel, o, es, ho', r1, hd, r3⟩
theorem turn_dict {P : Program} {w : World} {K : PySem.W.Frag} {tg : Expr} (d it : Addr) (o : Obj) (es : Array DictEntry) (ep : Nat) (kvs : List (Key × V)) (hod : o.data = .dict es ep) : Turn P w K tg (Itk d o kvs) [it] it (fun i h => h.IsKeyIter it d i kvs.length ep) where
  mem := by simp
  obj := fun i h st b hb => by
    have e : b = it := by simpa using hb
    subst e
    obtain ⟨o, e, c, d⟩ := st
    exact ⟨o, e, fun v z => by rw [d] at z; cases z⟩
  keep := fun i h h' st k => let ⟨o, ho, r⟩ := st; ⟨o, k it (by simp) o ho, r⟩
  item := by
    intro X hP hw hK hc i pins s σ H E I hf st hg
    subst hP hw hK
    obtain ⟨f0, f1, f2, f3, f4, f5⟩ := hf it (by simp)
    obtain ⟨hd, hi⟩ := hg
    obtain ⟨vs, rel, da⟩ := frz_at I.hok hd hod
    have hl := rel.length
    have hi' : i < vs.length := by omega
    have hx : vs[i]? = some vs[i] := List.getElem?_eq_getElem hi'
    rw [hl] at st
    refine wpAny_pyNext_dict_item (k := vs[i].1) (v := vs[i].2) st da hx fun key h' hk st' hs' => ?_
    have I1 : Inv X pins σ H { s with heap := h' } := I.turned (t' := s.toks) (fun b o hb e => hs'.extBut b o hb e) f0 f1 f3 f4 f5
    obtain ⟨o2, e2, c2, d2⟩ := id st'
    refine ⟨_, rfl, go_of (s := { s with heap := h' }) e2 c2 d2 (by decide) ⟨kV vs[i].1, H, I1, is_kV hk, ⟨rfl, kvs[i], List.getElem?_eq_getElem hi, ?_⟩, by rw [hl]; exact st', fun b hb => (hf b hb).1⟩⟩
    have ek := rel.keys
    have e3 : (kvs.map (·.1))[i]? = (vs.map (·.1))[i]? := by rw [ek]
    rw [List.getElem?_map, List.getElem?_map, List.getElem?_eq_getElem hi, hx] at e3
    have e4 : kvs[i].1 = vs[i].1 := Option.some.inj e3
    rw [e4]
  done := by
    intro X hP hw hK hc i pins s σ H E I hf st hg
    subst hP hw hK
    obtain ⟨f0, f1, f2, f3, f4, f5⟩ := hf it (by simp)
    obtain ⟨hd, hi⟩ := hg
    obtain ⟨vs, rel, da⟩ := frz_at I.hok hd hod
    have hl := rel.length
    rw [hl] at st
    exact wpAny_pyNext_dict_end (I.ok.hd hc) st da (by rw [List.getElem?_eq_none]; omega) fun h' eb => ⟨rfl, I.turned (t' := s.toks) (fun b o hb e => eb b o hb e) f0 f1 f3 f4 f5⟩
  self := fun _ _ _ _ _ st h => wpAny_pyIter_keyiter st h
noncomputable def iDict (tl : TE) : TI := fun σ H R => tl σ H fun x H1 => ∃ d kvs, x = .ref d ∧ H1 d = some (.dK kvs) ∧ ∀ o, R (Itk d o kvs) (upd H1 d (.frz o (.dK kvs)))
theorem pi_dict {tg l : Expr} {tl : TE} (hl : PE X l tl) : PI X tg l (iDict tl) := by
  intro pins s σ H R I h
  refine thn (hl pins s σ H _ I h) fun v s1 ⟨x, H1, I1, r1, q1⟩ => ?_
  obtain ⟨d, kvs, e, hH, q⟩ := q1
  subst e
  cases (show v = Value.ref d from r1)
  obtain ⟨o, ho, I2⟩ := inv_freeze I1 hH
  obtain ⟨z, hdm, vs, rel, dd⟩ := dk_of I1.hok hH
  obtain ⟨ep, o', es, ho', r1, r2, r3⟩ := dd.dictAt
  have : o = o' := Option.some.inj (ho.symm.trans ho')
  subst this
  refine wpAny_pyIter_dict hdm ⟨o, es, ho', r1, r2, r3⟩ ?_
  refine ⟨s1.heap.objs.size, [s1.heap.objs.size], _, _, _, rfl, I2.kept (t' := s1.toks) fun b o e => Heap.get?_push_of_some _ e, turn_dict d _ o es ep kvs r2, ⟨_, Heap.get?_push_size _ rfl, rfl, by rw [rel.length]; rfl⟩, fun b hb => ?_, q o⟩
  have e : b = s1.heap.objs.size := by simpa using hb
  subst e
  exact I2.fpOk (Nat.le_refl _) (I2.hok.fresh (Nat.le_refl _))
end
section
variable {X : Cx} {elt tg : Expr} {ifs : List Expr} {scope : Scope} {σ : St} {H : Hp} {N' : List Str} {A a d : Addr} {xs : List V} {kvs : List (Key × V)} {after : Hp → Prop}
theorem comp_listP (Pv : Nat → St → Hp → Prop) (h0 : Pv 0 σ H) (hl : ∀ i σ' H', i ≤ xs.length → Pv i σ' H' → SqL X.K H' a xs)
    (hs : ∀ i x σ' H', xs[i]? = some x → Pv i σ' H' → CEg X N' scope tg x σ' H' fun σ2 H3 => CEi X N' scope ifs σ2 H3 fun b H4 =>
      if b = true then CEv X N' scope elt σ2 H4 fun v H5 => ∃ ys, H5 A = some (.lst ys) ∧ ys.length < sizeLine ∧ Pv (i + 1) σ2 (upd H5 A (.lst (ys ++ [v]))) else Pv (i + 1) σ2 H4)
    (hd : ∀ σ' H', Pv xs.length σ' H' → after H') : CompL X N' scope tg ifs elt (Itl X.K a) A after σ H := by
  refine ⟨fun i m σ' H' => m = xs.length - i ∧ i ≤ xs.length ∧ Pv i σ' H', ⟨_, rfl, Nat.zero_le _, h0⟩, ?_⟩
  rintro i m σ' H' ⟨rfl, hi, p⟩
  have q := hl i σ' H' hi p
  by_cases hlt : i < xs.length
  · refine .inr ⟨⟨xs, xs[i], q, by simp [hlt]⟩, Pv (i + 1), fun σ' H' p' => ⟨xs.length - (i + 1), by omega, rfl, hlt, p'⟩, fun x H2 y => ?_⟩
    obtain ⟨e, y⟩ := y
    subst e
    exact hs i x σ' _ (y xs q) p
  · have e : i = xs.length := by omega
    subst e
    exact .inl ⟨⟨xs, q, Nat.le_refl _⟩, hd σ' H' p⟩
theorem comp_dictP {o : Obj} (Pv : Nat → St → Hp → Prop) (h0 : Pv 0 σ H) (hl : ∀ i σ' H', i ≤ kvs.length → Pv i σ' H' → H' d = some (.frz o (.dK kvs)))
    (hs : ∀ i p σ' H', kvs[i]? = some p → Pv i σ' H' → CEg X N' scope tg (kV p.1) σ' H' fun σ2 H3 => CEi X N' scope ifs σ2 H3 fun b H4 =>
      if b = true then CEv X N' scope elt σ2 H4 fun v H5 => ∃ ys, H5 A = some (.lst ys) ∧ ys.length < sizeLine ∧ Pv (i + 1) σ2 (upd H5 A (.lst (ys ++ [v]))) else Pv (i + 1) σ2 H4)
    (hd : ∀ σ' H', Pv kvs.length σ' H' → after H') : CompL X N' scope tg ifs elt (Itk d o kvs) A after σ H := by
  refine ⟨fun i m σ' H' => m = kvs.length - i ∧ i ≤ kvs.length ∧ Pv i σ' H', ⟨_, rfl, Nat.zero_le _, h0⟩, ?_⟩
  rintro i m σ' H' ⟨rfl, hi, p⟩
  have q := hl i σ' H' hi p
  by_cases hlt : i < kvs.length
  · refine .inr ⟨⟨q, hlt⟩, Pv (i + 1), fun σ' H' p' => ⟨kvs.length - (i + 1), by omega, rfl, hlt, p'⟩, fun x H2 y => ?_⟩
    obtain ⟨e, p', ep, y⟩ := y
    subst e y
    exact hs i p' σ' _ ep p
  · have e : i = kvs.length := by omega
    subst e
    exact .inl ⟨⟨q, Nat.le_refl _⟩, hd σ' H' p⟩
theorem comp_filt {zs : List Str} (f : Str → Bool) (hz : zs.length < sizeLine) (ha : H a = some (.lst (zs.map V.str))) (hA : H A = none)
    (hg : ∀ cl C s₀ H₀ ex v v0 H' R, R (σ ++ [some v]) H' → Eg (cxComp X N' scope cl C s₀ H₀ ex) tg v (σ ++ [v0]) H' R)
    (hi : ∀ cl C s₀ H₀ ex z ys T, T (f z) (upd H A (.lst ys)) → Ei (cxComp X N' scope cl C s₀ H₀ ex) ifs (σ ++ [some (.str z)]) (upd H A (.lst ys)) T)
    (he : ∀ cl C s₀ H₀ ex z H' R, R (V.str z) H' → Ev (cxComp X N' scope cl C s₀ H₀ ex) elt (σ ++ [some (.str z)]) H' R) (q : after (upd H A (.lst ((zs.filter f).map V.str)))) :
    CompL X N' scope tg ifs elt (Itl X.K a) A after (σ ++ List.replicate 1 none) (upd H A (.lst [])) := by
  have ne : a ≠ A := ne_of_none ha hA
  refine comp_listP (xs := zs.map V.str) (fun k σ' H' => (∃ v, σ' = σ ++ [v]) ∧ H' = upd H A (.lst (((zs.take k).filter f).map V.str))) ⟨⟨none, rfl⟩, by simp⟩ ?_ ?_ ?_
  · rintro i σ' H' _ ⟨_, rfl⟩
    exact SqL.of (by rw [upd_ne ne]; exact ha)
  · rintro i x σ' H' hx ⟨⟨v, rfl⟩, rfl⟩
    rw [List.getElem?_map, Option.map_eq_some_iff] at hx
    obtain ⟨z, hz', rfl⟩ := hx
    intro cl C s₀ H₀ ex
    refine hg cl C s₀ H₀ ex _ _ _ _ ?_
    intro cl C s₀ H₀ ex
    refine hi cl C s₀ H₀ ex z _ _ ?_
    have e : (zs.take (i + 1)).filter f = (zs.take i).filter f ++ (if f z = true then [z] else []) := by
      rw [List.take_add_one, hz', List.filter_append]
      congr 1
      cases hf : f z <;> simp [hf]
    have hlen : ((zs.take i).filter f).length ≤ zs.length := Nat.le_trans (List.length_filter_le _ _) (by rw [List.length_take]; omega)
    by_cases hf : f z = true
    · rw [if_pos hf]
      intro cl C s₀ H₀ ex
      refine he cl C s₀ H₀ ex z _ _ ⟨_, upd_same, by rw [List.length_map]; omega, ⟨_, rfl⟩, ?_⟩
      rw [upd_upd, e, if_pos hf, List.map_append]
      rfl
    · rw [if_neg hf]
      refine ⟨⟨_, rfl⟩, ?_⟩
      rw [e, if_neg hf, List.append_nil]
  · rintro σ' H' ⟨_, rfl⟩
    have e2 : zs.take (zs.map V.str).length = zs := List.take_of_length_le (by simp)
    rw [e2]
    exact q
theorem inV_strs (z : Str) (zs : List Str) : inV (.str z) (zs.map V.str) = zs.contains z := by
  unfold inV
  induction zs with
  | nil => rfl
  | cons y r ih =>
    rw [List.map_cons, List.any_cons, ih, List.contains_cons]
    congr 1
    show eqV (.str y) (.str z) = (z == y)
    by_cases h : y = z
    · subst h; simp [eqV]
    · have h' : z ≠ y := fun q => h q.symm
      show (y == z) = (z == y)
      rw [beq_eq_false_iff_ne.mpr h, beq_eq_false_iff_ne.mpr h']
theorem flat_strs (zs : List Str) : (zs.map V.str).all flatV = true := by
  rw [List.all_eq_true]
  intro x hx
  obtain ⟨z, _, rfl⟩ := List.mem_map.mp hx
  rfl
theorem eg_pair {e1 e2 : Expr} {k : Nat} {pos : Pos} {t : Addr} {x y : V} {R : St → Hp → Prop} (hc : X.calm = true) (ht : SqT X.K H t [x, y]) (h : Eg X e1 x σ H fun σ1 H1 => Eg X e2 y σ1 H1 R)
    (hn : (assignEach [e1, e2] X.env).length = 2 := by rfl) (hst : (assignEach [e1, e2] X.env).findIdx? (·.1) = none := by rfl)
    (hs1 : (assignEach [e1, e2] X.env).map (·.2) = assign e1 X.env :: (assignEach [e2] X.env).map (·.2) := by rfl) (hs2 : (assignEach [e2] X.env).map (·.2) = assign e2 X.env :: (assignEach [] X.env).map (·.2) := by rfl) :
    Eg X (.Tuple [e1, e2] k pos) (.ref t) σ H R :=
  eg_of (pg_tup (t := gCons (fun v σ H Q => Eg X e1 v σ H Q) (gCons (fun v σ H Q => Eg X e2 v σ H Q) gNil)) hc (pgs_cons pg_eg (pgs_cons pg_eg pgs_nil hs2) hs1) hn hst) ⟨t, _, rfl, ht, rfl, _, _, rfl, h.mono fun σ1 H1 h1 => ⟨_, _, rfl, h1.mono fun σ2 H2 q => ⟨rfl, q⟩⟩⟩
end
end L2
namespace Nt
open PySem L2
end Nt
namespace Nt
open PySem L2
noncomputable abbrev Bl := Str × Str × Bool
theorem keysP {κ : Type} [DecidableEq κ] (kvs : List (κ × V)) (k : κ) (v : V) : (putK kvs k v).map (·.1) = if k ∈ kvs.map (·.1) then kvs.map (·.1) else kvs.map (·.1) ++ [k] := by
  have e : (kvs.any fun kv => decide (kv.1 = k)) = decide (k ∈ kvs.map (·.1)) := by
    rw [Bool.eq_iff_iff, List.any_eq_true, decide_eq_true_iff, List.mem_map]
    exact ⟨fun ⟨p, h1, h2⟩ => ⟨p, h1, of_decide_eq_true h2⟩, fun ⟨p, h1, h2⟩ => ⟨p, h1, decide_eq_true h2⟩⟩
  unfold putK
  rw [e]
  by_cases h : k ∈ kvs.map (·.1)
  · rw [if_pos (decide_eq_true h), if_pos h, List.map_map]
    refine List.map_congr_left fun p _ => ?_
    show (if p.1 = k then (p.1, v) else p).1 = p.1
    split <;> rfl
  · rw [if_neg (by simpa using h), if_neg h, List.map_append]
    rfl
end Nt
namespace Nt
open PySem L2
open PyProof.Rows (sortedS)
noncomputable def Hang (n : Net) : Prop := ∀ P : Str → Prop, (∃ r ∈ n, P r.1) → (∀ r ∈ n, ∀ s ∈ n, ∀ t, t ∈ r.2 → t ∈ s.2 → P r.1 → P s.1) → ∀ r ∈ n, P r.1
theorem hang_of {n m : Net} (h1 : ∀ r ∈ n, ∃ s ∈ m, s.1 = r.1 ∧ ∀ t ∈ r.2, t ∈ s.2) (h2 : ∀ s ∈ m, ∃ r ∈ n, r.1 = s.1) (h : Hang n) : Hang m := by
  rintro P ⟨s, hs, ps⟩ cl s' hs'
  obtain ⟨r, hr, er⟩ := h2 s hs
  obtain ⟨r', hr', er'⟩ := h2 s' hs'
  rw [← er']
  refine h P ⟨r, hr, by rw [er]; exact ps⟩ (fun a ha b hb t ta tb pa => ?_) r' hr'
  obtain ⟨a', ha', ea, sa⟩ := h1 a ha
  obtain ⟨b', hb', eb, sb⟩ := h1 b hb
  rw [← eb]
  exact cl a' ha' b' hb' t (sa t ta) (sb t tb) (by rw [ea]; exact pa)
theorem hang_one (r : Str × List Str) : Hang [r] := by
  rintro P ⟨s, hs, ps⟩ _ x hx
  rw [List.mem_singleton] at hs hx
  rw [hx, ← hs]
  exact ps
theorem ins_at (n : Net) (c : End) (z : Str) (i : Nat) : (ins n c z)[i]? = (n[i]?).map fun r => if c.1 = i then (r.1, r.2.take c.2 ++ z :: r.2.drop c.2) else r := by
  unfold ins
  rw [List.getElem?_modify]
  by_cases h : c.1 = i
  · simp [h]
  · simp [h]
theorem hang_ins {n : Net} {c : End} {z : Str} (h : Hang n) : Hang (ins n c z) := by
  refine hang_of (fun r hr => ?_) (fun s hs => ?_) h
  · obtain ⟨i, hi⟩ := List.getElem?_of_mem hr
    have e := ins_at n c z i
    rw [hi] at e
    refine ⟨_, List.mem_of_getElem? e, ?_, fun t ht => ?_⟩
    · split <;> rfl
    · split
      · show t ∈ r.2.take c.2 ++ z :: r.2.drop c.2
        rw [← List.take_append_drop c.2 r.2] at ht
        rcases List.mem_append.mp ht with q | q
        · exact List.mem_append_left _ q
        · exact List.mem_append_right _ (List.mem_cons_of_mem _ q)
      · exact ht
  · obtain ⟨i, hi⟩ := List.getElem?_of_mem hs
    rw [ins_at, Option.map_eq_some_iff] at hi
    obtain ⟨r, hr, e⟩ := hi
    refine ⟨r, List.mem_of_getElem? hr, ?_⟩
    rw [← e]
    split <;> rfl
theorem ins_has {n : Net} {c : End} {z : Str} (hc : c.1 < n.length) : ∃ r ∈ ins n c z, z ∈ r.2 := by
  have e := ins_at n c z c.1
  rw [List.getElem?_eq_getElem hc] at e
  refine ⟨_, List.mem_of_getElem? e, ?_⟩
  show z ∈ (if c.1 = c.1 then ((n[c.1].1, n[c.1].2.take c.2 ++ z :: n[c.1].2.drop c.2) : Str × List Str) else n[c.1]).2
  rw [if_pos rfl]
  exact List.mem_append_right _ (List.mem_cons_self ..)
theorem hang_more {n : Net} {z pt : Str} (h : Hang n) (hz : ∃ r ∈ n, z ∈ r.2) : Hang (n ++ [(pt, [z])]) := by
  obtain ⟨r, hr, zr⟩ := hz
  rintro P ⟨s, hs, ps⟩ cl x hx
  have mn : ((pt, [z]) : Str × List Str) ∈ n ++ [(pt, [z])] := List.mem_append_right _ (List.mem_singleton.mpr rfl)
  have ml : ∀ {y}, y ∈ n → y ∈ n ++ [(pt, [z])] := fun hy => List.mem_append_left _ hy
  have all : ∀ y ∈ n, P y.1 := by
    refine h P ?_ (fun a ha b hb t ta tb pa => cl a (ml ha) b (ml hb) t ta tb pa)
    rcases List.mem_append.mp hs with q | q
    · exact ⟨s, q, ps⟩
    · rw [List.mem_singleton] at q
      subst q
      exact ⟨r, hr, cl _ mn r (ml hr) z (List.mem_singleton.mpr rfl) zr ps⟩
  rcases List.mem_append.mp hx with q | q
  · exact all x q
  · rw [List.mem_singleton] at q
    subst q
    exact cl r (ml hr) _ mn z zr (List.mem_singleton.mpr rfl) (all r hr)
noncomputable def Srt (zs : List Str) : Prop := zs.Pairwise (fun a b => a.cps.toList < b.cps.toList)
theorem srt_of : ∀ {zs : List Str}, sortedS zs = true → zs.Nodup → Srt zs
  | [], _, _ => List.Pairwise.nil
  | z :: r, h, hn => by
    rw [List.nodup_cons] at hn
    refine List.Pairwise.cons (fun x hx => ?_) (srt_of (SetT.rising_sorted h) hn.2)
    have h1 := SetT.rising_all r z h x hx
    rcases List.le_iff_lt_or_eq.mp h1 with q | q
    · exact q
    · exact absurd hx (by rw [← SetT.str_ext q]; exact hn.1)
theorem srt_unique : ∀ {a b : List Str}, Srt a → Srt b → (∀ x, x ∈ a ↔ x ∈ b) → a = b
  | [], [], _, _, _ => rfl
  | [], y :: b, _, _, h => by have := (h y).mpr (List.mem_cons_self ..); cases this
  | x :: a, [], _, _, h => by have := (h x).mp (List.mem_cons_self ..); cases this
  | x :: a, y :: b, ha, hb, h => by
    unfold Srt at ha hb
    rw [List.pairwise_cons] at ha hb
    have exy : x = y := by
      rcases List.mem_cons.mp ((h x).mp (List.mem_cons_self ..)) with e | e
      · exact e
      · rcases List.mem_cons.mp ((h y).mpr (List.mem_cons_self ..)) with e2 | e2
        · exact e2.symm
        · exact absurd (List.lt_trans (ha.1 y e2) (hb.1 x e)) (List.lt_irrefl _)
    subst exy
    have nx : ∀ (l : List Str), (∀ z ∈ l, x.cps.toList < z.cps.toList) → x ∉ l := fun l hl hm => List.lt_irrefl _ (hl x hm)
    have : a = b := srt_unique ha.2 hb.2 fun z => by
      constructor
      · intro hz
        rcases List.mem_cons.mp ((h z).mp (List.mem_cons_of_mem _ hz)) with e | e
        · exact absurd (e ▸ hz) (nx a ha.1)
        · exact e
      · intro hz
        rcases List.mem_cons.mp ((h z).mpr (List.mem_cons_of_mem _ hz)) with e | e
        · exact absurd (e ▸ hz) (nx b hb.1)
        · exact e
    rw [this]
noncomputable def fstN (n : Net) : Str := nmA n 0
theorem name_at {n : Net} {x : Str} (h : x ∈ n.map (·.1)) : ∃ i, i < n.length ∧ x = nmA n i := by
  obtain ⟨r, hr, e⟩ := List.mem_map.mp h
  obtain ⟨i, hi, q⟩ := List.mem_iff_getElem.mp hr
  exact ⟨i, hi, by rw [nmA_eq hi, q]; exact e.symm⟩
theorem at_name {n : Net} {i : Nat} (h : i < n.length) : nmA n i ∈ n.map (·.1) := by
  rw [nmA_eq h]
  exact List.mem_map.mpr ⟨_, List.getElem_mem h, rfl⟩
theorem other_lt {n : Net} (T : Twice n) {e : End} {z : Str} (h : tieAt n e = some z) : (other n e).1 < n.length := row_lt (other_spec T h).1
end Nt
namespace V2
open PySem L2 Nt Sort2
noncomputable def spPut : Sp := fun vs H Q _ => ∃ (R : Addr) (as : List (Addr × Addr)) (n : Net) (b : Int) (z pt : Str), vs = [.ref R, .int b, .str z, .str pt] ∧ RowsAt H R as n ∧ Twice n ∧ Full n ∧ z ∉ ties n ∧ n.length ≤ 100 ∧ (ties n).length ≤ 100 ∧
  ∀ i as' n' H', RowsAt H' R as' n' → Keep H H' (R :: as.map (·.2)) → (∀ a ∈ as', a ∈ as ∨ H a.2 = none) → (ties n').Perm (z :: z :: ties n) → (n'.map (·.1) = n.map (·.1) ∨ n'.map (·.1) = n.map (·.1) ++ [pt]) → Full n' → (Hang n → Hang n') → Q (.int i) H'
section
variable {P : Program} {w : World} {K : PySem.W.Frag} {mg : Str → Option Value} {base : Heap}
noncomputable abbrev NP : List Str := ["_law_rows", "_law_big_here", "_law_tie", "_law_point", "_law_corners", "_law_r", "_law_place", "_law_one", "_law_kind", "_law_face_here", "_law_other_here", "_law_spot"]
theorem scPut : FnScope NP ["_law_rows", "_law_big_here", "_law_tie", "_law_point"] (defScope sPut) := ⟨rfl, rfl, rfl, by decide +kernel, rfl, by decide +kernel, by decide +kernel⟩
theorem at_refs {ts : List Addr} {j : Nat} {t : Addr} (h : ts[j]? = some t) : atI (ts.map V.ref) (j : Int) = some (.ref t) := atI_nat (by rw [List.getElem?_map, h]; rfl)
theorem ok_put {f : Addr} {fd : FuncData} (F : Fun K "_law_put" "_law_put" sPut f fd) (T : Txt mg)
    (GS : Has P w K mg base 3 "_law_seats" ["_law_rows"] spSeats)
    (GF : Has P w K mg base 3 "_law_face" ["_law_rows", "_law_seats_here", "_law_end"] spFace) :
    FnOk P w K mg base CX0 4 f fd ["_law_rows", "_law_big_here", "_law_tie", "_law_point"] spPut := by
  refine F.gb scPut (fun vs H Q E h => ?_) (fun b0 H vs Q E hr h => ?_)
  · obtain ⟨R, as, n, b, z, pt, rfl, _⟩ := h
    rfl
  obtain ⟨R, as, n, b, z, pt, rfl, hR, hT, hF, hz, hn, htn, q⟩ := h
  have nd := scPut.nd
  have hu := hr.u100
  have hal := hR.len
  show Run _ _ _ [some (.ref R), some (.int b), some (.str z), some (.str pt), none, none, none, none, none, none, none, none] H
  refine run_set 4 nd (ev_lst (ea_nil ⟨(by show 0 ≤ sizeLine; decide), fun lc hlc => ?_⟩))
  have g0 := same_new hlc (.lst [])
  refine run_forR1 T.range (ev_blt call_len_seq T.len boot_len (ea_cons (ev_v 0 (ea_nil ⟨R, _, rfl, .inl (SqL.of (g0 _ _ hR.lst)), _, rfl, by omega, by rw [List.length_map]; omega, ?_⟩))))
  rw [List.length_map, hal, Int.toNat_natCast]
  refine loop_range (fun r σ H3 => ∃ (ts : List Addr) (cs : List Nt.End) (u1 u2 : Option V), Same H H3 ∧ H3 lc = some (.lst (ts.map V.ref)) ∧ Pd H3 ts cs ∧ (∀ c ∈ cs, Corner n c) ∧ (0 < r → cs ≠ []) ∧ cs.length ≤ 101 * r ∧ σ = [some (.ref R), some (.int b), some (.str z), some (.str pt), some (.ref lc), u1, u2, none, none, none, none, none]) ⟨[], [], _, _, g0, upd_same, .nil, fun c hc => (nomatch hc), fun h => absurd h (by decide), Nat.le_refl _, rfl⟩ ?_ ?_
  · rintro r σ H3 hi ⟨ts, cs, u1, u2, sH, el, ep, hc, hne, hlen, rfl⟩
    rw [Int.zero_add]
    refine eg_name 5 nd ?_
    obtain ⟨a, ea, eat, et, ell, er⟩ := (hR.same sH).at hi
    have hrl := row_le n r
    refine run_forR1 T.range (ev_blt (call_max2 rfl) T.max PyProof.Rows.boot_max (ea_cons (ev_int (ea_cons (ev_blt call_len_seq T.len boot_len (ea_cons (ev_ix ix_tup (ev_ix ix_list (ev_v 0 (ev_v 5 ⟨R, _, _, .ref a.1, rfl, rfl, SqL.of (sH _ _ hR.lst), eat, ev_int ⟨a.1, _, _, .ref a.2, rfl, rfl, SqT.of et, rfl, ea_nil ⟨a.2, _, rfl, .inl (SqL.of ell), ?_⟩⟩⟩))))))))))
    rw [List.length_map]
    have em : (if ((row n r).length : Int) > 1 then ((row n r).length : Int) else 1) = ((max 1 (row n r).length : Nat) : Int) := by
      split <;> omega
    refine ea_nil ⟨1, _, rfl, ((max 1 (row n r).length : Nat) : Int), by rw [em], by omega, by omega, ?_⟩
    rw [Int.toNat_natCast]
    refine loop_range (fun p σ H4 => ∃ (ts : List Addr) (cs : List Nt.End) (u2 : Option V), Same H H4 ∧ H4 lc = some (.lst (ts.map V.ref)) ∧ Pd H4 ts cs ∧ (∀ c ∈ cs, Corner n c) ∧ (0 < r + p → cs ≠ []) ∧ cs.length ≤ 101 * r + p ∧ σ = [some (.ref R), some (.int b), some (.str z), some (.str pt), some (.ref lc), some (.int (r : Int)), u2, none, none, none, none, none]) ⟨ts, cs, _, sH, el, ep, hc, hne, hlen, rfl⟩ ?_ ?_
    · rintro p σ H4 hp ⟨ts, cs, u2, sH, el, ep, hc, hne, hlen, rfl⟩
      rw [Int.zero_add]
      refine eg_name 6 nd ?_
      refine run_expr (ev_append (ev_v 4 ⟨lc, rfl, ⟨_, el⟩, ev_tup (ea_cons (ev_v 5 (ea_cons (ev_v 6 (ea_nil ⟨(by show 2 ≤ sizeLine; decide), fun t ht => ?_⟩)))))⟩))
      have htl : lc ≠ t := ne_of_none el ht
      have s2 := same_new ht (Tp (r, p))
      have epl := ep.length
      refine ⟨ts.map V.ref, by rw [upd_ne htl]; exact el, by rw [List.length_map]; exact small' (by omega), ?_⟩
      refine run_nil ⟨ts ++ [t], cs ++ [(r, p)], _, same_mut (sH.trans s2) hlc, by rw [upd_same, List.map_append]; rfl, ?_, fun c h => ?_, fun _ => by simp, by rw [List.length_append]; simp; omega, rfl⟩
      · refine Pd.append (ep.keep fun x e h => ?_) (.cons ?_ .nil)
        · rw [upd_ne (tp_ne_lst h el)]
          exact s2 _ _ h
        · rw [upd_ne htl.symm, upd_same]
      · rcases List.mem_append.mp h with h | h
        · exact hc c h
        · rw [List.mem_singleton] at h
          subst h
          exact ⟨hi, hp⟩
    · rintro σ H4 ⟨ts, cs, u2, sH, el, ep, hc, hne, hlen, rfl⟩
      refine run_nil ⟨ts, cs, _, _, sH, el, ep, hc, fun _ => hne (by omega), by omega, rfl⟩
  rintro σ H3 ⟨ts, cs, u1, u2, sH, el, ep, hc, hne, hlen, rfl⟩
  have hn0 : 0 < n.length := List.length_pos_iff.mpr hF.some
  have cne := hne hn0
  have cpos : 0 < cs.length := List.length_pos_iff.mpr cne
  have epl := ep.length
  have m0 : 0 ≤ b % (cs.length : Int) := Int.emod_nonneg _ (by omega)
  have m1 : b % (cs.length : Int) < cs.length := Int.emod_lt_of_pos _ (by omega)
  obtain ⟨j, hj⟩ : ∃ j : Nat, b % (cs.length : Int) = j := ⟨(b % (cs.length : Int)).toNat, by omega⟩
  have hjl : j < cs.length := by omega
  have hce : cs[j]? = some cs[j] := List.getElem?_eq_getElem hjl
  obtain ⟨t1, et1, e1⟩ := ep.at hce
  have hcc : Corner n cs[j] := hc _ (List.getElem_mem hjl)
  generalize cs[j] = c1 at e1 hcc
  refine run_set 7 nd (ev_ix ix_list (ev_v 4 (ev_op op_mod (ev_v 1 (ev_blt call_len_seq T.len boot_len (ea_cons (ev_v 4 (ea_nil ⟨lc, _, rfl, .inl (SqL.of el), ?_⟩))))))))
  rw [List.length_map, epl]
  refine ⟨_, _, rfl, rfl, by omega, lc, _, _, .ref t1, rfl, rfl, SqL.of el, by rw [hj]; exact at_refs et1, ?_⟩
  refine run_set 1 nd (ev_op op_fdiv (ev_v 1 (ev_blt call_len_seq T.len boot_len (ea_cons (ev_v 4 (ea_nil ⟨lc, _, rfl, .inl (SqL.of el), ?_⟩))))))
  rw [List.length_map, epl]
  refine ⟨_, _, rfl, rfl, ⟨by omega, by omega⟩, ?_⟩
  show Run _ _ _ [some (.ref R), some (.int (b / (cs.length : Int))), some (.str z), some (.str pt), some (.ref lc), u1, u2, some (.ref t1), none, none, none, none] H3
  generalize b / (cs.length : Int) = b2
  refine run_set 8 nd (ev_op op_mod (ev_v 1 (ev_int ⟨_, _, rfl, rfl, (by show (0 : Int) < 3; decide), ?_⟩)))
  refine run_set 1 nd (ev_op op_fdiv (ev_v 1 (ev_int ⟨_, _, rfl, rfl, ⟨by decide, by decide⟩, ?_⟩)))
  show Run _ _ _ [some (.ref R), some (.int (b2 / 3)), some (.str z), some (.str pt), some (.ref lc), u1, u2, some (.ref t1), some (.int (b2 % 3)), none, none, none] H3
  generalize b2 / 3 = b3
  have hR3 := hR.same sH
  obtain ⟨a, ea, eat, eta, ela, era⟩ := hR3.at hcc.1
  have insOk : ∀ (m : Net), (ties m).length ≤ 200 → ∀ i, (row m i).length ≤ 200 := fun m h i => Nat.le_trans (row_le m i) h
  have cin : c1.2 ≤ (row n c1.1).length := by
    have := hcc.2
    omega
  refine run_if (et_cmp op_eq (ev_v 8 (ev_int ⟨rfl, _, rfl, ?_⟩)))
  refine ite2 (fun _ => ?_) (fun _ => run_nil ?_)
  ·
    have rl := row_le n c1.1
    refine run_expr (ev_m2 PySem.F.plainAttrs_list PySem.F.slot_list_insert PySem.F.type_list_insert mt_insert (ev_ix ix_tup (ev_ix ix_list (ev_v 0 (ev_ix ix_tup (ev_v 7 (ev_int ⟨t1, _, _, .int (c1.1 : Int), rfl, rfl, SqT.of e1, rfl, R, _, _, .ref a.1, rfl, rfl, SqL.of hR3.lst, eat, ev_int ⟨a.1, _, _, .ref a.2, rfl, rfl, SqT.of eta, rfl, Or.inl ⟨rfl, _, SqL.of ela⟩, ?_⟩⟩)))))))
    refine ev_ix ix_tup (ev_v 7 (ev_int ⟨t1, _, _, .int (c1.2 : Int), rfl, rfl, SqT.of e1, rfl, ev_v 2 ⟨a.2, _, _, _, rfl, rfl, ela, by omega, by rw [Int.toNat_natCast, List.length_map]; exact cin, by rw [List.length_map]; exact small' (by omega), ?_⟩⟩))
    rw [Int.toNat_natCast, ls_ins]
    have R4 := hR3.ins (z := z) ea hcc.1
    refine run_expr (ev_append (ev_v 0 ⟨R, rfl, ⟨_, R4.lst⟩, ev_tup (ea_cons (ev_v 3 (ea_cons (ev_lst (ea_cons (ev_v 2 (ea_nil ⟨(by show 1 ≤ sizeLine; decide), fun l1 hl1 => ?_⟩)))))))⟩))
    refine ea_nil ⟨(by show 2 ≤ sizeLine; decide), fun t2 ht2 => ?_⟩
    have s5 := same_new hl1 (Ls [z])
    have s6 := same_new ht2 (.tup [.str pt, .ref l1])
    have R6 := (R4.same s5).same s6
    refine ⟨_, R6.lst, by rw [List.length_map]; exact small' (by omega), ?_⟩
    have l1f : H3 l1 = none := by
      by_cases q1 : l1 = a.2
      · rw [q1, upd_same] at hl1; cases hl1
      · rwa [upd_ne q1] at hl1
    have l1n : l1 ∉ as.map (·.2) := fun hm => by
      obtain ⟨x, hx, e⟩ := List.mem_map.mp hm
      exact R4.fresh hl1 hx e.symm
    have l1R : l1 ≠ R := fun e => by rw [e, R4.lst] at hl1; cases hl1
    have R7 := R6.more (t := t2) (l := l1) (pt := pt) (zs := [z]) upd_same (s6 _ _ upd_same) l1n l1R
    refine run_ret (ev_v 1 (q _ _ _ _ R7 (fun x o hx hbad => ?_) (fun x hx => ?_) ?_ (.inr ?_) ?_ fun hh => hang_more (hang_ins hh) (ins_has hcc.1)))
    · have x1 : x ≠ R := fun e => hbad (by rw [e]; exact List.mem_cons_self)
      have x2 : x ≠ a.2 := fun e => hbad (List.mem_cons_of_mem _ (by rw [e]; exact List.mem_map.mpr ⟨a, List.mem_of_getElem? ea, rfl⟩))
      rw [upd_ne x1]
      refine s6 _ _ (s5 _ _ ?_)
      rw [upd_ne x2]
      exact sH _ _ hx
    · rcases List.mem_append.mp hx with hx | hx
      · exact .inl hx
      · rw [List.mem_singleton] at hx
        subst hx
        exact .inr (sH.free l1f)
    · unfold ties
      rw [List.flatMap_append]
      show (ties (ins n c1 z) ++ [z]).Perm _
      refine (List.perm_append_comm).trans ?_
      exact (ties_ins n c1 z hcc.1).cons z
    · rw [List.map_append, ins_names]
      rfl
    · refine .inr ⟨by simp, fun i hi => ?_⟩
      have hfi := (full_ins (z := z) hF hcc.1 hF.either).1
      rw [List.length_append] at hi
      simp at hi
      rcases Nat.lt_or_ge i (ins n c1 z).length with h | h
      · have := hfi i h
        unfold row at this ⊢
        rw [List.getElem?_append_left h]
        exact this
      · unfold row
        rw [List.getElem?_append_right h, show i - (ins n c1 z).length = 0 by omega]
        simp
  ·
    refine run_set 9 nd (ev_lst (ea_cons (ev_v 7 (ea_nil ⟨(by show 1 ≤ sizeLine; decide), fun lf hlf => ?_⟩))))
    have s4 := same_new hlf (.lst [.ref t1])
    have sH4 := sH.trans s4
    have hR4 := hR3.same s4
    obtain ⟨a0, ea0, eat0, et0, el0, er0⟩ := hR4.at hn0
    have lf0 : ∀ x ∈ as, lf ≠ x.2 := fun x hx => hR3.fresh hlf hx
    show Run _ _ _ [some (.ref R), some (.int b3), some (.str z), some (.str pt), some (.ref lc), u1, u2, some (.ref t1), some (.int (b2 % 3)), some (.ref lf), none, none] (upd H3 lf (.lst [.ref t1]))
    refine run_ifH (fun k H' => Same (upd H3 lf (.lst [.ref t1])) H' ∧ (k = true → row n 0 ≠ [])) (fun σ' H' => ∃ (lf : Addr) (ts2 : List Addr) (fs : List Nt.End), Same H3 H' ∧ (∀ x ∈ as, lf ≠ x.2) ∧ H' lf = some (.lst (ts2.map V.ref)) ∧ Pd H' ts2 fs ∧ 0 < fs.length ∧ fs.length ≤ 1000 ∧ (∀ c ∈ fs, Corner n c) ∧
      σ' = [some (.ref R), some (.int b3), some (.str z), some (.str pt), some (.ref lc), u1, u2, some (.ref t1), some (.int (b2 % 3)), some (.ref lf), none, none]) ?_ ?_ (fun H5 ⟨s5, _⟩ => run_nil ⟨lf, [t1], [c1], s4.trans s5, lf0, s5 _ _ upd_same, .cons (s5 _ _ (s4 _ _ e1)) .nil, Nat.one_pos, by show 1 ≤ 1000; decide, fun c hcm => by rw [List.mem_singleton] at hcm; rw [hcm]; exact hcc, rfl⟩) ?_
    · refine et_cmp (op_neD hu) (ev_ix ix_tup (ev_ix ix_list (ev_v 0 (ev_int ⟨R, _, _, .ref a0.1, rfl, rfl, SqL.of hR4.lst, eat0, ev_int ⟨a0.1, _, _, .ref a0.2, rfl, rfl, SqT.of et0, rfl, ev_lst (ea_nil ⟨(by show 0 ≤ sizeLine; decide), fun p hp => ?_⟩)⟩⟩))))
      have s5 := same_new hp (.lst [])
      by_cases h0 : row n 0 = []
      · refine ⟨1, _, by decide, rnD_list (k := 0) (xs := []) (ys := []) (fun _ => true) (SqL.of (by rw [s5 _ _ el0, h0]; rfl)) (SqL.of upd_same) rfl (fun j x y hx _ => by simp at hx), _, rfl, s5, fun h => by cases h⟩
      · refine ⟨1, _, by decide, rnD_lens (k := 1) (SqL.of (s5 _ _ el0)) (SqL.of (xs := []) upd_same) (by rw [List.length_map]; intro h; exact h0 (List.length_eq_zero_iff.mp h)), _, rfl, s5, fun _ => h0⟩
    · rintro H4 ⟨s45, h0⟩
      have h0 := h0 rfl
      have hR4 := hR4.same s45
      have he1 := hF.corner h0 hcc
      have hel := ends_len n
      refine run_set 9 nd (ev_has GF hr (ea_cons (ev_v 0 (ea_cons (ev_has GS hr (ea_cons (ev_v 0 (ea_nil ⟨R, as, n, rfl, hR4, by omega, by omega, fun d ks H5 s5 n5 S5 => ?_⟩))))))))
      refine ea_cons (ev_v 7 (ea_nil ⟨R, d, t1, as, n, ks, c1, rfl, hR4.same s5, S5, hT, s5 _ _ (s45 _ _ (s4 _ _ e1)), he1, by omega, fun l6 ts6 fs6 H6 s6 n6 e6 p6 f6 => ?_⟩))
      exact run_nil ⟨l6, ts6, fs6, s4.trans (s45.trans (s5.trans s6)), fun x hx => (hR4.same s5).fresh n6 hx, e6, p6, f6.pos, by have := f6.len; omega, fun c hcm => corner_of (f6.ends hT he1 c hcm), rfl⟩
    · rintro σ' H5 ⟨lf, ts2, fs, s5, lfn, elf, epf, fpos, flen, fcor, rfl⟩
      have epl2 := epf.length
      have n0 : 0 ≤ b3 % (fs.length : Int) := Int.emod_nonneg _ (by omega)
      have n1 : b3 % (fs.length : Int) < fs.length := Int.emod_lt_of_pos _ (by omega)
      obtain ⟨j2, hj2⟩ : ∃ j : Nat, b3 % (fs.length : Int) = j := ⟨(b3 % (fs.length : Int)).toNat, by omega⟩
      have hjl2 : j2 < fs.length := by omega
      have hce2 : fs[j2]? = some fs[j2] := List.getElem?_eq_getElem hjl2
      obtain ⟨t2, et2, e2⟩ := epf.at hce2
      have hcc2 : Corner n fs[j2] := fcor _ (List.getElem_mem hjl2)
      generalize fs[j2] = c2 at e2 hcc2
      have e1' := s5 _ _ e1
      refine run_set 10 nd (ev_ix ix_list (ev_v 9 (ev_op op_mod (ev_v 1 (ev_blt call_len_seq T.len boot_len (ea_cons (ev_v 9 (ea_nil ⟨lf, _, rfl, .inl (SqL.of elf), ?_⟩))))))))
      rw [List.length_map, epl2]
      refine ⟨_, _, rfl, rfl, by omega, lf, _, _, .ref t2, rfl, rfl, SqL.of elf, by rw [hj2]; exact at_refs et2, ?_⟩
      have hR5 := hR3.same s5
      show Run _ _ _ [some (.ref R), some (.int b3), some (.str z), some (.str pt), some (.ref lc), u1, u2, some (.ref t1), some (.int (b2 % 3)), some (.ref lf), some (.ref t2), none] H5
      refine run_forL (ev_sorted2 T.sorted (ev_lst (ea_cons (ev_v 7 (ea_cons (ev_v 10 (ea_nil ⟨(by show 2 ≤ sizeLine; decide), fun l2 hl2 => ?_⟩)))))))
      have s6 := same_new hl2 (.lst [.ref t1, .ref t2])
      refine ⟨l2, t1, t2, (c1.1 : Int), (c1.2 : Int), (c2.1 : Int), (c2.2 : Int), rfl, upd_same, s6 _ _ e1', s6 _ _ e2, fun rr hrr => ?_⟩
      have rn : ∀ x ∈ as, rr ≠ x.2 := fun x hx => (hR5.same s6).fresh hrr hx
      obtain ⟨x1, x2, k1, k2, hxs, f1, f2, q1, q2⟩ : ∃ x1 x2 k1 k2, (if lexLt ((c1.1 : Int), (c1.2 : Int)) ((c2.1 : Int), (c2.2 : Int)) = true then [V.ref t2, .ref t1] else [.ref t1, .ref t2]) = [.ref x1, .ref x2] ∧ (upd H5 l2 (.lst [.ref t1, .ref t2])) x1 = some (Tp k1) ∧ (upd H5 l2 (.lst [.ref t1, .ref t2])) x2 = some (Tp k2) ∧ Corner n k1 ∧ Corner n k2 := by
        cases lexLt ((c1.1 : Int), (c1.2 : Int)) ((c2.1 : Int), (c2.2 : Int)) with
        | true => exact ⟨t2, t1, c2, c1, rfl, s6 _ _ e2, s6 _ _ e1', hcc2, hcc⟩
        | false => exact ⟨t1, t2, c1, c2, rfl, s6 _ _ e1', s6 _ _ e2, hcc, hcc2⟩
      rw [hxs]
      have s7 := same_new hrr (.lst [.ref x1, .ref x2])
      have f1 := s7 _ _ f1
      have f2 := s7 _ _ f2
      have s6 := s6.trans s7
      have fr := upd_same (H := upd H5 l2 (.lst [.ref t1, .ref t2])) (a := rr) (o := .lst [.ref x1, .ref x2])
      generalize upd (upd H5 l2 (.lst [.ref t1, .ref t2])) rr (.lst [.ref x1, .ref x2]) = H6 at f1 f2 s6 fr ⊢
      have sH6 : Same H H6 := sH.trans (s5.trans s6)
      have hR6 := hR5.same s6
      have keep0 : Keep H H6 (R :: as.map (·.2)) := fun x o hx _ => sH6 _ _ hx
      refine ⟨rr, rfl, ⟨_, SqL.of fr⟩, loop_list (xs := [.ref x1, .ref x2]) (fun i σ H7 => ∃ (m : Net) (u : Option V), RowsAt H7 R as m ∧ Keep H H7 (R :: as.map (·.2)) ∧ H7 rr = some (.lst [.ref x1, .ref x2]) ∧ H7 lf = some (.lst (ts2.map V.ref)) ∧ H7 x1 = some (Tp k1) ∧ H7 x2 = some (Tp k2) ∧
        ((i = 0 ∧ m = n) ∨ (i = 1 ∧ m = ins n k1 z) ∨ (i = 2 ∧ m = ins (ins n k1 z) k2 z)) ∧ σ = [some (.ref R), some (.int b3), some (.str z), some (.str pt), some (.ref lc), u1, u2, some (.ref t1), some (.int (b2 % 3)), some (.ref lf), some (.ref t2), u]) ⟨n, _, hR6, keep0, fr, s6 _ _ elf, f1, f2, .inl ⟨rfl, rfl⟩, rfl⟩ ?_ ?_ ?_⟩
      · rintro i σ H7 _ ⟨m, u, _, _, fr7, _⟩
        exact SqL.of fr7
      · rintro i v σ H7 hv ⟨m, u, hR7, kp7, fr7, fl7, g1, g2, hm, rfl⟩
        have ti1 := (ties_ins n k1 z q1.1).length_eq
        rw [List.length_cons] at ti1
        obtain ⟨y, k, rfl, hy, hk, hnext, hml⟩ : ∃ y k, v = .ref y ∧ H7 y = some (Tp k) ∧ Corner m k ∧ ((i + 1 = 0 ∧ ins m k z = n) ∨ (i + 1 = 1 ∧ ins m k z = ins n k1 z) ∨ (i + 1 = 2 ∧ ins m k z = ins (ins n k1 z) k2 z)) ∧ (ties m).length ≤ 200 := by
          rcases hm with ⟨rfl, rfl⟩ | ⟨rfl, rfl⟩ | ⟨rfl, rfl⟩
          · cases hv
            exact ⟨x1, k1, rfl, g1, q1, .inr (.inl ⟨rfl, rfl⟩), by omega⟩
          · cases hv
            exact ⟨x2, k2, rfl, g2, corner_ins q2 q1.1, .inr (.inr ⟨rfl, rfl⟩), by omega⟩
          · simp at hv
        refine eg_name 11 nd ?_
        obtain ⟨a', ea', eat', eta', ela', era'⟩ := hR7.at hk.1
        have rl := row_le m k.1
        have kin : k.2 ≤ (row m k.1).length := by
          have := hk.2
          omega
        refine run_expr (ev_m2 PySem.F.plainAttrs_list PySem.F.slot_list_insert PySem.F.type_list_insert mt_insert (ev_ix ix_tup (ev_ix ix_list (ev_v 0 (ev_ix ix_tup (ev_v 11 (ev_int ⟨y, _, _, .int (k.1 : Int), rfl, rfl, SqT.of hy, rfl, R, _, _, .ref a'.1, rfl, rfl, SqL.of hR7.lst, eat', ev_int ⟨a'.1, _, _, .ref a'.2, rfl, rfl, SqT.of eta', rfl, Or.inl ⟨rfl, _, SqL.of ela'⟩, ?_⟩⟩)))))))
        refine ev_ix ix_tup (ev_v 11 (ev_int ⟨y, _, _, .int (k.2 : Int), rfl, rfl, SqT.of hy, rfl, ev_v 2 ⟨a'.2, _, _, _, rfl, rfl, ela', by omega, by rw [Int.toNat_natCast, List.length_map]; exact kin, by rw [List.length_map]; exact small' (by omega), ?_⟩⟩))
        rw [Int.toNat_natCast, ls_ins]
        have am : a' ∈ as := List.mem_of_getElem? ea'
        refine run_nil ⟨ins m k z, _, hR7.ins ea' hk.1, fun x o hx hbad => ?_, by rw [upd_ne (rn a' am)]; exact fr7, by rw [upd_ne (lfn a' am)]; exact fl7, by rw [upd_ne (tp_ne_lst g1 ela')]; exact g1, by rw [upd_ne (tp_ne_lst g2 ela')]; exact g2, hnext, rfl⟩
        have x2 : x ≠ a'.2 := fun e => hbad (List.mem_cons_of_mem _ (by rw [e]; exact List.mem_map.mpr ⟨a', am, rfl⟩))
        rw [upd_ne x2]
        exact kp7 x o hx hbad
      · rintro σ H7 ⟨m, u, hR7, kp7, fr7, fl7, g1, g2, hm, rfl⟩
        have em : m = ins (ins n k1 z) k2 z := by
          rcases hm with ⟨h, _⟩ | ⟨h, _⟩ | ⟨_, h⟩
          · exact absurd h (by show ¬ (2 = 0); decide)
          · exact absurd h (by show ¬ (2 = 1); decide)
          · exact h
        refine run_ret (ev_op op_fdiv (ev_v 1 (ev_blt call_len_seq T.len boot_len (ea_cons (ev_v 9 (ea_nil ⟨lf, _, rfl, .inl (SqL.of fl7), ?_⟩))))))
        rw [List.length_map, epl2]
        refine ⟨_, _, rfl, rfl, ⟨by omega, by omega⟩, ?_⟩
        have fi := full_ins (z := z) hF q1.1 hF.either
        have F2 : Full (ins n k1 z) := .inr ⟨fi.2, fi.1⟩
        have fi2 := full_ins (z := z) F2 (corner_ins (z := z) q2 q1.1).1 F2.either
        subst em
        exact q _ as _ H7 hR7 kp7 (fun x hx => .inl hx) ((ties_ins _ k2 z (corner_ins (z := z) q2 q1.1).1).trans ((ties_ins n k1 z q1.1).cons z)) (.inl (by rw [ins_names, ins_names])) (.inr ⟨fi2.2, fi2.1⟩) fun hh => hang_ins (hang_ins hh)
end
end V2
namespace V2
open PySem L2 Nt Sort2
noncomputable def spNet : Sp := fun vs H Q _ => ∃ (b m sm : Int), vs = [.int b, .int m, .int sm] ∧ 0 ≤ m ∧ m ≤ 35 ∧
  ∀ L as n H', Same H H' → H L = none → RowsAt H' L as n → Twice n → (n.map (·.1)).Nodup → Full n → Hang n → (ties n).length ≤ 2 * m.toNat → 2 * (b % (m + 1)).toNat = (ties n).length → n.length ≤ m.toNat + 1 → (∀ a ∈ as, H a.2 = none) → Q (.ref L) H'
section
variable {P : Program} {w : World} {K : PySem.W.Frag} {mg : Str → Option Value} {base : Heap}
noncomputable abbrev NB : List Str := ["_law_big_here", "_law_most", "_law_stem", "_law_many", "_law_ties_here", "_law_points", "_law_rows", "_law_k", "_law_told", "_law_row", "_law_size"]
theorem scNet : FnScope NB ["_law_big_here", "_law_most", "_law_stem"] (defScope sNet) := ⟨rfl, rfl, rfl, by decide +kernel, rfl, by decide +kernel, by decide +kernel⟩
theorem ty_lst {H : Hp} {d : Addr} {xs : List V} (h : H d = some (.lst xs)) : tyV K "list" (.ref d) H := Or.inl ⟨rfl, xs, SqL.of h⟩
theorem at_name {b : Int} {m i : Nat} (h : i < m) : atI ((namesOf b m).map V.str) (i : Int) = some (.str (nameOf b i)) := at_strs (namesOf_at h)
theorem ok_net {f : Addr} {fd : FuncData} (F : Fun K "_law_net_by" "_law_net_by" sNet f fd) (T : Txt mg)
    (GN : Has P w K mg base 4 "_law_names" ["_law_stem", "_law_many"] spNames)
    (GP : Has P w K mg base 4 "_law_put" ["_law_rows", "_law_big_here", "_law_tie", "_law_point"] spPut) :
    FnOk P w K mg base CX0 5 f fd ["_law_big_here", "_law_most", "_law_stem"] spNet := by
  refine F.gb scNet (fun vs H Q E h => ?_) (fun b0 H vs Q E hr h => ?_)
  · obtain ⟨b, m, sm, rfl, _⟩ := h
    rfl
  obtain ⟨b, m, sm, rfl, m0, m35, q⟩ := h
  have nd := scNet.nd
  have hu := hr.u100
  have k0 : 0 ≤ b % (m + 1) := Int.emod_nonneg _ (by omega)
  have k1 : b % (m + 1) < m + 1 := Int.emod_lt_of_pos _ (by omega)
  obtain ⟨mn, hmn⟩ : ∃ k : Nat, b % (m + 1) = k := ⟨(b % (m + 1)).toNat, by omega⟩
  have hmm : mn ≤ m.toNat := by omega
  show Run _ _ _ [some (.int b), some (.int m), some (.int sm), none, none, none, none, none, none, none, none] H
  refine run_set 3 nd (ev_op op_mod (ev_v 0 (ev_op op_add (ev_v 1 (ev_int ⟨_, _, rfl, rfl, ?_⟩)))))
  refine ⟨_, _, rfl, rfl, (by show 0 < m + 1; omega), ?_⟩
  refine run_set 0 nd (ev_op op_fdiv (ev_v 0 (ev_op op_add (ev_v 1 (ev_int ⟨_, _, rfl, rfl, ?_⟩)))))
  refine ⟨_, _, rfl, rfl, (by show CDiv b (m + 1); exact ⟨by omega, by omega⟩), ?_⟩
  show Run _ _ _ [some (.int (b / (m + 1))), some (.int m), some (.int sm), some (.int (b % (m + 1))), none, none, none, none, none, none, none] H
  rw [hmn]
  generalize b / (m + 1) = b1
  refine run_set 4 nd (ev_has GN hr (ea_cons (ev_v 2 (ea_cons (ev_v 3 (ea_nil ⟨sm, (mn : Int), rfl, by omega, by omega, fun lt H1 s1 n1 e1 => ?_⟩))))))
  rw [Int.toNat_natCast] at e1
  refine run_set 5 nd (ev_has GN hr (ea_cons (ev_ix ix_list (ev_lst (ea_cons (ev_op op_add (ev_op op_fdiv (ev_v 2 (ev_int ⟨_, _, rfl, rfl, ⟨by decide, by decide⟩, ev_int ⟨_, _, rfl, rfl, ea_cons (ev_v 2 (ea_nil ⟨(by show 2 ≤ sizeLine; decide), fun p hp => ?_⟩))⟩⟩)))))))))
  refine ev_typ call_intB T.tint PyProof.Rows.boot_int (ea_cons (ev_cmp op_eq (ev_op op_mod (ev_v 2 (ev_int ⟨_, _, rfl, rfl, (by show (0 : Int) < 4; decide), ev_int ⟨rfl, ea_nil ⟨_, rfl, ?_⟩⟩⟩)))))
  have s2 := same_new hp (.lst [.int (sm / 3 + 1), .int sm])
  obtain ⟨s2m, ex⟩ : ∃ s2m : Int, atI [V.int (sm / 3 + 1), .int sm] (if decide (V.int (sm % 4) = V.int 1) = true then 1 else 0) = some (.int s2m) := by
    cases decide (V.int (sm % 4) = V.int 1) with
    | true => exact ⟨sm, rfl⟩
    | false => exact ⟨sm / 3 + 1, rfl⟩
  refine ⟨p, _, _, .int s2m, rfl, rfl, SqL.of upd_same, ex, ?_⟩
  refine ea_cons (ev_op op_add (ev_v 3 (ev_int ⟨_, _, rfl, rfl, ea_nil ⟨s2m, (mn : Int) + 1, rfl, by omega, by omega, fun lp H2 s3 n3 e3 => ?_⟩⟩)))
  have em : ((mn : Int) + 1).toNat = mn + 1 := by omega
  rw [em] at e3
  have sH2 : Same H H2 := s1.trans (s2.trans s3)
  have e1 : H2 lt = some (Ls (namesOf sm mn)) := s3 _ _ (s2 _ _ e1)
  show Run _ _ _ [some (.int b1), some (.int m), some (.int sm), some (.int (mn : Int)), some (.ref lt), some (.ref lp), none, none, none, none, none] H2
  refine run_set 6 nd (ev_lst (ea_cons (ev_tup (ea_cons (ev_ix ix_list (ev_v 5 (ev_int ⟨lp, _, _, .str (nameOf s2m 0), rfl, rfl, SqL.of e3, at_name (Nat.succ_pos _), ea_cons (ev_lst (ea_nil ⟨(by show 0 ≤ sizeLine; decide), fun l1 hl1 => ?_⟩))⟩)))))))
  refine ea_nil ⟨(by show 2 ≤ sizeLine; decide), fun t1 ht1 => ea_nil ⟨(by show 1 ≤ sizeLine; decide), fun R hRn => ?_⟩⟩
  have s4 := same_new hl1 (Ls [])
  have s5 := same_new ht1 (.tup [.str (nameOf s2m 0), .ref l1])
  have s6 := same_new hRn (.lst [.ref t1])
  have hR0 : RowsAt (upd (upd (upd H2 l1 (.lst [])) t1 (.tup [.str (nameOf s2m 0), .ref l1])) R (.lst [.ref t1])) R [(t1, l1)] [(nameOf s2m 0, [])] := by
    refine ⟨rfl, upd_same, fun i a r h1 h2 => ?_, by simp⟩
    cases i with
    | zero =>
      cases h1
      cases h2
      exact ⟨s6 _ _ upd_same, s6 _ _ (s5 _ _ upd_same)⟩
    | succ i => simp at h1
  have fR : H2 R = none := s4.free (s5.free hRn)
  show Run _ _ _ [some (.int b1), some (.int m), some (.int sm), some (.int (mn : Int)), some (.ref lt), some (.ref lp), some (.ref R), none, none, none, none] (upd (upd (upd H2 l1 (.lst [])) t1 (.tup [.str (nameOf s2m 0), .ref l1])) R (.lst [.ref t1]))
  refine run_forR1 T.range (ev_v 3 ⟨(mn : Int), rfl, by omega, by omega, ?_⟩)
  rw [Int.toNat_natCast]
  refine loop_range (fun k σ H3 => ∃ (as : List (Addr × Addr)) (n : Net) (b : Int) (u : Option V), RowsAt H3 R as n ∧ Same H2 H3 ∧ (∀ a ∈ as, H2 a.2 = none) ∧ Full n ∧ Hang n ∧ (ties n).Perm (dbl (namesOf sm k)) ∧ n.map (·.1) = namesOf s2m n.length ∧ n.length ≤ k + 1 ∧
    σ = [some (.int b), some (.int m), some (.int sm), some (.int (mn : Int)), some (.ref lt), some (.ref lp), some (.ref R), u, none, none, none]) ⟨_, _, b1, _, hR0, s4.trans (s5.trans s6), fun a ha => by rw [List.mem_singleton] at ha; rw [ha]; exact hl1, .inl ⟨_, rfl⟩, hang_one _, List.Perm.refl _, rfl, Nat.le_refl _, rfl⟩ ?_ ?_
  · rintro k σ H3 hk ⟨as, n, b, u, hR, sH, hfr, hF, hHg, hp, hnm, hlen, rfl⟩
    rw [Int.zero_add]
    refine eg_name 7 nd ?_
    have hal := hR.len
    have tl := hp.length_eq
    rw [dbl_len, namesOf_len] at tl
    have nz : nameOf sm k ∉ ties n := fun h => by
      have h1 := dbl_mem.mp (hp.mem_iff.mp h)
      have h2 := namesOf_nodup (b := sm) (m := k + 1) (by omega)
      rw [namesOf_succ, List.nodup_append] at h2
      exact h2.2.2 _ h1 _ (List.mem_singleton.mpr rfl) rfl
    have n0 : 0 < n.length := List.length_pos_iff.mpr hF.some
    refine run_set 0 nd (ev_has GP hr (ea_cons (ev_v 6 (ea_cons (ev_v 0 (ea_cons (ev_ix ix_list (ev_v 4 (ev_v 7 ⟨lt, _, _, .str (nameOf sm k), rfl, rfl, SqL.of (sH _ _ e1), at_name hk, ?_⟩)))))))))
    refine ea_cons (ev_ix ix_list (ev_v 5 (ev_blt call_len_seq T.len boot_len (ea_cons (ev_v 6 (ea_nil ⟨R, _, rfl, .inl (SqL.of hR.lst), ?_⟩))))))
    rw [List.length_map, hal]
    refine ⟨lp, _, _, .str (nameOf s2m n.length), rfl, rfl, SqL.of (sH _ _ e3), at_name (by omega), ?_⟩
    refine ea_nil ⟨R, as, n, b, nameOf sm k, nameOf s2m n.length, rfl, hR, twice_of (namesOf_nodup (by omega)) hp, hF, nz, by omega, by omega, fun i as' n' H' hR' kp hfr' hp' hnm' hF' hHg' => ?_⟩
    have sH' : Same H2 H' := fun x o hx => by
      refine kp x o (sH _ _ hx) fun hm => ?_
      rcases List.mem_cons.mp hm with h | h
      · rw [h, fR] at hx; cases hx
      · obtain ⟨y, hy, e⟩ := List.mem_map.mp h
        rw [← e, hfr y hy] at hx; cases hx
    refine run_nil ⟨as', n', i, _, hR', sH', fun y hy => ?_, hF', hHg' hHg, ?_, ?_, ?_, rfl⟩
    · rcases hfr' y hy with h | h
      · exact hfr y h
      · exact sH.free h
    · refine hp'.trans ?_
      rw [namesOf_succ, dbl_snoc]
      refine List.Perm.trans ?_ List.perm_append_comm
      exact ((hp.cons _).cons _)
    · rcases hnm' with h | h
      · have hl := congrArg List.length h
        rw [List.length_map, List.length_map] at hl
        rw [h, hl]
        exact hnm
      · have hl := congrArg List.length h
        rw [List.length_map, List.length_append, List.length_map] at hl
        have hl' : n'.length = n.length + 1 := hl
        rw [h, hl', namesOf_succ, hnm]
    · rcases hnm' with h | h
      · have hl := congrArg List.length h
        rw [List.length_map, List.length_map] at hl
        omega
      · have hl := congrArg List.length h
        rw [List.length_map, List.length_append, List.length_map] at hl
        have hl' : n'.length = n.length + 1 := hl
        omega
  rintro σ H3 ⟨as0, n0, b, u, hR, sH, hfr, hF, hHg, hp, hnm, hlen, rfl⟩
  have tl := hp.length_eq
  rw [dbl_len, namesOf_len] at tl
  have hT0 : Twice n0 := twice_of (namesOf_nodup (by omega)) hp
  have hN0 : (n0.map (·.1)).Nodup := by rw [hnm]; exact namesOf_nodup (by omega)
  refine run_set 8 nd (ev_lst (ea_nil ⟨(by show 0 ≤ sizeLine; decide), fun L hL => ?_⟩))
  have s7 := same_new hL (.lst [])
  have hRL : R ≠ L := ne_of_none hR.lst hL
  have fL : H2 L = none := sH.free hL
  have hL0 : RowsAt (upd H3 L (.lst [])) L [] [] := ⟨rfl, upd_same, fun i a r h1 => by simp at h1, by simp⟩
  refine run_while (fun k σ H4 => ∃ (as as2 : List (Addr × Addr)) (n n2 : Net) (b : Int) (u9 u10 : Option V), k = n.length ∧ RowsAt H4 R as n ∧ RowsAt H4 L as2 n2 ∧ Same H2 H4 ∧ (∀ a ∈ as, a.2 ≠ L) ∧ (∀ a ∈ as2, a.2 ≠ R) ∧ (∀ a ∈ as2, H2 a.2 = none) ∧ n.length + n2.length = n0.length ∧
      (ties n ++ ties n2).Perm (ties n0) ∧ (n.map (·.1) ++ n2.map (·.1)).Perm (n0.map (·.1)) ∧ (NE n0 → NE n ∧ NE n2) ∧ (∀ r ∈ n0, ∃ x ∈ n ++ n2, x.1 = r.1 ∧ ∀ t ∈ r.2, t ∈ x.2) ∧ (∀ x ∈ n ++ n2, ∃ r ∈ n0, r.1 = x.1) ∧
      σ = [some (.int b), some (.int m), some (.int sm), some (.int (mn : Int)), some (.ref lt), some (.ref lp), some (.ref R), u, some (.ref L), u9, u10])
    (m0 := n0.length) ⟨as0, [], n0, [], b, _, _, rfl, hR.same s7, hL0, sH.trans s7, fun a ha => (hR.fresh hL ha).symm, fun a ha => (nomatch ha), fun a ha => (nomatch ha), rfl, by simp [ties], by simp, fun h => ⟨h, fun r hr => (nomatch hr)⟩, fun r hr => ⟨r, by rw [List.append_nil]; exact hr, rfl, fun t ht => ht⟩, fun x hx => ⟨x, by rw [List.append_nil] at hx; exact hx, rfl⟩, rfl⟩ ?_
  rintro k σ H4 ⟨as, as2, n, n2, b, u9, u10, rfl, hR, hL2, sH, aL, aR, fr2, hlen2, pt, pn, hne, hg1, hg2, rfl⟩
  have hal := hR.len
  have hal2 := hL2.len
  have tlen : (ties n).length ≤ 70 := by
    have := pt.length_eq
    rw [List.length_append] at this
    omega
  refine et_cmp (op_neD hu) (ev_v 6 (ev_lst (ea_nil ⟨(by show 0 ≤ sizeLine; decide), fun p hp2 => ?_⟩)))
  have s8 := same_new hp2 (.lst [])
  by_cases h0 : n = []
  · subst h0
    have ea : as = [] := List.length_eq_zero_iff.mp (by simpa using hal)
    subst ea
    refine ⟨1, _, by decide, rnD_list (k := 0) (xs := []) (ys := []) (fun _ => true) (SqL.of (s8 _ _ hR.lst)) (SqL.of upd_same) rfl (fun j x y hx _ => by simp at hx), _, rfl, iteF (run_ret (ev_v 8 ?_))⟩
    have pt' : (ties n2).Perm (ties n0) := pt
    have pn' : (n2.map (·.1)).Perm (n0.map (·.1)) := pn
    have l2 : n2.length = n0.length := by simpa using hlen2
    refine q L as2 n2 _ (sH2.trans (sH.trans s8)) (sH2.free fL) (hL2.same s8) (fun z hz => ?_) (pn'.nodup_iff.mpr hN0) ?_ (hang_of hg1 hg2 hHg) (by rw [pt'.length_eq]; omega) (by rw [pt'.length_eq, hmn]; omega) (by omega) fun a ha => sH2.free (fr2 a ha)
    · rw [pt'.count_eq]
      exact hT0 z (pt'.mem_iff.mp hz)
    · rcases hF.ne with ⟨nm, h⟩ | h
      · subst h
        have t0 : ties n2 = [] := List.Perm.eq_nil pt'
        match n2, l2, t0 with
        | [(nm2, zs)], _, t0 =>
          have : zs = [] := by simpa [ties] using t0
          subst this
          exact .inl ⟨_, rfl⟩
      · refine ne_full (hne h).2 fun e => ?_
        rw [e] at l2
        exact hF.some (List.length_eq_zero_iff.mp l2.symm)
  · have np : 0 < n.length := List.length_pos_iff.mpr h0
    refine ⟨1, _, by decide, rnD_lens (k := 1) (SqL.of (s8 _ _ hR.lst)) (SqL.of (xs := []) upd_same) (by rw [List.length_map, hal]; exact Nat.ne_of_gt np), _, rfl, iteT ?_⟩
    have hR := hR.same s8
    have hL2 := hL2.same s8
    have sH := sH.trans s8
    generalize upd H4 p (.lst []) = H5 at hR hL2 sH ⊢
    have r0 : 0 ≤ b % (n.length : Int) := Int.emod_nonneg _ (by omega)
    have r1 : b % (n.length : Int) < n.length := Int.emod_lt_of_pos _ (by omega)
    obtain ⟨j, hj⟩ : ∃ k : Nat, b % (n.length : Int) = k := ⟨(b % (n.length : Int)).toNat, by omega⟩
    have hjn : j < n.length := by omega
    obtain ⟨a, ea, eat, et, el, er⟩ := hR.at hjn
    refine run_set 9 nd (ev_m1 PySem.F.plainAttrs_list PySem.F.slot_list_pop PySem.F.type_list_pop mt_popAt (ev_v 6 ⟨ty_lst hR.lst, ev_op op_mod (ev_v 0 (ev_blt call_len_seq T.len boot_len (ea_cons (ev_v 6 (ea_nil ⟨R, _, rfl, .inl (SqL.of hR.lst), ?_⟩)))))⟩))
    rw [List.length_map, hal]
    refine ⟨_, _, rfl, rfl, by omega, R, _, _, j, .ref a.1, rfl, rfl, hR.lst, by rw [hj]; omega, by rw [hj]; omega, ?_, ?_, ?_⟩
    · rw [hj, List.length_map, hal]
      unfold seqIndex?
      have c1 : ¬ ((j : Int) < 0) := by omega
      simp only [c1, if_false]
      have c2 : (decide (0 ≤ (j : Int)) && decide ((j : Int) < (n.length : Int))) = true := by
        rw [Bool.and_eq_true, decide_eq_true_eq, decide_eq_true_eq]
        omega
      rw [if_pos c2, Int.toNat_natCast]
    · rw [List.getElem?_map, ea]
      rfl
    have R6 := hR.erase hjn
    have am : a ∈ as := List.mem_of_getElem? ea
    have lneR : ∀ x ∈ as, x.2 ≠ R := fun x hx e => by
      obtain ⟨zs, e2⟩ := hR.lists hx
      have h3 := hR.lst
      rw [← e, e2] at h3
      have h4 := HO.lst.inj (Option.some.inj h3)
      cases as with
      | nil => cases hx
      | cons b' bs =>
        cases zs with
        | nil => simp at h4
        | cons y r => simp at h4
    have L6 := hL2.upd (o := .lst ((as.map fun a => V.ref a.1).eraseIdx j)) hR.lst hRL.symm aR
    have et6 : (upd H5 R (.lst ((as.map fun a => V.ref a.1).eraseIdx j))) a.1 = some (.tup [.str n[j].1, .ref a.2]) := by rw [upd_ne (ne_of et hR.lst fun e => nomatch e)]; exact et
    have el6 : (upd H5 R (.lst ((as.map fun a => V.ref a.1).eraseIdx j))) a.2 = some (Ls (row n j)) := by rw [upd_ne (lneR a am)]; exact el
    have sH6 : Same H2 (upd H5 R (.lst ((as.map fun a => V.ref a.1).eraseIdx j))) := same_mut sH fR
    generalize upd H5 R (.lst ((as.map fun a => V.ref a.1).eraseIdx j)) = H6 at R6 L6 et6 el6 sH6 ⊢
    have le6 := R6.len
    have len6 : (n.eraseIdx j).length = n.length - 1 := by rw [List.length_eraseIdx, if_pos hjn]
    refine run_set 0 nd (ev_op op_fdiv (ev_v 0 (ev_op op_add (ev_blt call_len_seq T.len boot_len (ea_cons (ev_v 6 (ea_nil ⟨R, _, rfl, .inl (SqL.of R6.lst), ev_int ⟨_, _, rfl, rfl, ?_⟩⟩)))))))
    rw [List.length_map, le6, len6]
    refine ⟨_, _, rfl, rfl, ⟨by omega, by omega⟩, ?_⟩
    have rlen := row_le n j
    refine run_set 10 nd (ev_blt (call_max2 rfl) T.max PyProof.Rows.boot_max (ea_cons (ev_int (ea_cons (ev_blt call_len_seq T.len boot_len (ea_cons (ev_ix ix_tup (ev_v 9 (ev_int ⟨a.1, _, _, .ref a.2, rfl, rfl, SqT.of et6, rfl, ea_nil ⟨a.2, _, rfl, .inl (SqL.of el6), ?_⟩⟩)))))))))
    rw [List.length_map]
    refine ea_nil ⟨1, _, rfl, ?_⟩
    have emx : (if ((row n j).length : Int) > 1 then ((row n j).length : Int) else 1) = ((max 1 (row n j).length : Nat) : Int) := by
      split <;> omega
    rw [emx]
    show Run _ _ _ [some (.int (b / ((n.length - 1 : Nat) + 1 : Int))), some (.int m), some (.int sm), some (.int (mn : Int)), some (.ref lt), some (.ref lp), some (.ref R), u, some (.ref L), some (.ref a.1), some (.int ((max 1 (row n j).length : Nat) : Int))] H6
    generalize b / ((n.length - 1 : Nat) + 1 : Int) = b2
    have z0 : 0 ≤ b2 % ((max 1 (row n j).length : Nat) : Int) := Int.emod_nonneg _ (by omega)
    obtain ⟨i, hi⟩ : ∃ k : Nat, b2 % ((max 1 (row n j).length : Nat) : Int) = k := ⟨(b2 % ((max 1 (row n j).length : Nat) : Int)).toNat, by omega⟩
    refine run_expr (ev_append (ev_v 8 ⟨L, rfl, ⟨_, L6.lst⟩, ev_tup (ea_cons (ev_ix ix_tup (ev_v 9 (ev_int ⟨a.1, _, _, .str n[j].1, rfl, rfl, SqT.of et6, rfl, ?_⟩))))⟩))
    refine ea_cons (ev_op op_cat (ev_slice sl_list (ev_ix ix_tup (ev_v 9 (ev_int ⟨a.1, _, _, .ref a.2, rfl, rfl, SqT.of et6, rfl, eo_some (ev_op op_mod (ev_v 0 (ev_v 10 ⟨b2, ((max 1 (row n j).length : Nat) : Int), rfl, rfl, by omega, _, rfl, eo_none ⟨a.2, _, rfl, SqL.of el6, fun p1 hp1 => ?_⟩⟩)))⟩)))))
    rw [hi, cut_from]
    have t1 := same_new hp1 (Ls ((row n j).drop i))
    refine ev_slice sl_list (ev_ix ix_tup (ev_v 9 (ev_int ⟨a.1, _, _, .ref a.2, rfl, rfl, SqT.of (t1 _ _ et6), rfl, eo_none (eo_some (ev_op op_mod (ev_v 0 (ev_v 10 ⟨b2, ((max 1 (row n j).length : Nat) : Int), rfl, rfl, by omega, _, rfl, a.2, _, rfl, SqL.of (t1 _ _ el6), fun p2 hp2 => ?_⟩))))⟩)))
    rw [hi, cut_to]
    have t2 := same_new hp2 (Ls ((row n j).take i))
    refine ⟨p1, p2, _, _, rfl, rfl, t2 _ _ upd_same, upd_same, ?_, fun p3 hp3 => ?_⟩
    · rw [List.length_map, List.length_map, List.length_drop, List.length_take]
      exact small (by omega)
    rw [← List.map_append]
    have t3 := same_new hp3 (Ls ((row n j).drop i ++ (row n j).take i))
    refine ea_nil ⟨(by show 2 ≤ sizeLine; decide), fun t4 ht4 => ?_⟩
    have s4 := same_new ht4 (.tup [.str n[j].1, .ref p3])
    have sAll := t1.trans (t2.trans (t3.trans s4))
    have L7 := L6.same sAll
    have R7 := R6.same sAll
    have p3L : p3 ≠ L := fun e => by rw [e, (t1.trans t2) _ _ L6.lst] at hp3; cases hp3
    have p3R : p3 ≠ R := fun e => by rw [e, (t1.trans t2) _ _ R6.lst] at hp3; cases hp3
    have p3n : p3 ∉ as2.map (·.2) := fun hm => by
      obtain ⟨y, hy, e⟩ := List.mem_map.mp hm
      exact (L6.same (t1.trans t2)).fresh hp3 hy e.symm
    have L8 := L7.more (t := t4) (l := p3) (pt := n[j].1) (zs := (row n j).drop i ++ (row n j).take i) upd_same (s4 _ _ upd_same) p3n p3L
    refine ⟨_, L7.lst, by rw [List.length_map, hal2]; exact small' (by omega), ?_⟩
    have aL6 : ∀ x ∈ as.eraseIdx j, x.2 ≠ L := fun x hx => aL x (List.mem_of_mem_eraseIdx hx)
    have R8 := R7.upd (o := .lst (as2.map (fun a => V.ref a.1) ++ [.ref t4])) L7.lst hRL aL6
    refine run_set 0 nd (ev_op op_fdiv (ev_v 0 (ev_v 10 ⟨b2, ((max 1 (row n j).length : Nat) : Int), rfl, rfl, ⟨by omega, by omega⟩, ?_⟩)))
    have pe := ties_erase n j hjn
    have ne := names_erase n j hjn
    refine run_nil ⟨n.length - 1, by omega, as.eraseIdx j, as2 ++ [(t4, p3)], n.eraseIdx j, n2 ++ [(n[j].1, (row n j).drop i ++ (row n j).take i)], _, _, _, len6.symm, R8, L8, same_mut (sH6.trans sAll) fL, aL6, fun x hx => ?_, fun x hx => ?_, ?_, ?_, ?_, fun h => ⟨fun r hr => ?_, fun r hr => ?_⟩, fun r hr => ?_, fun x hx => ?_, rfl⟩
    · rcases List.mem_append.mp hx with hx | hx
      · exact aR x hx
      · rw [List.mem_singleton] at hx
        rw [hx]
        exact p3R
    · rcases List.mem_append.mp hx with hx | hx
      · exact fr2 x hx
      · rw [List.mem_singleton] at hx
        rw [hx]
        exact sH6.free (t1.free (t2.free hp3))
    · rw [List.length_append, len6]
      simp
      omega
    · refine List.Perm.trans ?_ pt
      unfold ties
      rw [List.flatMap_append]
      show (ties (n.eraseIdx j) ++ (ties n2 ++ (((row n j).drop i ++ (row n j).take i) ++ []))).Perm _
      rw [List.append_nil, er]
      have w1 : (n[j].2.drop i ++ n[j].2.take i).Perm n[j].2 := rot_perm _ _
      refine ((w1.append_left _).append_left _).trans ?_
      have w2 : (ties n ++ ties n2).Perm ((n[j].2 ++ ties (n.eraseIdx j)) ++ ties n2) := pe.append_right _
      refine List.Perm.trans ?_ w2.symm
      rw [List.append_assoc]
      refine List.Perm.trans ?_ (List.perm_append_comm (l₁ := ties (n.eraseIdx j) ++ ties n2))
      rw [List.append_assoc]
    · refine List.Perm.trans ?_ pn
      rw [List.map_append]
      show ((n.eraseIdx j).map (·.1) ++ (n2.map (·.1) ++ [n[j].1])).Perm _
      refine List.Perm.trans ?_ (ne.append_right _).symm
      rw [← List.append_assoc]
      exact List.perm_append_comm
    · exact (hne h).1 r (List.mem_of_mem_eraseIdx hr)
    · rcases List.mem_append.mp hr with hr | hr
      · exact (hne h).2 r hr
      · rw [List.mem_singleton] at hr
        rw [hr]
        intro e
        have w1 := (rot_perm (row n j) i).length_eq
        have e' : (row n j).drop i ++ (row n j).take i = [] := e
        rw [e'] at w1
        have := (hne h).1 n[j] (List.getElem_mem hjn)
        rw [er] at w1
        exact this (List.length_eq_zero_iff.mp w1.symm)
    · obtain ⟨x, hx, e1, e2⟩ := hg1 r hr
      rcases List.mem_append.mp hx with hx | hx
      · rcases (SetT.pick_perm n j hjn).symm.mem_iff.mp hx |> List.mem_cons.mp with q | q
        · refine ⟨(n[j].1, (row n j).drop i ++ (row n j).take i), List.mem_append_right _ (List.mem_append_right _ (List.mem_singleton.mpr rfl)), by rw [← e1, q], fun t ht => ?_⟩
          refine (rot_perm (row n j) i).mem_iff.mpr ?_
          rw [er, ← q]
          exact e2 t ht
        · exact ⟨x, List.mem_append_left _ q, e1, e2⟩
      · exact ⟨x, List.mem_append_right _ (List.mem_append_left _ hx), e1, e2⟩
    · rcases List.mem_append.mp hx with hx | hx
      · exact hg2 x (List.mem_append_left _ (List.mem_of_mem_eraseIdx hx))
      · rcases List.mem_append.mp hx with hx | hx
        · exact hg2 x (List.mem_append_right _ hx)
        · rw [List.mem_singleton] at hx
          obtain ⟨r, hr, e⟩ := hg2 n[j] (List.mem_append_left _ (List.getElem_mem hjn))
          exact ⟨r, hr, by rw [e, hx]⟩
end
end V2
namespace L2
open PySem PySem.Spec PyProof.Rows
theorem ev_compG {X : Cx} {e tg iter : Expr} {ifs : List Expr} {scope : Scope} {pz : Pos} {gs : List Comprehension} {newAcc : Sem Value} {o0 : Obj} {u0 : Addr → HO} {inner : Value → Env → Sem Unit} {wi : TI} {σ : St} {H : Hp} {Q : VK}
    (hnew : ∀ (Q : Value → Shared → Prop) (E : Value → Shared → Prop) (s : Shared), Q (.ref s.heap.objs.size) { s with heap := s.heap.push o0 } → wpAny (model X.prog X.w) X.A newAcc Q E s) (hobj : ∀ (H : Hp) (h : Heap), sysModules < h.objs.size → ObjOk X.prog X.w H (h.push o0) h.objs.size (u0 h.objs.size))
    (hC : ∀ acc env, Clause e 0 tg iter ifs acc env (inner acc env)) (he : eval e X.env = comprehension e scope X.env pz newAcc false (eval iter X.env) none) (hcl : clausesOf e = ⟨tg, iter, ifs, 0⟩ :: gs)
    (sc : Scope) (N N' : List Str) (n : Nat) (hi : PI X tg iter wi)
    (h : wi σ H fun J H1 => ∀ D, H1 D = none → ∀ cl C s₀ H₀ ex, ClauseL (cxComp X N' scope cl C s₀ H₀ ex) tg ifs (inner (.ref D) (compEnvC scope cl C X.env)) J (fun _ H' => Q (.ref D) H') (σ ++ List.replicate n none) (upd H1 D (u0 D)))
    (hc : X.calm = true) (hsc : X.env.scope = sc) (hN : X.N = N) (hk : compOk sc scope N N' = true) (hl : N'.length = N.length + n) (hs : ∀ x, foldedSetIterable iter X.env x = pure x) : Ev X e σ H Q := by
  refine ⟨fun pins s I => ?_⟩
  subst hsc hN
  have ck := CompOk.of hk
  rw [he]
  refine wpAny_comprehension_free (use := none) hcl hs (closure_eq fun x hx hf => I.ok.has x.1 (ck.free x hx hf)) ck.kind ck.names (thn (hi pins s σ H _ I h) fun v s1 h1 => thn h1 fun itv s2 h2 => ?_)
  obtain ⟨it, fp, tn, J, H2, e, I2, T, st2, f2, q⟩ := h2
  subst e
  refine comp_core_any hnew hobj (Q := Q) (RR := fun acc C => compPost (model X.prog X.w) X.A X.xe none (EP X pins σ Q) acc C) hc ck hl hC I2 T st2 f2 q ?_
  intro D C H' s' m IX hn hC c1 c2 c3 c4 qq
  exact ⟨m, hn, fun h' hs' => ⟨.ref D, H', IX.turned (t' := s'.toks) (fun b o hb e => hs'.extBut b o hb e) hC (Ne.symm (Ne.symm c1)) (.inr c2) c3 c4, rfl, qq⟩⟩
end L2
namespace PySem
end PySem
namespace PySem
namespace F
end F
section
variable {prog : Program} {w : World} {K : Type} [DecidableEq K] {knd : KeyKind prog w K} {A : Around} {R : Result → Shared → Prop}
end
end PySem
namespace L2
open PySem PySem.Spec PyProof.Rows
section
variable {X : Cx} {pins : List (Addr × Obj)} {σ : St} {H : Hp} {s : Shared}
end
end L2
namespace L2
open PySem PySem.Spec PyProof.Rows
section
variable {X : Cx} {pins : List (Addr × Obj)} {σ : St} {H : Hp} {s : Shared} {h' : Heap}
theorem Inv.turnedL {t' : Nat} {ch : List Addr} (I : Inv X pins σ H s) (hf : ∀ b ∈ ch, FpOk X pins H b) (k : ∀ b o, b ∉ ch → s.heap.get? b = some o → h'.get? b = some o) : Inv X pins σ H { s with heap := h', toks := t' } := by
  have nit : ∀ b u, H b = some u → b ∉ ch := fun b u e z => by rw [(hf b z).1] at e; cases e
  refine I.step (g' := s.gens) (d' := s.drawn) (ch := ch) (fun b hb => ?_) (fun b o _ _ hc e _ => k b o hc e) (fun b o _ _ hc e _ => ⟨o.slots, k b o hc e⟩) (fun _ _ _ _ n => n)
    (fun b o hc e => ⟨o, k b o hc e⟩) (fun _ _ e => e) (fun _ _ _ e => e) (fun b ps e => ⟨#[], by rw [e]; simp⟩) (fun m hm => ?_) (fun b u e => ?_) I.bare
  · obtain ⟨f0, f1, f2, f3, f4, f5⟩ := hf b hb
    exact ⟨f3, f1, f4, f5⟩
  · obtain ⟨o, es, ep, ho, r⟩ := hm
    exact ⟨o, es, ep, k _ o (fun z => (hf _ z).2.1 rfl) ho, r⟩
  · refine (I.hok b u e).stay (fun c v hc q => k c v ?_ q) (fun _ q => q) fun _ _ q => q
    rcases hc with z | z
    · rw [z]; exact nit b u e
    · exact nit c _ z
end
section
variable {X : Cx}
end
end L2
namespace L2
open PySem PySem.Spec PyProof.Rows
section
variable {X : Cx} {elt t1 i1 t2 i2 : Expr} {f1 f2 : List Expr} {scope : Scope} {pos : Pos} {σ : St} {H : Hp} {acc : Value} {env : Env}
end
end L2
namespace L2
open PySem PySem.Spec PyProof.Rows
section
variable {X : Cx} {pins : List (Addr × Obj)} {σ : St} {H : Hp} {s : Shared} {a : Addr} {y v : V} {u r : Value} {A : Around} {E : Value → Shared → Prop}
theorem d_dictSet {H' : Hp} {Q : Unit → Shared → Prop} (hu : A.units + 1 < cLine) (I : Inv X pins σ H s) (g : DPut H a y v H') (ry : RelV y u) (rv : RelV v r) (h : ∀ s', Inv X pins σ H' s' → Q () s') :
    wpAny (model X.prog X.w) A (dictSet a u r) Q E s := by
  rcases g with ⟨kvs, k, e, ey, l, eH⟩ | ⟨kvs, k, b, e, ey, eb, l, eH⟩
  · subst ey eH
    obtain ⟨z, hd, vs, rel, dd⟩ := dk_of I.hok e
    have hz : vs.length ≤ sizeLine := by rw [← rel.length]; exact z
    have hl : (putK kvs k v).length ≤ sizeLine := by have := length_putK kvs k v; omega
    refine wpAny_dictSet_pairs (hsz := hz) (kV_is ry) dd fun h' dd' hs => h _ ?_
    have he : ∃ q, h'.get? a = some q := let ⟨q, _, _, hq, _⟩ := dd'; ⟨q, hq⟩
    exact d_write I (by rw [e]; exact True.intro) hs he (dk_new hl hd (rel.put k rv) dd')
  · subst ey eH
    cases (show u = Value.ref b from ry)
    obtain ⟨z, hd, xs, rel, dd⟩ := dt_of I.hok e
    have hz : xs.length ≤ sizeLine := by rw [← Paired.length rel]; exact z
    have hl : (putK kvs k v).length ≤ sizeLine := by have := length_putK kvs k v; omega
    have room : (tupleKind (mixKind X.prog X.w)).room A := by first | exact hu | exact Nat.lt_of_succ_lt hu | exact Nat.lt_of_le_of_lt (Nat.le_succ _) hu
    refine wpAny_dictSet_heap (hsz := hz) room (key_of I.hok eb) dd fun h' dd' hs => h _ ?_
    obtain ⟨q, es, ep, hq, h2, h3, h4, _, h5⟩ := dd'
    refine d_write I (by rw [e]; exact True.intro) hs ⟨q, hq⟩ ⟨hl, hd, _, (rel.put k eb rv).keeps fun c ys ec => ?_, q, es, ep, hq, h2, h3, h4, h5⟩
    rw [upd_ne (ne_of ec e (fun z => nomatch z))]
    exact ec
end
noncomputable def emitD (k v : Expr) (acc : Value) (env : Env) : Sem Unit := do
  let kv ← eval k env
  let vv ← holding [kv] (eval v env)
  match acc with
  | .ref d => do
    standAt { k.pos with endLine := v.pos.endLine, endCol := v.pos.endCol }
    holding [kv, vv] (dictSet d kv vv)
  | _ => unsupported "internal:dictcomp"
section
variable {X : Cx} {k v t1 i1 t2 i2 : Expr} {f1 f2 : List Expr} {scope : Scope} {pos : Pos} {σ : St} {H : Hp} {acc : Value} {env : Env}
theorem clauseD : Clause (.DictComp k v [⟨t1, i1, f1, 0⟩] scope pos) 0 t1 i1 f1 acc env (emitD k v acc env) := ⟨rfl, fun _ => rfl, fun _ _ _ => rfl, fun _ _ => rfl, fun _ _ _ => rfl, fun _ _ => rfl, fun it => by
  unfold emitD
  cases acc <;> first | rfl | (simp only [bind_assoc, pure_bind]; rfl)⟩
theorem ein_emitD {D : Addr} {Q : St → Hp → Prop} (hu : X.A.units + 1 < cLine) (h : Ev X k σ H fun y H1 => Ev X v σ H1 fun x H2 => ∃ H3, DPut H2 D y x H3 ∧ Q σ H3) : Ein X (emitD k v (.ref D) X.env) σ H Q := by
  refine ⟨fun pins s I => ?_⟩
  unfold emitD
  refine wpAny_bind (thn (h.run pins s I) fun kv s1 ⟨y, H1, I1, r1, h1⟩ => ?_)
  refine wpAny_bind (wpAny_holding (thn (h1.run pins s1 I1) fun vv s2 ⟨x, H2, I2, r2, H3, dp, q⟩ => ?_))
  show wpAny _ _ (standAt _ >>= fun _ => holding [kv, vv] (dictSet D kv vv)) _ _ _
  exact wpAny_bind (wpAny_standAt (wpAny_holding (d_dictSet hu I2 dp r1 r2 fun s' I' => ⟨σ, H3, I', q⟩)))
theorem ev_compDT {wi : TI} {Q : VK} (sc : Scope) (N N' : List Str) (n : Nat) (hi : PI X t1 i1 wi)
    (h : wi σ H fun J H1 => ∀ D, H1 D = none → ∀ cl C s₀ H₀ ex, ClauseL (cxComp X N' scope cl C s₀ H₀ ex) t1 f1 (emitD k v (.ref D) (compEnvC scope cl C X.env)) J (fun _ H' => Q (.ref D) H') (σ ++ List.replicate n none) (upd H1 D (.dT [])))
    (hc : X.calm = true := by rfl) (hsc : X.env.scope = sc := by rfl) (hN : X.N = N := by rfl) (hk : compOk sc scope N N' = true := by decide +kernel) (hl : N'.length = N.length + n := by rfl)
    (hs : ∀ x, foldedSetIterable i1 X.env x = pure x := by intro _; rfl) : Ev X (.DictComp k v [⟨t1, i1, f1, 0⟩] scope pos) σ H Q :=
  ev_compG (e := .DictComp k v [⟨t1, i1, f1, 0⟩] scope pos) (newAcc := newDict) (o0 := { cls := .type "dict", data := .dict #[] }) (u0 := fun _ => .dT []) (fun _ _ _ h => wpAny_newObj_type h) (fun _ h hb => dt_empty h hb) (inner := emitD k v) (fun _ _ => clauseD) rfl rfl sc N N' n hi h hc hsc hN hk hl hs
theorem ev_compDK {wi : TI} {Q : VK} (sc : Scope) (N N' : List Str) (n : Nat) (hi : PI X t1 i1 wi)
    (h : wi σ H fun J H1 => ∀ D, H1 D = none → ∀ cl C s₀ H₀ ex, ClauseL (cxComp X N' scope cl C s₀ H₀ ex) t1 f1 (emitD k v (.ref D) (compEnvC scope cl C X.env)) J (fun _ H' => Q (.ref D) H') (σ ++ List.replicate n none) (upd H1 D (.dK [])))
    (hc : X.calm = true := by rfl) (hsc : X.env.scope = sc := by rfl) (hN : X.N = N := by rfl) (hk : compOk sc scope N N' = true := by decide +kernel) (hl : N'.length = N.length + n := by rfl)
    (hs : ∀ x, foldedSetIterable i1 X.env x = pure x := by intro _; rfl) : Ev X (.DictComp k v [⟨t1, i1, f1, 0⟩] scope pos) σ H Q :=
  ev_compG (e := .DictComp k v [⟨t1, i1, f1, 0⟩] scope pos) (newAcc := newDict) (o0 := { cls := .type "dict", data := .dict #[] }) (u0 := fun _ => .dK []) (fun _ _ _ h => wpAny_newObj_type h) (fun _ h hb => dk_empty h hb) (inner := emitD k v) (fun _ _ => clauseD) rfl rfl sc N N' n hi h hc hsc hN hk hl hs
end
end L2
namespace L2
open PySem PySem.Spec PyProof.Rows SetT
section
variable {X : Cx} {elt t1 i1 t2 i2 : Expr} {f1 f2 : List Expr} {scope : Scope} {pos : Pos} {σ : St} {H : Hp} {acc : Value} {env : Env}
end
end L2
namespace Spl
open PySem PySem.Builtin PySem.Builtin.Str PySem.StrLaws
end Spl
namespace L2
open PySem PySem.Builtin PySem.Builtin.Str
section
variable {X : Cx} {σ : St} {H : Hp} {Q : VK}
end
end L2
namespace PySem
section
variable {P : Program} {w : World} {A : Around} {E : Value → Shared → Prop} {s : Shared}
end
end PySem
namespace L2
open PySem PySem.Spec PyProof.Rows
section
variable {X : Cx} {pins : List (Addr × Obj)} {σ : St} {H : Hp} {s : Shared}
end
section
variable {X : Cx}
end
section
variable {X : Cx} {tg : Expr} {ifs : List Expr} {inner : Sem Unit} {σ : St} {H : Hp} {d : Addr} {o : Obj} {kvs : List (List Key × V)} {after : St → Hp → Prop}
end
end L2
namespace L2
open PySem PySem.Spec PyProof.Rows SetT
section
variable {X : Cx} {σ : St} {H : Hp} {Q : VK}
end
section
variable {prog : Program} {w : World} {A : Around} {E : Value → Shared → Prop} {s : Shared}
end
section
variable {X : Cx} {σ : St} {H : Hp} {Q : VK}
end
end L2
namespace Sort3
open PySem PySem.W PyProof.Rows
section
variable {lt : Nat → Nat → Bool} {cmp : Nat → Nat → (Bool → Shared → Prop) → Shared → Prop} {J : Shared → Prop} {n : Nat}
structure Asks (lt : Nat → Nat → Bool) (cmp : Nat → Nat → (Bool → Shared → Prop) → Shared → Prop) (J : Shared → Prop) (n : Nat) : Prop where
  ask : ∀ (i j : Nat) (C : Bool → Shared → Prop) (s : Shared), i < n → j < n → i ≠ j → J s → (∀ s', J s' → C (lt i j) s') → cmp i j C s
  tot : ∀ i j, i < n → j < n → i ≠ j → lt i j = true ∨ lt j i = true
  asy : ∀ i j, lt i j = true → lt j i = false
  tra : ∀ i j k, lt i j = true → lt j k = true → lt i k = true
noncomputable def g (p : Array Nat) (i : Nat) : Nat := p.getD i 0
structure Pm (p : Array Nat) (n : Nat) : Prop where
  size : p.size = n
  lt : ∀ i, i < n → g p i < n
  inj : ∀ i j, i < n → j < n → g p i = g p j → i = j
theorem g_eq {p : Array Nat} {i : Nat} {v : Nat} (h : p[i]? = some v) : g p i = v := by
  unfold g
  rw [Array.getD_eq_getD_getElem?, h]
  rfl
theorem g_of {p q : Array Nat} {i j : Nat} (h : p[i]? = q[j]?) : g p i = g q j := by
  unfold g
  rw [Array.getD_eq_getD_getElem?, Array.getD_eq_getD_getElem?, h]
theorem pm_range (n : Nat) : Pm (List.toArray (List.range n)) n := by
  have e : ∀ i, i < n → g (List.toArray (List.range n)) i = i := fun i hi => g_eq (by simp [hi])
  exact ⟨by simp, fun i hi => by rw [e i hi]; exact hi, fun i j hi hj h => by rw [e i hi, e j hj] at h; exact h⟩
noncomputable def Up (lt : Nat → Nat → Bool) (p : Array Nat) (m : Nat) : Prop := ∀ i j, i < j → j < m → lt (g p i) (g p j) = true
noncomputable def Dn (lt : Nat → Nat → Bool) (p : Array Nat) (m : Nat) : Prop := ∀ i j, i < j → j < m → lt (g p j) (g p i) = true
theorem up_one (p : Array Nat) : Up lt p 1 := fun i j h1 h2 => by omega
theorem up_succ (A : Asks lt cmp J n) {p : Array Nat} {m : Nat} (h1 : 1 ≤ m) (h : Up lt p m) (hm : lt (g p (m - 1)) (g p m) = true) : Up lt p (m + 1) := fun i j hi hj => by
  by_cases c : j < m
  · exact h i j hi c
  · have : j = m := by omega
    subst this
    by_cases d : i = j - 1
    · rw [d]
      exact hm
    · exact A.tra _ _ _ (h i (j - 1) (by omega) (by omega)) hm
theorem dn_succ (A : Asks lt cmp J n) {p : Array Nat} {m : Nat} (h1 : 1 ≤ m) (h : Dn lt p m) (hm : lt (g p m) (g p (m - 1)) = true) : Dn lt p (m + 1) := fun i j hi hj => by
  by_cases c : j < m
  · exact h i j hi c
  · have : j = m := by omega
    subst this
    by_cases d : i = j - 1
    · rw [d]
      exact hm
    · exact A.tra _ _ _ hm (h i (j - 1) (by omega) (by omega))
theorem other_way (A : Asks lt cmp J n) {i j : Nat} (hi : i < n) (hj : j < n) (hne : i ≠ j) (h : lt i j = false) : lt j i = true := by
  rcases A.tot i j hi hj hne with q | q
  · rw [h] at q
    cases q
  · exact q
theorem asc_ok (A : Asks lt cmp J n) {p : Array Nat} (P : Pm p n) : ∀ (f m : Nat) (Q : Nat → Shared → Prop) (s : Shared), 1 ≤ m → m + f ≤ n → Up lt p m → J s →
    (∀ k s', J s' → m ≤ k → k ≤ m + f → Up lt p k → (k < m + f → lt (g p k) (g p (k - 1)) = true) → Q k s') → (kas_asc p f m).kasWp cmp Q s
  | 0, m, Q, s, h1, h2, hu, hJ, k => k m s hJ (Nat.le_refl _) (Nat.le_refl _) hu fun h => by omega
  | f + 1, m, Q, s, h1, h2, hu, hJ, k => by
    have hne : g p m ≠ g p (m - 1) := fun h => by have := P.inj m (m - 1) (by omega) (by omega) h; omega
    refine A.ask _ _ _ _ (P.lt m (by omega)) (P.lt (m - 1) (by omega)) hne hJ fun s' hJ' => ?_
    cases e : lt (p.getD m 0) (p.getD (m - 1) 0) with
    | true => exact k m s' hJ' (Nat.le_refl _) (by omega) hu fun _ => e
    | false =>
      have hup : Up lt p (m + 1) := up_succ A h1 hu (other_way A (P.lt m (by omega)) (P.lt (m - 1) (by omega)) hne e)
      exact asc_ok A P f (m + 1) Q s' (by omega) (by omega) hup hJ' fun k' s2 j2 a b c d => k k' s2 j2 (by omega) (by omega) c fun h => d (by omega)
theorem desc_ok (A : Asks lt cmp J n) {p : Array Nat} (P : Pm p n) : ∀ (f m : Nat) (Q : Array Nat × Nat × Nat → Shared → Prop) (s : Shared), 1 ≤ m → m + f ≤ n → Dn lt p m → J s →
    (∀ k s', J s' → m ≤ k → k ≤ m + f → Dn lt p k → Q (p, k, 0) s') → (kas_desc f p m 0).kasWp cmp Q s
  | 0, m, Q, s, h1, h2, hd, hJ, k => k m s hJ (Nat.le_refl _) (Nat.le_refl _) hd
  | f + 1, m, Q, s, h1, h2, hd, hJ, k => by
    have hne : g p m ≠ g p (m - 1) := fun h => by have := P.inj m (m - 1) (by omega) (by omega) h; omega
    refine A.ask _ _ _ _ (P.lt m (by omega)) (P.lt (m - 1) (by omega)) hne hJ fun s' hJ' => ?_
    cases e : lt (p.getD m 0) (p.getD (m - 1) 0) with
    | true =>
      show (if true = true then (if 0 > 0 then _ else kas_desc f p (m + 1) 0) else _ : KasT _).kasWp cmp Q s'
      rw [if_pos rfl, if_neg (by omega)]
      exact desc_ok A P f (m + 1) Q s' (by omega) (by omega) (dn_succ A h1 hd e) hJ' fun k' s2 j2 a b c => k k' s2 j2 (by omega) (by omega) c
    | false =>
      refine A.ask _ _ _ _ (P.lt (m - 1) (by omega)) (P.lt m (by omega)) (Ne.symm hne) hJ' fun s2 hJ2 => ?_
      have e2 : lt (p.getD (m - 1) 0) (p.getD m 0) = true := other_way A (P.lt m (by omega)) (P.lt (m - 1) (by omega)) hne e
      rw [e2]
      exact k m s2 hJ2 (Nat.le_refl _) (by omega) hd
theorem rev_at {p : Array Nat} {m k : Nat} (h : m ≤ p.size) : g (kas_rev p 0 m) k = if k < m then g p (m - 1 - k) else g p k := by
  have e := getElem?_mirror_all (xs := p) (i := 0) (j := m) h k
  by_cases c : k < m
  · rw [if_pos c]
    rw [if_pos ⟨Nat.zero_le _, c⟩] at e
    refine g_of (e.trans ?_)
    congr 1
    omega
  · rw [if_neg c]
    rw [if_neg (fun q => c q.2)] at e
    exact g_of e
theorem rev_pm {p : Array Nat} {m : Nat} (P : Pm p n) (h : m ≤ n) : Pm (kas_rev p 0 m) n := by
  have hs : m ≤ p.size := by rw [P.size]; exact h
  refine ⟨by rw [kas_rev_size]; exact P.size, fun i hi => ?_, fun i j hi hj q => ?_⟩
  · rw [rev_at hs]
    split
    · exact P.lt _ (by omega)
    · exact P.lt _ hi
  · rw [rev_at hs, rev_at hs] at q
    by_cases c : i < m <;> by_cases d : j < m
    · rw [if_pos c, if_pos d] at q
      have := P.inj _ _ (by omega) (by omega) q
      omega
    · rw [if_pos c, if_neg d] at q
      have := P.inj _ _ (by omega) hj q
      omega
    · rw [if_neg c, if_pos d] at q
      have := P.inj _ _ hi (by omega) q
      omega
    · rw [if_neg c, if_neg d] at q
      exact P.inj _ _ hi hj q
theorem rev_up {p : Array Nat} {m : Nat} (P : Pm p n) (h : m ≤ n) (hd : Dn lt p m) : Up lt (kas_rev p 0 m) m := fun i j hi hj => by
  have hs : m ≤ p.size := by rw [P.size]; exact h
  rw [rev_at hs, rev_at hs, if_pos (by omega), if_pos hj]
  exact hd (m - 1 - j) (m - 1 - i) (by omega) (by omega)
theorem tail3_ok (A : Asks lt cmp J n) {p : Array Nat} (P : Pm p n) {m : Nat} {Q : Nat × Array Nat → Shared → Prop} {s : Shared} (h1 : 1 ≤ m) (h2 : m ≤ n) (hd : Dn lt p m) (hJ : J s)
    (k : ∀ r q s', J s' → 1 ≤ r → r ≤ n → Pm q n → Up lt q r → Q (r, q) s') : (kas_tail3 m n p).kasWp cmp Q s := by
  unfold kas_tail3
  rw [KasT.kasWp_bind]
  exact asc_ok A (rev_pm P h2) (n - m) m _ s h1 (by omega) (rev_up P h2 hd) hJ fun r s' j a b c _ => k r _ s' j (by omega) (by omega) (rev_pm P h2) c
theorem count_ok (A : Asks lt cmp J n) {p : Array Nat} (P : Pm p n) {Q : Nat × Array Nat → Shared → Prop} {s : Shared} (h2 : 2 ≤ n) (hJ : J s)
    (k : ∀ r q s', J s' → 1 ≤ r → r ≤ n → Pm q n → Up lt q r → Q (r, q) s') : (kas_count n p).kasWp cmp Q s := by
  unfold kas_count
  rw [KasT.kasWp_bind]
  refine asc_ok A P (n - 1) 1 _ s (Nat.le_refl _) (by omega) (up_one p) hJ fun m s' hJ' m1 m2 hu hlast => ?_
  by_cases c : m = n
  · subst c
    rw [if_pos (by simp)]
    exact k m p s' hJ' m1 (Nat.le_refl _) P hu
  · rw [if_neg (by simpa using c)]
    by_cases d : m > 1
    · rw [if_pos d]
      have hne : g p 0 ≠ g p (m - 1) := fun h => by have := P.inj 0 (m - 1) (by omega) (by omega) h; omega
      refine A.ask _ _ _ _ (P.lt 0 (by omega)) (P.lt (m - 1) (by omega)) hne hJ' fun s2 hJ2 => ?_
      have e : lt (p.getD 0 0) (p.getD (m - 1) 0) = true := hu 0 (m - 1) (by omega) (by omega)
      rw [e]
      exact k m p s2 hJ2 m1 (by omega) P hu
    · rw [if_neg d]
      have em : m = 1 := by omega
      subst em
      unfold kas_descPart
      rw [KasT.kasWp_bind]
      have hl := hlast (by omega)
      have hd2 : Dn lt p 2 := fun i j hi hj => by
        have : i = 0 ∧ j = 1 := by omega
        rw [this.1, this.2]
        exact hl
      refine desc_ok A P (n - (1 + 1)) (1 + 1) _ s' (by omega) (by omega) hd2 hJ' fun r s2 hJ2 r1 r2 hd => ?_
      show (if (0 : Nat) > 0 then _ else kas_tail3 r n p : KasT _).kasWp cmp Q s2
      rw [if_neg (by omega)]
      exact tail3_ok A P (by omega) (by omega) hd hJ2 k
theorem place_ok (A : Asks lt cmp J n) {p : Array Nat} (P : Pm p n) {k : Nat} (hk : k < n) (hu : Up lt p k) : ∀ (f l r : Nat) (Q : Nat → Shared → Prop) (s : Shared), r ≤ k → l ≤ r → r - l ≤ f → J s → (∀ i, i < l → lt (g p i) (g p k) = true) → (∀ i, r ≤ i → i < k → lt (g p k) (g p i) = true) →
    (∀ m s', J s' → m ≤ k → (∀ i, i < m → lt (g p i) (g p k) = true) → (∀ i, m ≤ i → i < k → lt (g p k) (g p i) = true) → Q m s') → (kas_place p k f l r).kasWp cmp Q s
  | 0, l, r, Q, s, h1, h2, h3, hJ, ha, hb, q => q l s hJ (by omega) ha fun i hi => hb i (by omega)
  | f + 1, l, r, Q, s, h1, h2, h3, hJ, ha, hb, q => by
    unfold kas_place
    by_cases c : l ≥ r
    · rw [if_pos c]
      exact q l s hJ (by omega) ha fun i hi => hb i (by omega)
    · rw [if_neg c]
      have hmk : (l + r) / 2 < k := by omega
      have hne : g p k ≠ g p ((l + r) / 2) := fun h => by have := P.inj k _ hk (by omega) h; omega
      refine A.ask _ _ _ _ (P.lt k hk) (P.lt _ (by omega)) hne hJ fun s' hJ' => ?_
      cases e : lt (p.getD k 0) (p.getD ((l + r) / 2) 0) with
      | true =>
        show (kas_place p k f l ((l + r) / 2)).kasWp cmp Q s'
        refine place_ok A P hk hu f l ((l + r) / 2) Q s' (by omega) (by omega) (by omega) hJ' ha (fun i hi hik => ?_) q
        by_cases d : i = (l + r) / 2
        · rw [d]
          exact e
        · exact A.tra _ _ _ e (hu _ _ (by omega) hik)
      | false =>
        show (kas_place p k f ((l + r) / 2 + 1) r).kasWp cmp Q s'
        have e2 := other_way A (P.lt k hk) (P.lt _ (by omega)) hne e
        refine place_ok A P hk hu f ((l + r) / 2 + 1) r Q s' h1 (by omega) (by omega) hJ' (fun i hi => ?_) hb q
        by_cases d : i = (l + r) / 2
        · rw [d]
          exact e2
        · exact A.tra _ _ _ (hu _ _ (by omega) hmk) e2
theorem bub_at {p : Array Nat} {k m i : Nat} (hk : k < p.size) (hm : m ≤ k) : g (bubble p k (k - m)) i = if i = m then g p k else if m < i ∧ i ≤ k then g p (i - 1) else g p i := by
  have e := getElem?_bubble (xs := p) hk (k - m) (by omega) i
  rw [show k - (k - m) = m by omega] at e
  by_cases c : i = m
  · rw [if_pos c]
    rw [if_pos c] at e
    exact g_of e
  · rw [if_neg c]
    rw [if_neg c] at e
    by_cases d : m < i ∧ i ≤ k
    · rw [if_pos d]
      rw [if_pos d] at e
      exact g_of e
    · rw [if_neg d]
      rw [if_neg d] at e
      exact g_of e
theorem bub_pm {p : Array Nat} {k m : Nat} (P : Pm p n) (hk : k < n) (hm : m ≤ k) : Pm (bubble p k (k - m)) n := by
  have hs : k < p.size := by rw [P.size]; exact hk
  refine ⟨by rw [bubble_size]; exact P.size, fun i hi => ?_, fun i j hi hj q => ?_⟩
  · rw [bub_at hs hm]
    split
    · exact P.lt k hk
    · split
      · exact P.lt _ (by omega)
      · exact P.lt _ hi
  · rw [bub_at hs hm, bub_at hs hm] at q
    have src : ∀ a, a < n → ∃ b, b < n ∧ (if a = m then g p k else if m < a ∧ a ≤ k then g p (a - 1) else g p a) = g p b ∧ ((a = m ∧ b = k) ∨ (a ≠ m ∧ (m < a ∧ a ≤ k) ∧ b = a - 1) ∨ (a ≠ m ∧ ¬ (m < a ∧ a ≤ k) ∧ b = a)) := fun a ha => by
      by_cases c : a = m
      · exact ⟨k, hk, by rw [if_pos c], .inl ⟨c, rfl⟩⟩
      · by_cases d : m < a ∧ a ≤ k
        · exact ⟨a - 1, by omega, by rw [if_neg c, if_pos d], .inr (.inl ⟨c, d, rfl⟩)⟩
        · exact ⟨a, ha, by rw [if_neg c, if_neg d], .inr (.inr ⟨c, d, rfl⟩)⟩
    obtain ⟨x, x1, x2, x3⟩ := src i hi
    obtain ⟨y, y1, y2, y3⟩ := src j hj
    rw [x2, y2] at q
    have e := P.inj x y x1 y1 q
    subst e
    rcases x3 with ⟨a1, a2⟩ | ⟨a1, a2, a3⟩ | ⟨a1, a2, a3⟩
    · rcases y3 with ⟨b1, b2⟩ | ⟨b1, b2, b3⟩ | ⟨b1, b2, b3⟩
      · exact a1.trans b1.symm
      · exact absurd (a2.symm.trans b3) (Nat.ne_of_gt (Nat.lt_of_lt_of_le (Nat.sub_lt (Nat.zero_lt_of_lt b2.1) Nat.one_pos) b2.2))
      · exact absurd ⟨Nat.lt_of_le_of_ne (by rw [← b3, a2]; exact hm) (Ne.symm b1), by rw [← b3, a2]; exact Nat.le_refl _⟩ b2
    · rcases y3 with ⟨b1, b2⟩ | ⟨b1, b2, b3⟩ | ⟨b1, b2, b3⟩
      · exact absurd (b2.symm.trans a3) (Nat.ne_of_gt (Nat.lt_of_lt_of_le (Nat.sub_lt (Nat.zero_lt_of_lt a2.1) Nat.one_pos) a2.2))
      · exact Nat.sub_one_cancel (Nat.zero_lt_of_lt a2.1) (Nat.zero_lt_of_lt b2.1) (a3.symm.trans b3)
      · exact absurd ⟨Nat.lt_of_le_of_ne (by rw [← b3, a3]; exact Nat.le_sub_one_of_lt a2.1) (Ne.symm b1), by rw [← b3, a3]; exact Nat.le_trans (Nat.sub_le _ _) a2.2⟩ b2
    · rcases y3 with ⟨b1, b2⟩ | ⟨b1, b2, b3⟩ | ⟨b1, b2, b3⟩
      · exact absurd ⟨Nat.lt_of_le_of_ne (by rw [← a3, b2]; exact hm) (Ne.symm a1), by rw [← a3, b2]; exact Nat.le_refl _⟩ a2
      · exact absurd ⟨Nat.lt_of_le_of_ne (by rw [← a3, b3]; exact Nat.le_sub_one_of_lt b2.1) (Ne.symm a1), by rw [← a3, b3]; exact Nat.le_trans (Nat.sub_le _ _) b2.2⟩ a2
      · exact a3.symm.trans b3
theorem bub_up {p : Array Nat} {k m : Nat} (P : Pm p n) (hk : k < n) (hm : m ≤ k) (hu : Up lt p k) (ha : ∀ i, i < m → lt (g p i) (g p k) = true) (hb : ∀ i, m ≤ i → i < k → lt (g p k) (g p i) = true) : Up lt (bubble p k (k - m)) (k + 1) := fun i j hi hj => by
  have hs : k < p.size := by rw [P.size]; exact hk
  rw [bub_at hs hm, bub_at hs hm]
  by_cases c : i = m
  · rw [if_pos c, if_neg (by omega), if_pos (by omega)]
    exact hb _ (by omega) (by omega)
  · rw [if_neg c]
    by_cases d : j = m
    · rw [if_pos d, if_neg (by omega)]
      exact ha i (by omega)
    · rw [if_neg d]
      by_cases e : m < i ∧ i ≤ k
      · rw [if_pos e, if_pos (by omega)]
        exact hu _ _ (by omega) (by omega)
      · rw [if_neg e]
        by_cases f : m < j ∧ j ≤ k
        · rw [if_pos f]
          exact hu _ _ (by omega) (by omega)
        · rw [if_neg f]
          exact hu _ _ hi (by omega)
theorem bin_ok (A : Asks lt cmp J n) : ∀ (f : Nat) (p : Array Nat) (k : Nat) (Q : Array Nat → Shared → Prop) (s : Shared), Pm p n → 1 ≤ k → k + f = n → Up lt p k → J s → (∀ q s', J s' → Pm q n → Up lt q n → Q q s') → (kas_bin f p k).kasWp cmp Q s
  | 0, p, k, Q, s, P, h1, h2, hu, hJ, q => by
    have : k = n := by omega
    subst this
    exact q p s hJ P hu
  | f + 1, p, k, Q, s, P, h1, h2, hu, hJ, q => by
    unfold kas_bin
    rw [KasT.kasWp_bind]
    refine place_ok A P (by omega) hu k 0 k _ s (Nat.le_refl _) (Nat.zero_le _) (by omega) hJ (fun i hi => by omega) (fun i hi hik => by omega) fun m s' hJ' hm ha hb => ?_
    exact bin_ok A f _ (k + 1) Q s' (bub_pm P (by omega) hm) (by omega) (by omega) (bub_up P (by omega) hm hu ha hb) hJ' q
theorem sort_ok (A : Asks lt cmp J n) {Q : Array Nat → Shared → Prop} {s : Shared} (h2 : 2 ≤ n) (hJ : J s) (q : ∀ p s', J s' → Pm p n → Up lt p n → Q p s') : (kas_sort n).kasWp cmp Q s := by
  unfold kas_sort
  rw [KasT.kasWp_bind]
  refine count_ok A (pm_range n) h2 hJ fun r p s' hJ' r1 r2 P hu => ?_
  show (if r < n then kas_bin (n - max r 1) p (max r 1) else .ret p : KasT _).kasWp cmp Q s'
  have em : max r 1 = r := by omega
  rw [em]
  by_cases c : r < n
  · rw [if_pos c]
    exact bin_ok A (n - r) p r Q s' P r1 (by omega) hu hJ' q
  · rw [if_neg c]
    have : r = n := by omega
    subst this
    exact q p s' hJ' P hu
end
end Sort3
namespace Sort3
open PySem PySem.W PyProof.Rows
theorem pm_nodup {p : Array Nat} {n : Nat} (P : Pm p n) : p.toList.Nodup := by
  rw [List.nodup_iff_pairwise_ne, List.pairwise_iff_getElem]
  intro i j hi hj hij e
  have hi' : i < n := by rw [Array.length_toList, P.size] at hi; exact hi
  have hj' : j < n := by rw [Array.length_toList, P.size] at hj; exact hj
  have e1 : g p i = p.toList[i] := g_eq (by rw [← Array.getElem?_toList]; exact List.getElem?_eq_getElem hi)
  have e2 : g p j = p.toList[j] := g_eq (by rw [← Array.getElem?_toList]; exact List.getElem?_eq_getElem hj)
  have := P.inj i j hi' hj' (by rw [e1, e2, e])
  omega
theorem pm_mem {p : Array Nat} {n v : Nat} (P : Pm p n) (h : v ∈ p.toList) : v < n := by
  obtain ⟨i, hi⟩ := List.getElem?_of_mem h
  have hl : i < n := by have := (List.getElem?_eq_some_iff.mp hi).1; rw [Array.length_toList, P.size] at this; exact this
  have e1 : g p i = v := g_eq (by rw [← Array.getElem?_toList]; exact hi)
  rw [← e1]
  exact P.lt i hl
theorem pm_perm {p : Array Nat} {n : Nat} (P : Pm p n) : p.toList.Perm (List.range n) := by
  rw [List.perm_ext_iff_of_nodup (pm_nodup P) List.nodup_range]
  intro v
  rw [List.mem_range]
  refine ⟨fun h => pm_mem P h, fun h => Classical.byContradiction fun hn => ?_⟩
  have l1 : p.toList.length ≤ ((List.range n).erase v).length := Nt.nodup_le (pm_nodup P) fun z hz => by
    have hne : z ≠ v := fun e => hn (e ▸ hz)
    exact (List.mem_erase_of_ne hne).mpr (List.mem_range.mpr (pm_mem P hz))
  rw [List.length_erase_of_mem (List.mem_range.mpr h), Array.length_toList, P.size, List.length_range] at l1
  omega
noncomputable def Hd (h : Heap) (v : Value) (z : Str) : Prop := ∃ a o xs n t, v = .ref a ∧ h.get? a = some o ∧ o.cls = .type "tuple" ∧ o.data = .seq xs n ∧ xs[0]? = some (.str z t)
theorem Hd.keep {h h' : Heap} {v : Value} {z : Str} (x : Hd h v z) (k : ∀ a o, v = .ref a → h.get? a = some o → h'.get? a = some o) : Hd h' v z := by
  obtain ⟨a, o, xs, n, t, e, h1, h2⟩ := x
  exact ⟨a, o, xs, n, t, e, k a o e h1, h2⟩
noncomputable def Hds (h : Heap) (vs : List Value) (zs : List Str) : Prop := vs.length = zs.length ∧ ∀ (i : Nat) v z, vs[i]? = some v → zs[i]? = some z → Hd h v z
noncomputable def ltZ (zs : List Str) (i j : Nat) : Bool := decide ((zs.getD i ⟨#[]⟩).cps.toList < (zs.getD j ⟨#[]⟩).cps.toList)
section
variable {prog : Program} {w : World} {A : Around} {E : Value → Shared → Prop} {s : Shared}
theorem hds_firsts : ∀ {h : Heap} {vs : List Value} {zs : List Str}, Hds h vs zs → ∃ fs, KatTups h vs fs ∧ fs.length = vs.length ∧ ∀ f ∈ fs, ∃ z t, f = Value.str z t
  | h, [], _, _ => ⟨[], KatTups.nil, rfl, fun f hf => by cases hf⟩
  | h, v :: vs, [], hh => by have := hh.1; simp at this
  | h, v :: vs, z :: zs, hh => by
    obtain ⟨fs, k1, k2, k3⟩ := hds_firsts (h := h) (vs := vs) (zs := zs) ⟨by have := hh.1; simpa using this, fun i a b h1 h2 => hh.2 (i + 1) a b (by simpa using h1) (by simpa using h2)⟩
    obtain ⟨a, o, xs, n, t, rfl, h1, h2, h3, h4⟩ := hh.2 0 v z rfl rfl
    refine ⟨.str z t :: fs, KatTups.cons h1 h2 h3 h4 k1, by rw [List.length_cons, List.length_cons, k2], fun f hf => ?_⟩
    rcases List.mem_cons.mp hf with rfl | hf
    · exact ⟨z, t, rfl⟩
    · exact k3 f hf
theorem lt_tup {x y : Value} {z u : Str} {Q : Bool → Shared → Prop} (hx : Hd s.heap x z) (hy : Hd s.heap y u) (hne : z ≠ u) (h : Q (decide (z.cps.toList < u.cps.toList)) s) : wpAny (model prog w) A (keyLt' (tuples' true) x y) Q E s := by
  obtain ⟨a, o, xs, n, t, rfl, h1, h2, h3, h4⟩ := hx
  obtain ⟨b, o', ys, n', t', rfl, g1, g2, g3, g4⟩ := hy
  refine kat_lt h1 h3 g1 g3 ?_
  have ex : ∃ r, xs.toList = .str z t :: r := by
    have : xs.toList[0]? = some (.str z t) := by rw [Array.getElem?_toList]; exact h4
    cases e : xs.toList with
    | nil => rw [e] at this; cases this
    | cons c r => rw [e] at this; cases this; exact ⟨r, rfl⟩
  have ey : ∃ r, ys.toList = .str u t' :: r := by
    have : ys.toList[0]? = some (.str u t') := by rw [Array.getElem?_toList]; exact g4
    cases e : ys.toList with
    | nil => rw [e] at this; cases this
    | cons c r => rw [e] at this; cases this; exact ⟨r, rfl⟩
  obtain ⟨rx, ex⟩ := ex
  obtain ⟨ry, ey⟩ := ey
  rw [ex, ey]
  show KatLex prog w A true _ Q ((.str z t, .str u t') :: rx.zip ry) 0 s
  refine kat_cons (eqBool_str ?_)
  have : (z == u) = false := beq_eq_false_iff_ne.mpr hne
  rw [this]
  exact kat_no (oneLt_str h)
theorem cps_inj {a b : Str} (h : a.cps.toList = b.cps.toList) : a = b := by
  apply Str.ext'
  exact Array.toList_inj.mp h
theorem asks_tup {vs : List Value} {zs : List Str} (hh : Hds s.heap vs zs) (hn : zs.Nodup) : Asks (ltZ zs) (kas_ask prog w A (tuples' true) vs) (fun s' => s' = s) vs.length := by
  have hl := hh.1
  have gz : ∀ i, (hi : i < zs.length) → zs.getD i ⟨#[]⟩ = zs[i] := fun i hi => by simp [hi]
  have gv : ∀ i, (hi : i < vs.length) → vs.getD i Value.none = vs[i] := fun i hi => by simp [hi]
  have ne : ∀ i j, (hi : i < zs.length) → (hj : j < zs.length) → i ≠ j → zs[i] ≠ zs[j] := fun i j hi hj hij e => by
    rcases Nat.lt_or_gt_of_ne hij with c | c
    · exact List.pairwise_iff_getElem.mp (List.nodup_iff_pairwise_ne.mp hn) i j hi hj c e
    · exact List.pairwise_iff_getElem.mp (List.nodup_iff_pairwise_ne.mp hn) j i hj hi c e.symm
  refine ⟨fun i j C s' hi hj hij hs hC => ?_, fun i j hi hj hij => ?_, fun i j h => ?_, fun i j k h1 h2 => ?_⟩
  · subst hs
    unfold kas_ask
    rw [gv i hi, gv j hj]
    have e : ltZ zs i j = decide (zs[i].cps.toList < zs[j].cps.toList) := by unfold ltZ; rw [gz i (by omega), gz j (by omega)]
    refine lt_tup (hh.2 i _ zs[i] (List.getElem?_eq_getElem hi) (List.getElem?_eq_getElem (by omega))) (hh.2 j _ zs[j] (List.getElem?_eq_getElem hj) (List.getElem?_eq_getElem (by omega))) (ne i j (by omega) (by omega) hij) ?_
    rw [← e]
    exact hC s' rfl
  · unfold ltZ
    rw [gz i (by omega), gz j (by omega), decide_eq_true_iff, decide_eq_true_iff]
    by_cases c : zs[i].cps.toList < zs[j].cps.toList
    · exact .inl c
    · by_cases d : zs[j].cps.toList < zs[i].cps.toList
      · exact .inr d
      · have : zs[i].cps.toList = zs[j].cps.toList := List.le_antisymm (List.not_lt.mp d) (List.not_lt.mp c)
        exact absurd (cps_inj this) (ne i j (by omega) (by omega) hij)
  · unfold ltZ at h ⊢
    have := of_decide_eq_true h
    exact decide_eq_false fun q => List.lt_irrefl _ (List.lt_trans this q)
  · unfold ltZ at h1 h2 ⊢
    exact decide_eq_true (List.lt_trans (of_decide_eq_true h1) (of_decide_eq_true h2))
theorem map_range (vs : List Value) : (List.range vs.length).map (fun i => vs.getD i Value.none) = vs := by
  apply List.ext_getElem
  · simp
  · intro i h1 h2
    simp [h2]
theorem wp_sortT {a : Addr} {vs : List Value} {zs : List Str} {n : Nat} {P : Fin → Shared → Prop} (ho : s.heap.get? a = some (seqObj "list" vs.toArray n)) (hal : ∀ v ∈ vs, v ≠ .ref a) (hh : Hds s.heap vs zs) (hn : zs.Nodup) (h64 : vs.length < 64)
    (h : ∀ p : Array Nat, Pm p vs.length → Up (ltZ zs) p vs.length → P (.done (.ret .none)) { s with heap := sortedHeap s.heap a vs (List.toArray (p.toList.map fun i => vs.getD i Value.none)) }) :
    wpAny (model prog w) A (Builtin.«list.sort» ⟨[.ref a], []⟩) P E s := by
  rw [list_sort_plain]
  have ha : a < s.heap.objs.size := Heap.lt_size ho
  have hsl : vs.length ≤ sizeLine := by rw [sizeLine_eq]; omega
  refine wpAny_bind (listItems_at ho rfl ?_)
  refine wpAny_bind (listUpdate_at ho rfl ?_)
  obtain ⟨e1, ho1⟩ : ∃ e1, (s.heap.update a (Obj.mapSeq fun _ => #[])).get? a = some (seqObj "list" #[] e1) := ⟨_, get?_update_seq ho (fun _ => #[])⟩
  refine wpAny_bind (seqEpoch_at ho1 rfl ?_)
  refine wpAny_bind (wpAny_newTuple ?_)
  refine wpAny_bind (wpAny_newList ?_)
  refine wpAny_holding ?_
  have ho6 : (((s.heap.update a (Obj.mapSeq fun _ => #[])).push (seqObj "tuple" vs.toArray 0)).push (seqObj "list" #[] 0)).get? a = some (seqObj "list" #[] e1) := Heap.get?_push_of_some _ (Heap.get?_push_of_some _ ho1)
  show wpAny (model prog w) A _ P E { s with heap := ((s.heap.update a (Obj.mapSeq fun _ => #[])).push (seqObj "tuple" vs.toArray 0)).push (seqObj "list" #[] 0) }
  have hh6 : Hds (((s.heap.update a (Obj.mapSeq fun _ => #[])).push (seqObj "tuple" vs.toArray 0)).push (seqObj "list" #[] 0)) vs zs := ⟨hh.1, fun i v z h1 h2 => (hh.2 i v z h1 h2).keep fun b o e q => by
    have hb : a ≠ b := fun e2 => hal v (List.mem_of_getElem? h1) (by rw [e, e2])
    exact Heap.get?_push_of_some _ (Heap.get?_push_of_some _ ((Heap.get?_update_other _ _ hb).trans q))⟩
  dsimp only
  have hsz : vs.toArray.size = vs.length := by simp
  by_cases h2 : vs.toArray.size < 2
  · rw [if_pos h2, if_pos h2]
    refine wpAny_bind (wpAny_pure ?_)
    rw [StateT.run_pure]
    refine wpAny_bind (wpAny_pure ?_)
    dsimp only
    have e5 : (arrOf (SortSt.mk' general' (vs.toArray.zip vs.toArray) #[] 7 none)).map (·.2) = vs.toArray := by
      show (vs.toArray.zip vs.toArray).map (·.2) = _
      apply Array.toList_inj.mp
      simp [List.map_snd_zip]
    refine wpAny_bind (seqEpoch_at ho6 rfl ?_)
    refine wpAny_bind (listUpdate_at ho6 rfl ?_ (hsz2 := by rw [e5, hsz]; omega))
    simp only [bne_self_eq_false, Bool.false_eq_true, if_false]
    refine wpAny_pure ?_
    rw [e5]
    have fin := h (List.toArray (List.range vs.length)) (pm_range _) fun i j hi hj => by rw [hsz] at h2; omega
    have e6 : (List.toArray (List.range vs.length)).toList.map (fun i => vs.getD i Value.none) = vs := map_range vs
    rw [e6] at fin
    exact fin
  · rw [if_neg h2, if_neg h2]
    obtain ⟨fs, k1, k2, k3⟩ := hds_firsts hh6
    rw [hsz] at h2
    refine wpAny_bind (kat_kind (T := .type "str") k1 (by omega) (fun f hf => ?_) (by decide) ?_)
    · obtain ⟨z, t, rfl⟩ := k3 f hf
      exact Looks.of_pure rfl
    refine wpAny_bind (wpAny_mono (kat_run (prog := prog) (w := w) (A := A) (E := E) (κ := tuples' true) (ks := vs) (vs := vs) (Q := fun st' s' => s' = { s with heap := ((s.heap.update a (Obj.mapSeq fun _ => #[])).push (seqObj "tuple" vs.toArray 0)).push (seqObj "list" #[] 0) } ∧ ∃ p : Array Nat, Pm p vs.length ∧ Up (ltZ zs) p vs.length ∧ arrOf st' = p.map (kas_item (vs.toArray.zip vs.toArray)) ∧ failedOf st' = none)
      (G := fun p s' => s' = { s with heap := ((s.heap.update a (Obj.mapSeq fun _ => #[])).push (seqObj "tuple" vs.toArray 0)).push (seqObj "list" #[] 0) } ∧ Pm p vs.length ∧ Up (ltZ zs) p vs.length) rfl (by omega) h64 (fun p st' s' _ a2 a3 a4 => ⟨a4.1, p, a4.2.1, a4.2.2, a2, a3⟩)
      (sort_ok (asks_tup (s := { s with heap := ((s.heap.update a (Obj.mapSeq fun _ => #[])).push (seqObj "tuple" vs.toArray 0)).push (seqObj "list" #[] 0) }) hh6 hn) (by omega) rfl fun p s' e P U => ⟨e, P, U⟩)) ?_ fun _ _ e => e)
    rintro ⟨⟨⟩, st'⟩ s' ⟨rfl, p, P, U, har, hf⟩
    dsimp only
    have e3 := kat_snds (ks := vs) (vs := vs) rfl har
    refine wpAny_bind (seqEpoch_at ho6 rfl ?_)
    refine wpAny_bind (listUpdate_at ho6 rfl ?_ (hsz2 := by rw [e3, List.size_toArray, List.length_map, Array.length_toList, P.size]; omega))
    rw [hf]
    simp only [bne_self_eq_false, Bool.false_eq_true, if_false]
    refine wpAny_pure ?_
    rw [e3]
    exact h p P U
theorem sortedT {l : Addr} {vs : List Value} {zs : List Str} {Q : Value → Shared → Prop} (hl : s.heap.IsList l vs.toArray) (hh : Hds s.heap vs zs) (hn : zs.Nodup) (h64 : vs.length < 64)
    (h : ∀ (h' : Heap) (e : Nat) (p : Array Nat), Pm p vs.length → Up (ltZ zs) p vs.length → (∀ b u, s.heap.get? b = some u → h'.get? b = some u) → h'.get? (s.heap.objs.size + 1) = some (seqObj "list" (List.toArray (p.toList.map fun i => vs.getD i Value.none)) e) → Q (.ref (s.heap.objs.size + 1)) { s with heap := h' }) :
    wpAny (model prog w) A (call (.builtin "sorted") [.ref l]) Q E s := by
  have hsl : vs.length ≤ sizeLine := by rw [sizeLine_eq]; omega
  refine Calls.call_function_entry kind_sorted plain_sorted entry_sorted (args_sorted1 _) ?_
  unfold Builtin.«sorted»
  refine wpAny_bind (m := checkCount "sorted" 1 1 _) (wpAny_pure ?_)
  refine wpAny_bind (collect_list (vs := vs) hl ?_)
  refine wpAny_bind (wpAny_newList ?_)
  have hsz : ((s.heap.push (seqObj "list" #[] 0)).update s.heap.objs.size (Obj.mapSeq (· ++ vs.toArray))).objs.size = s.heap.objs.size + 1 := by
    rw [Heap.size_update, size_push']
  have hoL : (((s.heap.push (seqObj "list" #[] 0)).update s.heap.objs.size (Obj.mapSeq (· ++ vs.toArray))).push (seqObj "list" vs.toArray 0)).get? (s.heap.objs.size + 1) = some (seqObj "list" vs.toArray 0) := by
    rw [← hsz]; exact Heap.get?_push_size _ rfl
  have hhL : Hds (((s.heap.push (seqObj "list" #[] 0)).update s.heap.objs.size (Obj.mapSeq (· ++ vs.toArray))).push (seqObj "list" vs.toArray 0)) vs zs := ⟨hh.1, fun i v z h1 h2 => (hh.2 i v z h1 h2).keep fun b o e q =>
    Heap.get?_push_of_some _ ((Heap.get?_update_other _ _ (Nat.ne_of_gt (Heap.lt_size q))).trans (Heap.get?_push_of_some _ q))⟩
  have hne : ∀ v ∈ vs, v ≠ .ref (s.heap.objs.size + 1) := fun v hv e => by
    obtain ⟨i, hi⟩ := List.getElem?_of_mem hv
    have hl := hh.1
    have hiz : i < zs.length := by have := (List.getElem?_eq_some_iff.mp hi).1; omega
    obtain ⟨b, o, xs, n, t, e2, h1, _⟩ := hh.2 i v zs[i] hi (List.getElem?_eq_getElem hiz)
    rw [e2] at e
    cases e
    exact absurd (Nat.lt_of_succ_lt (Heap.lt_size h1)) (Nat.lt_irrefl _)
  show wpAny _ _ _ _ _ { s with heap := ((s.heap.push (seqObj "list" #[] 0)).update s.heap.objs.size (Obj.mapSeq (· ++ vs.toArray))).push (seqObj "list" vs.toArray 0) }
  rw [hsz]
  refine wpAny_bind (wpAny_holding (wpAny_call_entry slot_list_sort ⟨_, hoL, rfl⟩ entry_list_sort (wp_sortT hoL hne hhL hn h64 fun p P U => ⟨_, rfl, ?_⟩) (args_list_sort _)))
  obtain ⟨e, he⟩ := sortedAll_at s.heap vs (List.toArray (p.toList.map fun i => vs.getD i Value.none))
  exact wpAny_pure ⟨_, rfl, h _ e p P U (fun b u hb => sortedAll_old hb) he⟩
end
end Sort3
namespace L2
open PySem PySem.Spec PyProof.Rows Sort3
theorem vals_refs : ∀ {ts : List Addr} {its : List Value}, Vals (ts.map V.ref) its → its = ts.map Value.ref
  | [], its, r => r.zero
  | t :: ts, its, r => by
    cases r with
    | cons h1 h2 =>
      rw [vals_refs h2]
      have : _ = Value.ref t := h1
      rw [this]
      rfl
theorem refs_vals : ∀ (ts : List Addr), Vals (ts.map V.ref) (ts.map Value.ref)
  | [] => .nil
  | t :: ts => .cons rfl (refs_vals ts)
theorem zip_range {α β : Type} (xs : List α) (ys : List β) (h : xs.length = ys.length) (a : α) (b : β) : (List.range xs.length).map (fun i => (xs.getD i a, ys.getD i b)) = xs.zip ys := by
  apply List.ext_getElem
  · simp [h]
  · intro i h1 h2
    have hx : i < xs.length := by simp at h1; exact h1
    have hy : i < ys.length := by omega
    simp [hx, hy]
section
variable {X : Cx} {σ : St} {H : Hp}
theorem call_sortedT : CallR X (.builtin "sorted") (fun xs H Q => ∃ (l : Addr) (ts : List Addr) (zs : List Str), xs = [.ref l] ∧ SqL X.K H l (ts.map V.ref) ∧ ts.length = zs.length ∧ zs.Nodup ∧ ts.length < 64 ∧ (∀ (i : Nat) t z, ts[i]? = some t → zs[i]? = some z → ∃ r, H t = some (.tup (.str z :: r))) ∧
    ∀ (r : Addr) (ps : List (Addr × Str)), H r = none → ps.Perm (ts.zip zs) → ps.Pairwise (fun a b => a.2.cps.toList < b.2.cps.toList) → Q (.ref r) (upd H r (.lst (ps.map fun p => .ref p.1)))) := by
  intro pins s σ H xs us Q I r h
  obtain ⟨l, ts, zs, rfl, hl, hlen, hn, h64, hd, q⟩ := h
  obtain ⟨u, rfl, ru⟩ := vals1 r
  cases (show u = Value.ref l from ru)
  obtain ⟨its, rv, pl, _⟩ := I.list hl
  have ei := vals_refs rv
  subst ei
  have hh : Hds s.heap (ts.map Value.ref) zs := by
    refine ⟨by rw [List.length_map]; exact hlen, fun i v z h1 h2 => ?_⟩
    rw [List.getElem?_map, Option.map_eq_some_iff] at h1
    obtain ⟨t, ht, rfl⟩ := h1
    obtain ⟨rr, hr⟩ := hd i t z ht h2
    obtain ⟨its, r3, tp, _⟩ := I.tuple (SqT.of hr)
    cases r3 with
    | cons a1 a2 =>
      obtain ⟨tk, rfl⟩ := a1
      obtain ⟨o, ho, hc, n, hd2⟩ := tp
      exact ⟨t, o, _, n, tk, rfl, ho, hc, hd2, rfl⟩
  refine sortedT pl.isList hh hn (by rw [List.length_map]; exact h64) fun h' e p P U kp he => ?_
  rw [List.length_map] at P U
  have gp : ∀ i, i < ts.length → g p i < ts.length := P.lt
  have pl2 : p.toList.length = ts.length := by rw [Array.length_toList]; exact P.size
  have e1 : (p.toList.map fun i => (ts.map Value.ref).getD i Value.none) = ((p.toList.map fun i => (ts.getD i 0, zs.getD i ⟨#[]⟩)).map fun x => x.1).map Value.ref := by
    rw [List.map_map, List.map_map]
    refine List.map_congr_left fun i hi => ?_
    have hlt := pm_mem P hi
    show (ts.map Value.ref).getD i Value.none = Value.ref (ts.getD i 0)
    simp [hlt]
  refine ⟨.ref _, _, I.laid' (s' := { s with heap := h' }) kp rfl rfl (Nat.le_succ _) (show ObjOk X.prog X.w _ h' _ (.lst ((p.toList.map fun i => (ts.getD i 0, zs.getD i ⟨#[]⟩)).map fun x => V.ref x.1)) from ?_), rfl, q _ (p.toList.map fun i => (ts.getD i 0, zs.getD i ⟨#[]⟩)) (I.hok.fresh (Nat.le_succ _)) ?_ ?_⟩
  · refine ⟨by rw [List.length_map, List.length_map, pl2, sizeLine_eq]; omega, _, e, ?_, he⟩
    rw [e1]
    have := refs_vals ((p.toList.map fun i => (ts.getD i 0, zs.getD i (⟨#[]⟩ : Str))).map fun x => x.1)
    rw [List.map_map] at this
    exact this
  · rw [← zip_range ts zs hlen 0 ⟨#[]⟩]
    exact (pm_perm P).map _
  · rw [List.pairwise_iff_getElem]
    intro i j hi hj hij
    rw [List.length_map] at hi hj
    have := U i j hij (by omega)
    have q1 : g p i = p.toList[i] := g_eq (by rw [← Array.getElem?_toList]; exact List.getElem?_eq_getElem hi)
    have q2 : g p j = p.toList[j] := g_eq (by rw [← Array.getElem?_toList]; exact List.getElem?_eq_getElem hj)
    rw [q1, q2] at this
    rw [List.getElem_map, List.getElem_map]
    exact of_decide_eq_true this
theorem eg_triple {e1 e2 e3 : Expr} {k : Nat} {pos : Pos} {t : Addr} {x y z : V} {R : St → Hp → Prop} (hc : X.calm = true) (ht : SqT X.K H t [x, y, z]) (h : Eg X e1 x σ H fun σ1 H1 => Eg X e2 y σ1 H1 fun σ2 H2 => Eg X e3 z σ2 H2 R)
    (hn : (assignEach [e1, e2, e3] X.env).length = 3 := by rfl) (hst : (assignEach [e1, e2, e3] X.env).findIdx? (·.1) = none := by rfl)
    (hs1 : (assignEach [e1, e2, e3] X.env).map (·.2) = assign e1 X.env :: (assignEach [e2, e3] X.env).map (·.2) := by rfl) (hs2 : (assignEach [e2, e3] X.env).map (·.2) = assign e2 X.env :: (assignEach [e3] X.env).map (·.2) := by rfl) (hs3 : (assignEach [e3] X.env).map (·.2) = assign e3 X.env :: (assignEach [] X.env).map (·.2) := by rfl) :
    Eg X (.Tuple [e1, e2, e3] k pos) (.ref t) σ H R :=
  eg_of (pg_tup (t := gCons (fun v σ H Q => Eg X e1 v σ H Q) (gCons (fun v σ H Q => Eg X e2 v σ H Q) (gCons (fun v σ H Q => Eg X e3 v σ H Q) gNil))) hc (pgs_cons pg_eg (pgs_cons pg_eg (pgs_cons pg_eg pgs_nil hs3) hs2) hs1) hn hst)
    ⟨t, _, rfl, ht, rfl, _, _, rfl, h.mono fun σ1 H1 h1 => ⟨_, _, rfl, h1.mono fun σ2 H2 h2 => ⟨_, _, rfl, h2.mono fun σ3 H3 q => ⟨rfl, q⟩⟩⟩⟩
end
end L2
namespace V2
open PySem L2 Nt Sort2
section
variable {P : Program} {w : World} {K : PySem.W.Frag} {mg : Str → Option Value} {base : Heap}
theorem free_back {H H' : Hp} {l : Addr} (s : Same H H') (h : H' l = none) : H l = none := by
  cases e : H l with
  | none => rfl
  | some v => rw [s _ _ e] at h; cases h
end
end V2
namespace V2
open PySem L2 Nt Sort2
theorem seats_split {n : Net} {r p : Nat} {z : Str} (hr : r < n.length) (hz : (row n r)[p]? = some z) : ∃ rest, seats n = (seats (n.take r) ++ rowSeats r ((row n r).take p) 0) ++ (z, (r, p)) :: rest := by
  have e1 : seats n = seats (n.take (r + 1)) ++ seatsFrom (0 + (n.take (r + 1)).length) (n.drop (r + 1)) := by
    have := seatsFrom_append (n.take (r + 1)) (n.drop (r + 1)) 0
    rw [List.take_append_drop] at this
    exact this
  have e2 : rowSeats r (row n r) 0 = rowSeats r ((row n r).take (p + 1)) 0 ++ rowSeats r ((row n r).drop (p + 1)) (0 + ((row n r).take (p + 1)).length) := by
    unfold rowSeats
    rw [← List.map_append, ← List.zipIdx_append, List.take_append_drop]
  rw [e1, seats_take hr, e2, rowSeats_take hz]
  refine ⟨rowSeats r ((row n r).drop (p + 1)) (0 + ((row n r).take (p + 1)).length) ++ seatsFrom (0 + (n.take (r + 1)).length) (n.drop (r + 1)), ?_⟩
  simp only [List.append_assoc, List.cons_append, List.nil_append]
noncomputable abbrev T3 (x : Lk) : HO := .tup [.str x.1, .str x.2.1, .str x.2.2]
noncomputable def AtL (H : Hp) (us : List Addr) (ls : List Lk) : Prop := us.length = ls.length ∧ ∀ (j : Nat) u x, us[j]? = some u → ls[j]? = some x → H u = some (T3 x)
theorem AtL.keep {H H' : Hp} {us : List Addr} {ls : List Lk} (h : AtL H us ls) (k : ∀ t xs, H t = some (.tup xs) → H' t = some (.tup xs)) : AtL H' us ls := ⟨h.1, fun j u x h1 h2 => k _ _ (h.2 j u x h1 h2)⟩
theorem AtL.snoc {H : Hp} {us : List Addr} {ls : List Lk} {u : Addr} {x : Lk} (h : AtL H us ls) (hu : H u = some (T3 x)) : AtL H (us ++ [u]) (ls ++ [x]) := by
  refine ⟨by rw [List.length_append, List.length_append, h.1]; rfl, fun j v y h1 h2 => ?_⟩
  have hl := h.1
  by_cases hj : j < us.length
  · rw [List.getElem?_append_left hj] at h1
    rw [List.getElem?_append_left (by omega)] at h2
    exact h.2 j v y h1 h2
  · rw [List.getElem?_append_right (by omega)] at h1 h2
    have hj2 : j - us.length = 0 := by
      have := (List.getElem?_eq_some_iff.mp h1).1
      simp at this
      omega
    rw [hj2] at h1
    rw [← hl, hj2] at h2
    cases h1
    cases h2
    exact hu
noncomputable def SortedL (ls : List Lk) : Prop := ls.Pairwise (fun x y => x.1.cps.toList < y.1.cps.toList)
noncomputable def spLinks : Sp := fun vs H Q _ => ∃ (R : Addr) (as : List (Addr × Addr)) (n : Net), vs = [.ref R] ∧ RowsAt H R as n ∧ Twice n ∧ n.length ≤ 1000 ∧ (ties n).length ≤ 60 ∧
  ∀ (L : Addr) (us : List Addr) (ls : List Lk) (H' : Hp), Same H H' → H L = none → H' L = some (.lst (us.map V.ref)) → AtL H' us ls → SortedL ls → (∀ x, x ∈ ls ↔ IsLink n x) → ls.length ≤ 60 → Q (.ref L) H'
theorem posIn_le {n : Net} (T : Twice n) {r p : Nat} {z : Str} (hr : r < n.length) (hz : (row n r)[p]? = some z) : (posIn (seats (n.take r) ++ rowSeats r ((row n r).take p) 0) z).length ≤ 1 := by
  obtain ⟨rest, h⟩ := seats_split hr hz
  have h1 : posIn (seats n) z = posIn (seats (n.take r) ++ rowSeats r ((row n r).take p) 0) z ++ (r, p) :: posIn rest z := by
    rw [h]
    unfold posIn
    rw [List.filter_append, List.map_append, List.filter_cons_of_pos (by simp)]
    rfl
  have h2 : (posIn (seats n) z).length = 2 := by
    have := pos_len n z
    rw [T z (tie_mem (e := (r, p)) hz)] at this
    exact this
  rw [h1, List.length_append, List.length_cons] at h2
  omega
section
variable {P : Program} {w : World} {K : PySem.W.Frag} {mg : Str → Option Value} {base : Heap}
noncomputable abbrev NLk : List Str := ["rows", "met", "links", "point", "ties", "tie"]
theorem scLk : FnScope NLk ["rows"] (defScope sLinks) := ⟨rfl, rfl, rfl, by decide +kernel, rfl, by decide +kernel, by decide +kernel⟩
theorem ok_links {f : Addr} {fd : FuncData} (F : Fun K "links_of" "links_of" sLinks f fd) (T : Txt mg) : FnOk P w K mg base CX0 1 f fd ["rows"] spLinks := by
  refine F.gb scLk (fun vs H Q E h => ?_) (fun b0 H vs Q E hr h => ?_)
  · obtain ⟨R, as, n, rfl, _⟩ := h
    rfl
  obtain ⟨R, as, n, rfl, hR, hT, hn, hti, q⟩ := h
  have nd := scLk.nd
  have hal := hR.len
  have hu := hr.u1
  show Run _ _ _ [some (.ref R), none, none, none, none, none] H
  refine run_set 1 nd (ev_dnewK fun dm hdm => ?_)
  refine run_set 2 nd (ev_lst (ea_nil ⟨(by show 0 ≤ sizeLine; decide), fun M hM => ?_⟩))
  have nMd : M ≠ dm := fun e => by rw [e, upd_same] at hM; cases hM
  have hM0 : H M = none := by rw [upd_ne nMd] at hM; exact hM
  have s0 : Same H (upd (upd H dm (.dK [])) M (.lst [])) := (same_new hdm _).trans (same_new hM _)
  have ed0 : (upd (upd H dm (.dK [])) M (.lst [])) dm = some (.dK []) := by rw [upd_ne (Ne.symm nMd), upd_same]
  have eM0 : (upd (upd H dm (.dK [])) M (.lst [])) M = some (.lst []) := upd_same
  show Run _ _ _ [some (.ref R), some (.ref dm), some (.ref M), none, none, none] (upd (upd H dm (.dK [])) M (.lst []))
  generalize upd (upd H dm (.dK [])) M (.lst []) = H0 at s0 ed0 eM0
  have lseats : (seats n).length = (ties n).length := by rw [← seats_names n 0, List.length_map]; rfl
  refine run_forL (ev_v 0 ⟨R, rfl, ⟨_, SqL.of (s0 _ _ hR.lst)⟩, loop_list (xs := as.map fun a => V.ref a.1) (fun r σ H' => ∃ (kM : List (Key × V)) (us : List Addr) (ls : List Lk) (u1 u2 u3 : Option V), Same H H' ∧ H' dm = some (.dK kM) ∧ H' M = some (.lst (us.map V.ref)) ∧ AtL H' us ls ∧ LkI n (seats (n.take r)) kM ls ∧ σ = [some (.ref R), some (.ref dm), some (.ref M), u1, u2, u3])
    ⟨[], [], [], _, _, _, s0, ed0, eM0, ⟨rfl, fun j u x h => by simp at h⟩, LkI.start n, rfl⟩ ?_ ?_ ?_⟩)
  · rintro r σ H' _ ⟨_, _, _, _, _, _, sm, _⟩
    exact SqL.of (sm _ _ hR.lst)
  · rintro r x σ H' hx ⟨kM, us, ls, u1, u2, u3, sm, ed, eM, hat, I, rfl⟩
    have hi : r < n.length := by
      have := (List.getElem?_eq_some_iff.mp hx).1
      rw [List.length_map] at this
      omega
    obtain ⟨a, ea, eat, et, el, er⟩ := (hR.same sm).at hi
    rw [List.getElem?_map, ea] at hx
    cases hx
    refine eg_pair rfl (SqT.of et) (eg_name 3 nd (eg_name 4 nd ?_))
    refine run_forL (ev_v 4 ⟨a.2, rfl, ⟨_, SqL.of el⟩, loop_list (xs := (row n r).map V.str) (fun p σ H'' => ∃ (kM : List (Key × V)) (us : List Addr) (ls : List Lk) (u3 : Option V), Same H H'' ∧ H'' a.2 = some (Ls (row n r)) ∧ H'' dm = some (.dK kM) ∧ H'' M = some (.lst (us.map V.ref)) ∧ AtL H'' us ls ∧ LkI n (seats (n.take r) ++ rowSeats r ((row n r).take p) 0) kM ls ∧ σ = [some (.ref R), some (.ref dm), some (.ref M), some (.str n[r].1), some (.ref a.2), u3])
      ⟨kM, us, ls, _, sm, el, ed, eM, hat, by simpa [rowSeats] using I, rfl⟩ ?_ ?_ ?_⟩)
    · rintro p σ H'' _ ⟨_, _, _, _, _, e, _⟩
      exact SqL.of e
    · rintro p x σ H'' hx ⟨kM, us, ls, u3, sm, el, ed, eM, hat, I, rfl⟩
      have hp : p < (row n r).length := by
        have := (List.getElem?_eq_some_iff.mp hx).1
        rw [List.length_map] at this
        exact this
      have hz : (row n r)[p]? = some (row n r)[p] := List.getElem?_eq_getElem hp
      rw [List.getElem?_map, hz] at hx
      cases hx
      have hs1 := rowSeats_take (r := r) hz
      have hle := posIn_le hT hi hz
      have hdone : (seats (n.take r) ++ rowSeats r ((row n r).take p) 0).length ≤ 60 := by
        obtain ⟨rest, hrest⟩ := seats_split hi hz
        have h1 := congrArg List.length hrest
        simp only [List.length_append] at h1 ⊢
        omega
      have lM := I.lenM
      have lL := I.lenL
      have lA := hat.1
      have nmr : nmA n r = n[r].1 := nmA_eq hi
      have naM : a.2 ≠ M := fun e => by
        have := (hR.tup r a n[r] ea (List.getElem?_eq_getElem hi)).2
        rw [e, hM0] at this
        cases this
      generalize (row n r)[p] = z at hz hs1 hle
      refine eg_name 5 nd ?_
      refine run_if (et_din hu (ev_v 5 (ev_v 1 ⟨dm, _, rfl, DGet.k (k := Sum.inr z) ed, ?_⟩)))
      cases hpz : posIn (seats (n.take r) ++ rowSeats r ((row n r).take p) 0) z with
      | nil =>
        rw [I.m0 z hpz]
        show if false = true then _ else _
        rw [if_neg (by decide)]
        refine run_dput hu (ev_v 3 (ev_v 1 (ev_v 5 ⟨dm, _, rfl, DPut.k (k := Sum.inr z) ed (small' (by omega)), run_nil (run_nil ⟨_, us, ls, _, same_mut sm hdm, ?_, upd_same, ?_, hat.keep fun t xs h => ?_, ?_, rfl⟩)⟩)))
        · rw [upd_ne (ne_of el ed fun z => nomatch z)]
          exact el
        · rw [upd_ne nMd]
          exact eM
        · rw [upd_ne (ne_of h ed fun z => nomatch z)]
          exact h
        · rw [hs1, ← List.append_assoc]
          have := I.new (e := (r, p)) hpz
          show LkI n _ (putK kM (Sum.inr z) (.str n[r].1)) ls
          rw [← nmr]
          exact this
      | cons b rest =>
        have hr0 : rest = [] := by
          rw [hpz] at hle
          exact List.length_eq_zero_iff.mp (by have : rest.length + 1 ≤ 1 := hle; omega)
        subst hr0
        have vm := I.m1 z b [] hpz
        rw [vm]
        show if true = true then _ else _
        rw [if_pos rfl]
        refine run_expr (ev_append (ev_v 2 ⟨M, rfl, ⟨_, eM⟩, ev_tup (ea_cons (ev_v 5 (ea_cons (ev_dget hu (ev_v 1 (ev_v 5 ⟨dm, .str (nmA n b.1), rfl, by rw [← vm]; exact DGet.k (k := Sum.inr z) ed, ea_cons (ev_v 3 (ea_nil ⟨(by show 3 ≤ sizeLine; decide), fun t ht => ?_⟩))⟩))))))⟩))
        have sT := same_new ht (.tup [.str z, .str (nmA n b.1), .str n[r].1])
        have ntM : t ≠ M := fun e => by rw [e, eM] at ht; cases ht
        have et3 : (upd H'' t (.tup [.str z, .str (nmA n b.1), .str n[r].1])) t = some (T3 (z, nmA n b.1, nmA n (r, p).1)) := by
          rw [upd_same]
          show _ = some (HO.tup [.str z, .str (nmA n b.1), .str (nmA n r)])
          rw [nmr]
        have kT : ∀ c xs, (upd H'' t (.tup [.str z, .str (nmA n b.1), .str n[r].1])) c = some (.tup xs) → (upd (upd H'' t (.tup [.str z, .str (nmA n b.1), .str n[r].1])) M (.lst (us.map V.ref ++ [.ref t]))) c = some (.tup xs) := fun c xs h => by
          rw [upd_ne (ne_of h (sT _ _ eM) fun z => nomatch z)]
          exact h
        refine ⟨_, sT _ _ eM, by rw [List.length_map]; exact small' (by omega), run_nil (run_nil ⟨kM, us ++ [t], ls ++ [(z, nmA n b.1, nmA n (r, p).1)], _, same_mut (sm.trans sT) hM0, ?_, ?_, ?_, ?_, ?_, rfl⟩)⟩
        · rw [upd_ne naM]
          exact sT _ _ el
        · rw [upd_ne (Ne.symm nMd)]
          exact sT _ _ ed
        · rw [upd_same, List.map_append]
          rfl
        · exact ((hat.keep fun c xs h => sT _ _ h).snoc et3).keep kT
        · rw [hs1, ← List.append_assoc]
          exact I.old (e := (r, p)) hpz
    · rintro σ H'' ⟨kM, us, ls, u3, sm, _, ed, eM, hat, I, rfl⟩
      rw [List.length_map, List.take_length] at I
      refine run_nil ⟨kM, us, ls, _, _, _, sm, ed, eM, hat, ?_, rfl⟩
      rw [seats_take hi]
      exact I
  · rintro σ H' ⟨kM, us, ls, u1, u2, u3, sm, ed, eM, hat, I, rfl⟩
    rw [List.length_map, hal, List.take_length] at I
    have lL := I.lenL
    have lA := hat.1
    have hlt : us.length < 64 := by omega
    refine run_ret (ev_blt call_sortedT T.sorted PyProof.Rows.boot_sorted (ea_cons (ev_v 2 (ea_nil ⟨M, us, ls.map (·.1), rfl, SqL.of eM, by rw [List.length_map]; exact lA, I.nod, hlt, fun i t z h1 h2 => ?_, fun L ps hL hp hs => ?_⟩))))
    · rw [List.getElem?_map, Option.map_eq_some_iff] at h2
      obtain ⟨x, hx, rfl⟩ := h2
      exact ⟨_, hat.2 i t x h1 hx⟩
    have pick : ∀ p ∈ ps, ∃ x, x ∈ ls ∧ x.1 = p.2 ∧ H' p.1 = some (T3 x) := fun p hpm => by
      have hz := hp.mem_iff.mp hpm
      obtain ⟨i, hi⟩ := List.getElem?_of_mem hz
      rw [List.getElem?_zip_eq_some] at hi
      obtain ⟨h1, h2⟩ := hi
      rw [List.getElem?_map, Option.map_eq_some_iff] at h2
      obtain ⟨x, hx, e⟩ := h2
      exact ⟨x, List.mem_of_getElem? hx, e, hat.2 i _ x h1 hx⟩
    obtain ⟨xs, hxs⟩ : ∃ xs : List Lk, xs.length = ps.length ∧ ∀ (j : Nat) p x, ps[j]? = some p → xs[j]? = some x → x ∈ ls ∧ x.1 = p.2 ∧ H' p.1 = some (T3 x) := by
      clear hs hp
      induction ps with
      | nil => exact ⟨[], rfl, fun j p x h => by simp at h⟩
      | cons p r ih =>
        obtain ⟨x, q1, q2, q3⟩ := pick p (List.mem_cons_self ..)
        obtain ⟨xs, l1, l2⟩ := ih (fun c hc => pick c (List.mem_cons_of_mem _ hc))
        refine ⟨x :: xs, by rw [List.length_cons, List.length_cons, l1], fun j c y h1 h2 => ?_⟩
        cases j with
        | zero =>
          cases h1
          cases h2
          exact ⟨q1, q2, q3⟩
        | succ j => exact l2 j c y (by simpa using h1) (by simpa using h2)
    obtain ⟨lx, hxs⟩ := hxs
    have lp : ps.length = ls.length := by rw [hp.length_eq, List.length_zip, List.length_map]; omega
    have sL := same_new hL (.lst (ps.map fun p => .ref p.1))
    have hsx : SortedL xs := by
      unfold SortedL
      rw [List.pairwise_iff_getElem]
      intro i j hi hj hij
      have a1 := (hxs i ps[i] xs[i] (List.getElem?_eq_getElem (by omega)) (List.getElem?_eq_getElem hi)).2.1
      have a2 := (hxs j ps[j] xs[j] (List.getElem?_eq_getElem (by omega)) (List.getElem?_eq_getElem hj)).2.1
      rw [a1, a2]
      exact List.pairwise_iff_getElem.mp hs i j (by omega) (by omega) hij
    have xnod : (xs.map (·.1)).Nodup := by
      rw [List.nodup_iff_pairwise_ne, List.pairwise_map]
      exact hsx.imp fun h e => by rw [e] at h; exact List.lt_irrefl _ h
    have hmem : ∀ x, x ∈ xs ↔ x ∈ ls := fun x => by
      constructor
      · intro h
        obtain ⟨j, hj⟩ := List.getElem?_of_mem h
        have hjl := (List.getElem?_eq_some_iff.mp hj).1
        exact (hxs j ps[j] x (List.getElem?_eq_getElem (by omega)) hj).1
      · intro h
        refine Classical.byContradiction fun hn => ?_
        have nodx : xs.Nodup := by
          rw [List.nodup_iff_pairwise_ne] at xnod ⊢
          rw [List.pairwise_map] at xnod
          exact xnod.imp fun h e => h (by rw [e])
        have := nodup_le nodx (b := ls.erase x) fun z hz => by
          have hzl : z ∈ ls := by
            obtain ⟨j, hj⟩ := List.getElem?_of_mem hz
            have hjl := (List.getElem?_eq_some_iff.mp hj).1
            exact (hxs j ps[j] z (List.getElem?_eq_getElem (by omega)) hj).1
          exact (List.mem_erase_of_ne (fun e : z = x => hn (e ▸ hz))).mpr hzl
        rw [List.length_erase_of_mem h] at this
        have : 0 < ls.length := List.length_pos_of_mem h
        omega
    refine q L (ps.map (·.1)) xs _ (sm.trans sL) (free_back sm hL) (by rw [upd_same, List.map_map]; rfl) ⟨by rw [List.length_map]; omega, fun j u x h1 h2 => ?_⟩ hsx (fun x => by rw [hmem x]; exact I.whole hT x) (by omega)
    rw [List.getElem?_map, Option.map_eq_some_iff] at h1
    obtain ⟨p, hp1, rfl⟩ := h1
    exact sL _ _ (hxs j p x hp1 h2).2.2
end
end V2
namespace L2
open PySem PySem.Spec PyProof.Rows
section
variable {X : Cx} {σ : St} {H : Hp} {Q : VK}
theorem ev_dict1 {k v : Expr} {pos : Pos} (hu : X.A.units + 1 < cLine) (h : ∀ d, H d = none → Ev X k σ (upd H d (.dK [])) fun y H1 => Ev X v σ H1 fun x H2 => ∃ H3, DPut H2 d y x H3 ∧ Q (.ref d) H3) : Ev X (.Dict [some k] [v] pos) σ H Q := by
  refine ⟨fun pins s I => wpAny_Dict_any rfl rfl (by simp) (by show 1 ≤ 15; decide) ?_⟩
  have I0 : Inv X pins σ (upd H s.heap.objs.size (.dK [])) { s with heap := s.heap.push { cls := .type "dict", data := .dict #[] } } := I.laid (a := s.heap.objs.size) (o := .dK []) (t' := s.toks) (fun _ _ q => Heap.get?_push_of_some _ q) (Nat.le_refl _) (dk_empty s.heap I.big)
  show wpAny _ _ (evalPairs [(eval k X.env, do let x ← eval v X.env; standAt pos; pure x)]) _ _ _
  unfold evalPairs
  refine wpAny_bind (thn ((h _ I.fresh).run pins _ I0) fun kv s1 ⟨y, H1, I1, r1, h1⟩ => ?_)
  refine wpAny_bind (wpAny_holding (wpAny_bind (thn (h1.run pins s1 I1) fun vv s2 ⟨x, H2, I2, r2, H3, dp, q⟩ => ?_)))
  refine wpAny_bind (wpAny_standAt (wpAny_pure ?_))
  unfold evalPairs
  refine wpAny_bind (wpAny_holding (wpAny_pure (wpAny_pure ?_)))
  unfold storeAll
  rw [List.forIn_cons]
  refine wpAny_bind (wpAny_bind (d_dictSet hu I2 dp r1 r2 fun s' I' => wpAny_pure ?_))
  exact wpAny_pure ⟨.ref _, H3, I', rfl, q⟩
end
end L2
namespace L2
open PySem PySem.Spec PyProof.Rows SetT
section
variable {prog : Program} {w : World} {A : Around} {E : Value → Shared → Prop} {s : Shared} {T : String} {r d : Addr} {n : Nat} {P : Nat → Value → Prop} {OK : Heap → Prop}
end
section
variable {X : Cx}
end
end L2
namespace L2
open PySem PySem.Spec PyProof.Rows
section
noncomputable def Ite (K : PySem.W.Frag) (l : Addr) : It :=
  ⟨fun i H => ∃ xs x, SqL K H l xs ∧ xs[i]? = some x,
   fun i H v H' => ∃ T x, H T = none ∧ v = .ref T ∧ H' = upd H T (.tup [.int (i : Int), x]) ∧ ∀ xs, SqL K H l xs → xs[i]? = some x,
   fun i H => ∃ xs, SqL K H l xs ∧ xs.length ≤ i⟩
noncomputable def EnumTn (m l : Addr) (i : Nat) (h : Heap) : Prop := (∃ old, IsEnum h (m + 1) m (i : Int) old) ∧ h.IsListIter m l i
theorem turn_enum {P : Program} {w : World} {K : PySem.W.Frag} {elts : List Expr} {k : Nat} {tp : Pos} (m l : Addr) : Turn P w K (.Tuple elts k tp) (Ite K l) [m, m + 1] (m + 1) (EnumTn m l) where
  mem := by simp
  obj := fun i h st c hc => by
    obtain ⟨⟨old, z1⟩, ⟨o4, e4, c4, d4⟩⟩ := st
    simp only [List.mem_cons, List.not_mem_nil, or_false] at hc
    rcases hc with rfl | rfl
    · exact ⟨_, e4, fun v z => by rw [d4] at z; cases z⟩
    · exact ⟨_, z1, fun v z => by cases z⟩
  keep := fun i h h' st kp => by
    obtain ⟨⟨old, z1⟩, ⟨o4, e4, r4⟩⟩ := st
    exact ⟨⟨old, kp _ (by simp) _ z1⟩, ⟨o4, kp _ (by simp) _ e4, r4⟩⟩
  item := by
    intro X hP hw hK hc i pins s σ H E I hf st hg
    subst hP hw hK
    obtain ⟨xs, x, hxs, hx⟩ := hg
    obtain ⟨its1, rv1, p1, hz1⟩ := I.list hxs
    obtain ⟨u1, hu1, ru1⟩ := rv1.get hx
    obtain ⟨⟨old, z1⟩, z4⟩ := id st
    refine wpAny_pyNext_enum_item z1 z4 p1.isList (x := u1) (by simpa using hu1) (by simp) fun h' a1 a2 a3 a4 kp => ?_
    have hT : H s.heap.objs.size = none := I.hok.fresh (Nat.le_refl _)
    have nT : ∀ c ∈ [m, m + 1], c ≠ s.heap.objs.size := fun c hc' => by
      have : ∃ o, s.heap.get? c = some o := by
        obtain ⟨o4, e4, _⟩ := z4
        simp only [List.mem_cons, List.not_mem_nil, or_false] at hc'
        rcases hc' with rfl | rfl
        · exact ⟨_, e4⟩
        · exact ⟨_, z1⟩
      obtain ⟨o, e⟩ := this
      exact Nat.ne_of_lt (Heap.lt_size e)
    have I1 : Inv X pins σ (upd H s.heap.objs.size (.tup [.int (i : Int), x])) { s with heap := s.heap.push { cls := .type "tuple", data := .seq #[.int i s.toks, u1] }, toks := s.toks + 1 } :=
      I.laid (t' := s.toks + 1) (fun b o e => Heap.get?_push_of_some _ e) (Nat.le_refl _) (show ObjOk X.prog X.w _ _ _ (.tup [.int (i : Int), x]) from ⟨(by show 2 ≤ sizeLine; decide), [.int i s.toks, u1], .cons ⟨_, rfl⟩ (.cons ru1 .nil), ⟨_, Heap.get?_push_size _ rfl, rfl, _, rfl⟩⟩)
    have f1 : ∀ c ∈ [m, m + 1], FpOk X pins (upd H s.heap.objs.size (.tup [.int (i : Int), x])) c := fun c hc' => ⟨by rw [upd_ne (nT c hc')]; exact (hf c hc').1, (hf c hc').2⟩
    have kp2 : ∀ c o, c ∉ [m, m + 1] → (s.heap.push { cls := .type "tuple", data := .seq #[.int i s.toks, u1] }).get? c = some o → h'.get? c = some o := fun c o hc' e => by
      rcases Heap.get?_push_cases e with ⟨ec, eo⟩ | e'
      · rw [ec, eo]
        exact a3
      · simp only [List.mem_cons, List.not_mem_nil, or_false, not_or] at hc'
        exact kp c o hc'.2 hc'.1 e'
    have I2 := Inv.turnedL (h' := h') (t' := s.toks + 1) I1 f1 kp2
    refine ⟨_, rfl, wpAny_letOwnedTupleGo_enum (s := { s with heap := h', toks := s.toks + 1 }) a1 fun h2 b1 sb => ?_⟩
    have kp3 : ∀ c o, c ∉ [m + 1] → h'.get? c = some o → h2.get? c = some o := fun c o hc' e => (sb.2 c (by simpa using hc')).trans e
    have I3 := Inv.turnedL (h' := h2) (t' := s.toks + 1) I2 (ch := [m + 1]) (fun c hc' => f1 c (by simp at hc'; simp [hc'])) kp3
    refine ⟨.ref s.heap.objs.size, _, I3, rfl, ⟨_, x, hT, rfl, rfl, fun zs hz => by rw [I.list_inj hz hxs]; exact hx⟩, ?_, fun c hc' => (f1 c hc').1⟩
    obtain ⟨o3, e3, r3⟩ := a2
    exact ⟨⟨u1, b1⟩, ⟨o3, kp3 _ _ (by simp) e3, r3⟩⟩
  done := by
    intro X hP hw hK hc i pins s σ H E I hf st hg
    subst hP hw hK
    obtain ⟨xs, hxs, hend⟩ := hg
    obtain ⟨its1, rv1, p1, hz1⟩ := I.list hxs
    have l1 := rv1.length
    obtain ⟨⟨old, z1⟩, z4⟩ := id st
    refine wpAny_pyNext_enum_end (I.ok.hd hc) z1 z4 p1.isList (by simp; omega) fun h' kp => ⟨rfl, I.turnedL (t' := s.toks) (ch := [m, m + 1]) hf fun c o hc' e => ?_⟩
    simp only [List.mem_cons, List.not_mem_nil, or_false, not_or] at hc'
    exact kp c o hc'.1 e
  self := fun _ _ _ _ _ st h => by
    obtain ⟨⟨old, z1⟩, _⟩ := st
    exact wpAny_pyIter_enum z1 h
end
section
variable {X : Cx}
noncomputable def iEnum (K : PySem.W.Frag) (ta : TA) : TI := fun σ H R => ta σ H fun vs H1 => ∃ a, vs = [.ref a] ∧ (∃ xs, SqL K H1 a xs) ∧ R (Ite K a) H1
theorem pi_enum {elts : List Expr} {k : Nat} {tp : Pos} {a : Expr} {ta : TA} {p pos : Pos} (hg : Gl X "enumerate") (hm : X.mg "enumerate" = none) (ha : PA X [a] ta) (hs : starEach [a] X.env = [(false, eval a X.env)] := by rfl) :
    PI X (.Tuple elts k tp) (.Call (.Name "enumerate" p) [a] [] pos) (iEnum X.K ta) := by
  intro pins s σ H R I h
  refine Call_ (ld_blt I hg hm boot_enumerate (PyProof.Rows.callWith_type1 (thn (ha pos pins s σ H _ I h) fun us s1 ⟨vs, H1, I1, r1, q1⟩ => ?_) hs rfl))
  obtain ⟨x, e, ⟨xs, hx⟩, q⟩ := q1
  subst e
  obtain ⟨u, rfl, ru⟩ := r1.one
  cases (show u = Value.ref x from ru)
  obtain ⟨its1, rv1, p1, hz1⟩ := I1.list hx
  refine call_enumerate_list p1.isList fun h' a1 a2 a3 kp => ?_
  refine wpAny_pyIter_enum (s := { s1 with heap := h' }) a1 ?_
  refine ⟨s1.heap.objs.size + 1, [s1.heap.objs.size, s1.heap.objs.size + 1], _, _, H1, rfl, I1.kept (t' := s1.toks) kp, turn_enum s1.heap.objs.size x, ⟨⟨_, a1⟩, a2⟩, fun b hb => ?_, q⟩
  have hle : s1.heap.objs.size ≤ b := by
    simp only [List.mem_cons, List.not_mem_nil, or_false] at hb
    rcases hb with rfl | rfl <;> omega
  exact I1.fpOk hle (I1.hok.fresh hle)
end
end L2
namespace L2
open PySem PySem.Spec PyProof.Rows
section
variable {X : Cx}
theorem count_in (z : Str) : ∀ zs : List Str, countIn (.str z) (zs.map PyData.str) = (zs.count z : Int)
  | [] => rfl
  | y :: r => by
    rw [List.map_cons, countIn, count_in z r, List.count_cons]
    simp only [same]
    rcases Bool.eq_false_or_eq_true (y == z) with hb | hb <;> simp only [hb, Bool.false_eq_true, if_true, if_false] <;> push_cast <;> omega
noncomputable def rCount (K : PySem.W.Frag) : V → List V → Hp → VK → Prop := fun x vs H Q => ∃ (l : Addr) (zs : List Str) (z : Str), x = .ref l ∧ vs = [.str z] ∧ SqL K H l (zs.map V.str) ∧ Q (.int (zs.count z : Int)) H
theorem mt_count : MtM X "list.count" (rCount X.K) := by
  intro pins s σ H x vs v us Q I rx rv h
  obtain ⟨l, zs, z, rfl, rfl, hH, q⟩ := h
  cases rx
  obtain ⟨u, rfl, ru⟩ := rv.one
  obtain ⟨tk, rfl⟩ := ru
  obtain ⟨its, r, pl, hz⟩ := I.list hH
  refine count_list_strs pl.isList (strs_of_vals r) ?_
  rw [count_in]
  exact ⟨.int (zs.count z : Int), H, I.tok _, ⟨_, rfl⟩, q⟩
end
end L2
namespace L2
open PySem PySem.Spec PyProof.Rows
section
variable {X : Cx} {σ : St} {H : Hp} {D : Ends} {body : List Stmt}
noncomputable def iDictF (tl : TE) : TI := fun σ H R => tl σ H fun x H1 => ∃ d o kvs, x = .ref d ∧ H1 d = some (.frz o (.dK kvs)) ∧ R (Itk d o kvs) H1
theorem pi_dictF {tg l : Expr} {tl : TE} (hl : PE X l tl) : PI X tg l (iDictF tl) := by
  intro pins s σ H R I h
  refine thn (hl pins s σ H _ I h) fun v s1 ⟨x, H1, I1, r1, q1⟩ => ?_
  obtain ⟨d, o, kvs, e, hH, q⟩ := q1
  subst e
  cases (show v = Value.ref d from r1)
  obtain ⟨ho, z, hdm, vs, rel, dd⟩ := (show ObjOk X.prog X.w H1 s1.heap d (.frz o (.dK kvs)) from I1.hok d _ hH)
  obtain ⟨ep, o', es, ho', r1, r2, r3⟩ := dd.dictAt
  have : o = o' := Option.some.inj (ho.symm.trans ho')
  subst this
  refine wpAny_pyIter_dict hdm ⟨o, es, ho', r1, r2, r3⟩ ?_
  refine ⟨s1.heap.objs.size, [s1.heap.objs.size], _, _, _, rfl, I1.kept (t' := s1.toks) fun b o e => Heap.get?_push_of_some _ e, turn_dict d _ o es ep kvs r2, ⟨_, Heap.get?_push_size _ rfl, rfl, by rw [rel.length]; rfl⟩, fun b hb => ?_, q⟩
  have e : b = s1.heap.objs.size := by simpa using hb
  subst e
  exact I1.fpOk (Nat.le_refl _) (I1.hok.fresh (Nat.le_refl _))
end
end L2
namespace L2
open PySem PySem.Spec PyProof.Rows
section
variable {X : Cx} {σ : St} {H : Hp} {D : Ends} {body rest : List Stmt} {a b : Expr}
end
end L2
namespace SetT
open PySem SetTable
end SetT
namespace SetT
open PySem SetTable
section
variable {t : SetTable} {es : Array (Int × Value)} {Z : List Ze}
end
end SetT
namespace SetT
open PySem SetTable
section
variable {prog : Program} {w : World} {K : Type} [DecidableEq K]
variable {A : Around} {E : Value → Shared → Prop} {s : Shared} {a b : Addr} {knd : HeapKind prog w K} {k : K} {Y : List (Nat × K × Addr)}
end
end SetT
namespace SetT
open PySem SetTable
section
variable {prog : Program} {w : World} {K : Type} [DecidableEq K]
variable {A : Around} {E : Value → Shared → Prop} {s : Shared} {a b : Addr} {knd : HeapKind prog w K} {k : K} {Y : List (Nat × K × Addr)}
end
section
variable {prog : Program} {w : World} {K : Type} [DecidableEq K] {knd : KeyKind prog w K}
end
end SetT
namespace L2
open PySem PySem.Spec PyProof.Rows SetT
open Classical
section
variable {prog : Program} {w : World} {A : Around} {E : Value → Shared → Prop} {s : Shared} {a b : Addr} {Y : List Yt} {k : List Key}
end
section
variable {X : Cx} {σ : St} {H : Hp} {Q : VK} {pins : List (Addr × Obj)} {s : Shared} {a b : Addr} {Y : List Yt}
end
end L2
namespace L2
open PySem PySem.Spec PyProof.Rows
section
variable {X : Cx} {σ : St} {H : Hp} {Q : VK}
end
section
variable {X : Cx} {elt tg : Expr} {ifs : List Expr} {scope : Scope} {σ : St} {H : Hp} {N' : List Str} {A a : Addr} {xs : List V} {after : Hp → Prop}
end
end L2
namespace L2
open PySem PySem.Spec PyProof.Rows
section
variable {X : Cx} {σ : St} {H : Hp} {D : Ends} {rest : List Stmt} {o i e : Expr} {op : Operator} {tip : TIp} {tpos pos : Pos}
theorem get_list : PGet X (rIxL X.K) := by
  intro pins s σ H x y v u Q I rx ry h
  obtain ⟨p, xs, i, z, rfl, rfl, hq, he, q⟩ := h
  cases rx
  obtain ⟨t, rfl⟩ := ry
  obtain ⟨its, r, pl, hz⟩ := I.list hq
  obtain ⟨j, h1, h2, h3, h4, h5⟩ := atI_get he
  obtain ⟨w, ew, rw'⟩ := r.get h2
  have hl := r.length
  have hn := line63
  have fin : EP X pins σ Q w s := ⟨z, H, I, rw', q⟩
  by_cases h0 : 0 ≤ i
  · have hj : i.toNat = j := by
      rw [seqIndex_of h0 h5] at h1
      exact Option.some.inj h1
    exact wpAny_getItem_list pl.isList h0 (by omega) (by rw [hj]; simpa using ew) fin
  · have hj : (i + (its.toArray.size : Int)).toNat = j := by
      rw [seqIndex_neg (by omega) h4] at h1
      rw [List.size_toArray, ← hl]
      exact Option.some.inj h1
    exact wpAny_getItem_list_neg pl.isList (by omega) (by rw [List.size_toArray] <;> omega) (by omega) (by rw [hj]; simpa using ew) fin
theorem run_augL (hp : PIp X op tip) (h : Ev X o σ H fun x H1 => Ev X i σ H1 fun y H2 => rIxL X.K x y H2 fun a H3 => Ev X e σ H3 fun b H4 => tip a b H4 fun z H5 => rSetL x y z H5 fun H6 => Run X rest D σ H6)
    (ha : ∀ ov iv new, augStore i ov iv new = (do holding [new, ov, iv] (setItem ov iv new); release [new, ov, iv] []; pure .next) := by intros; rfl) : Run X (.AugAssign (.Subscript o i tpos) op e pos :: rest) D σ H :=
  run_cons (ps_augS pe_ev pe_ev get_list pe_ev hp set_list ha) h
end
end L2
namespace L2
open PySem PySem.Spec PyProof.Rows
section
variable {X : Cx} {σ : St} {H : Hp}
noncomputable def rIndex (K : PySem.W.Frag) : V → List V → Hp → VK → Prop := fun x vs H Q => ∃ (l : Addr) (zs : List Str) (z : Str) (j : Nat), x = .ref l ∧ vs = [.str z] ∧ SqL K H l (zs.map V.str) ∧ zs[j]? = some z ∧ z ∉ zs.take j ∧ j < 100000 ∧ Q (.int (j : Int)) H
theorem mt_index : MtM X "list.index" (rIndex X.K) := by
  intro pins s σ H x vs v us Q I rx rv h
  obtain ⟨l, zs, z, j, rfl, rfl, hH, hj, hno, hsm, q⟩ := h
  cases rx
  obtain ⟨u, rfl, ru⟩ := rv.one
  obtain ⟨tk, rfl⟩ := ru
  obtain ⟨its, r, pl, hz⟩ := I.list hH
  have hlen := r.length
  rw [List.length_map] at hlen
  have hjl := (List.getElem?_eq_some_iff.mp hj).1
  have val : ∀ (m : Nat) (hm : m < its.length), ∃ y t, zs[m]? = some y ∧ its[m] = Value.str y t := fun m hm => by
    obtain ⟨w, hw, rw'⟩ := r.get (i := m) (x := .str (zs[m]'(by omega))) (by rw [List.getElem?_map, List.getElem?_eq_getElem (by omega)]; rfl)
    rw [List.getElem?_eq_getElem hm] at hw
    obtain ⟨t, rfl⟩ := rw'
    exact ⟨_, t, List.getElem?_eq_getElem (by omega), Option.some.inj hw⟩
  obtain ⟨⟨cls, dd, data, sl⟩, ho, hc, n, hd⟩ := id pl.isList
  simp only at hc hd
  subst hc hd
  refine call_meets PySem.F.slot_list_index ⟨_, ho, rfl⟩ PySem.F.entry_list_index (PySem.F.args_list_index_2 _ _) (SeqAt.list_indexAt l its.toArray n dd sl (.str z tk) (eqU (.str z)) j (by simp; omega) (by omega) ?_ fun m hm hlt => ?_) ⟨ho, fun y hy => mem_eqAt (show RelV (.str z) (.str z tk) from ⟨tk, rfl⟩) rfl r (flat_strs zs) y (by simpa using hy), ?_⟩
  · obtain ⟨y, t, e1, e2⟩ := val j (by omega)
    rw [hj] at e1
    cases e1
    show eqU (.str z) its[j] = true
    rw [e2]
    show (z == z) = true
    simp
  · obtain ⟨y, t, e1, e2⟩ := val m (by simpa using hm)
    show eqU (.str z) (its[m]'(by simpa using hm)) = false
    rw [e2]
    show (y == z) = false
    refine beq_eq_false_iff_ne.mpr fun k => hno ?_
    rw [← k]
    exact List.mem_of_getElem? (i := m) (by rw [List.getElem?_take, if_pos hlt]; exact e1)
  · exact ⟨.int (j : Int), H, I.tok _, ⟨_, rfl⟩, q⟩
end
end L2
namespace L2
open PySem PySem.Spec PyProof.Rows
section
variable {M : Model} {A : Around} {E : Value → Shared → Prop} {s : Shared}
end
end L2
namespace L2
open PySem PySem.Spec PyProof.Rows
section
variable {P : Program} {w : World} {K : PySem.W.Frag} {mg : Str → Option Value} {base : Heap} {N : List Str} {qual : Str} {scope : Scope} {f : Addr} {cd : Value} {A : Around} {outer : List Env} {s : Shared} {H : Hp} {E : XK}
end
section
variable {X : Cx} {σ : St} {H : Hp} {D : Ends} {rest : List Stmt}
end
section
variable {P : Program} {w : World} {K : PySem.W.Frag} {mg : Str → Option Value} {base : Heap} {N : List Str} {qual : Str} {scope : Scope} {f : Addr} {cd : Value} {A : Around} {outer : List Env} {s : Shared} {H : Hp} {E : XK}
end
section
variable {X : Cx} {CX : CXT} {k : Nat} {f : Addr} {fd : FuncData} {ps : List Str} {sp : Sp} {E : XK} {x : Str} {p pos : Pos} {e : Expr} {es : List Expr} {σ : St} {H : Hp} {Q : VK}
end
end L2
namespace L2
open PySem PySem.Spec PyProof.Rows
section
variable {X : Cx} {pins : List (Addr × Obj)} {σ : St} {H : Hp} {s : Shared} {b : Addr}
end
section
variable {M : Model} {A : Around} {E : Value → Shared → Prop} {K : PySem.W.Frag} {s : Shared}
end
end L2
namespace L2
open PySem PySem.Spec PyProof.Rows
section
variable {X : Cx} {pins : List (Addr × Obj)} {σ : St} {H : Hp} {s : Shared}
end
end L2
namespace L2
open PySem PySem.Spec PyProof.Rows PySem.W
section
variable {prog : Program} {w : World} {A : Around} {E : Value → Shared → Prop} {s : Shared} {K : Frag} {a C : Addr} {o : Obj}
end
end L2
namespace L2
open PySem PySem.Spec PyProof.Rows
section
variable {prog : Program} {w : World} {A : Around} {E : Value → Shared → Prop} {s : Shared}
end
end L2
namespace L2
open PySem PySem.Spec PyProof.Rows Sort2
section
variable {X : Cx} {a b e : Expr} {es : List Expr} {σ : St} {H : Hp} {Q : VK} {pos p kp cp : Pos} {j : Nat}
end
end L2
namespace L2
open PySem PySem.Spec PyProof.Rows SetT
section
variable {X : Cx} {elt t1 i1 t2 i2 t3 i3 : Expr} {f1 f2 f3 : List Expr} {scope : Scope} {pos : Pos} {σ : St} {H : Hp} {acc : Value} {env : Env}
end
section
variable {X : Cx} {tg : Expr} {ifs : List Expr} {inner : Sem Unit} {σ : St} {H : Hp} {a : Addr} {xs : List V} {after : St → Hp → Prop}
theorem clause_tupP (Pv : Nat → St → Hp → Prop) (h0 : Pv 0 σ H) (hl : ∀ i σ' H', i ≤ xs.length → Pv i σ' H' → SqT X.K H' a xs)
    (hs : ∀ i x σ' H', xs[i]? = some x → Pv i σ' H' → Eg X tg x σ' H' fun σ2 H3 => Ei X ifs σ2 H3 fun b H4 => if b = true then Ein X inner σ2 H4 (Pv (i + 1)) else Pv (i + 1) σ2 H4)
    (hd : ∀ σ' H', Pv xs.length σ' H' → after σ' H') : ClauseL X tg ifs inner (Itt X.K a) after σ H := by
  refine ⟨fun i m σ' H' => m = xs.length - i ∧ i ≤ xs.length ∧ Pv i σ' H', ⟨_, rfl, Nat.zero_le _, h0⟩, ?_⟩
  rintro i m σ' H' ⟨rfl, hi, p⟩
  have q := hl i σ' H' hi p
  by_cases hlt : i < xs.length
  · refine .inr ⟨⟨xs, xs[i], q, by simp [hlt]⟩, Pv (i + 1), fun σ' H' p' => ⟨xs.length - (i + 1), by omega, rfl, hlt, p'⟩, fun x H2 y => ?_⟩
    obtain ⟨e, y⟩ := y
    subst e
    exact hs i x σ' _ (y xs q) p
  · have e : i = xs.length := by omega
    subst e
    exact .inl ⟨⟨xs, q, Nat.le_refl _⟩, hd σ' H' p⟩
theorem clause_enumP (Pv : Nat → St → Hp → Prop) (h0 : Pv 0 σ H) (hl : ∀ i σ' H', i ≤ xs.length → Pv i σ' H' → SqL X.K H' a xs)
    (hs : ∀ (i : Nat) x T σ' H', xs[i]? = some x → Pv i σ' H' → H' T = none → Eg X tg (.ref T) σ' (upd H' T (.tup [.int (i : Int), x])) fun σ2 H3 => Ei X ifs σ2 H3 fun b H4 => if b = true then Ein X inner σ2 H4 (Pv (i + 1)) else Pv (i + 1) σ2 H4)
    (hd : ∀ σ' H', Pv xs.length σ' H' → after σ' H') : ClauseL X tg ifs inner (Ite X.K a) after σ H := by
  refine ⟨fun i m σ' H' => m = xs.length - i ∧ i ≤ xs.length ∧ Pv i σ' H', ⟨_, rfl, Nat.zero_le _, h0⟩, ?_⟩
  rintro i m σ' H' ⟨rfl, hi, p⟩
  have q := hl i σ' H' hi p
  by_cases hlt : i < xs.length
  · refine .inr ⟨⟨xs, xs[i], q, by simp [hlt]⟩, Pv (i + 1), fun σ' H' p' => ⟨xs.length - (i + 1), by omega, rfl, hlt, p'⟩, fun v H2 y => ?_⟩
    obtain ⟨T, x, hT, rfl, rfl, hx⟩ := y
    exact hs i x T σ' _ (hx xs q) p hT
  · have e : i = xs.length := by omega
    subst e
    exact .inl ⟨⟨xs, q, Nat.le_refl _⟩, hd σ' H' p⟩
end
section
variable {X : Cx} {σ : St} {H : Hp} {Q : VK}
end
end L2
namespace Dt
variable {κ : Type}
noncomputable def X (r : κ → Int) : (List κ → Int) → List κ → Int
  | _, [] => 0
  | f, c :: cs => r c * f cs - X r (fun l => f (c :: l)) cs
noncomputable def one : List κ → Int
  | [] => 1
  | _ :: _ => 0
noncomputable def dt : List (κ → Int) → List κ → Int
  | [] => one
  | r :: rs => X r (dt rs)
theorem X_lin (r : κ → Int) (a b : Int) : ∀ (cs : List κ) (f g : List κ → Int), X r (fun l => a * f l + b * g l) cs = a * X r f cs + b * X r g cs
  | [], _, _ => by simp [X]
  | c :: cs, f, g => by
    show r c * (a * f cs + b * g cs) - X r (fun l => a * f (c :: l) + b * g (c :: l)) cs = _
    rw [X_lin r a b cs (fun l => f (c :: l)) fun l => g (c :: l)]
    show _ = a * (r c * f cs - _) + b * (r c * g cs - _)
    grind
theorem X_row (r s : κ → Int) (a b : Int) : ∀ (cs : List κ) (f : List κ → Int), X (fun x => a * r x + b * s x) f cs = a * X r f cs + b * X s f cs
  | [], _ => by simp [X]
  | c :: cs, f => by
    show (a * r c + b * s c) * f cs - X (fun x => a * r x + b * s x) (fun l => f (c :: l)) cs = _
    rw [X_row r s a b cs fun l => f (c :: l)]
    show _ = a * (r c * f cs - _) + b * (s c * f cs - _)
    grind
theorem X_sub (r : κ → Int) (f g : List κ → Int) (cs : List κ) : X r (fun l => f l - g l) cs = X r f cs - X r g cs := by
  have h := X_lin r 1 (-1) cs f g
  have e : (fun l => 1 * f l + -1 * g l) = fun l => f l - g l := by funext l; grind
  rw [e] at h
  rw [h]
  grind
theorem X_mul (r : κ → Int) (a : Int) (f : List κ → Int) (cs : List κ) : X r (fun l => a * f l) cs = a * X r f cs := by
  have h := X_lin r a 0 cs f f
  have e : (fun l => a * f l + 0 * f l) = fun l => a * f l := by funext l; grind
  rw [e] at h
  rw [h]
  grind
theorem X_anti (r s : κ → Int) : ∀ (cs : List κ) (f : List κ → Int), X r (X s f) cs = - X s (X r f) cs
  | [], _ => rfl
  | c :: cs, f => by
    have ih := X_anti r s cs fun l => f (c :: l)
    have h1 : X r (X s f) (c :: cs) = r c * X s f cs - (s c * X r f cs - X r (X s fun l => f (c :: l)) cs) := by
      show r c * X s f cs - X r (fun l => s c * f l - X s (fun l' => f (c :: l')) l) cs = _
      rw [X_sub, X_mul]
    have h2 : X s (X r f) (c :: cs) = s c * X r f cs - (r c * X s f cs - X s (X r fun l => f (c :: l)) cs) := by
      show s c * X r f cs - X s (fun l => r c * f l - X r (fun l' => f (c :: l')) l) cs = _
      rw [X_sub, X_mul]
    rw [h1, h2]
    grind
theorem X_same (r : κ → Int) (cs : List κ) (f : List κ → Int) : X r (X r f) cs = 0 := by
  have := X_anti r r cs f
  omega
theorem X_nought {r : κ → Int} : ∀ {cs : List κ}, (∀ c ∈ cs, r c = 0) → ∀ f, X r f cs = 0
  | [], _, _ => rfl
  | c :: cs, h, f => by
    show r c * f cs - X r (fun l => f (c :: l)) cs = 0
    rw [h c (List.mem_cons_self ..), X_nought (fun d hd => h d (List.mem_cons_of_mem _ hd))]
    simp
section
variable (l : κ → κ → Int)
noncomputable def mm (K : List κ) : Int := dt (K.map l) K
noncomputable def MM (K : List κ) (i j : κ) : Int := X (l i) (dt (K.map l)) (j :: K)
structure Red (K : List κ) (i : κ) (c : Int) (R : κ → Int) : Prop where
  eq : ∀ cs, X R (dt (K.map l)) cs = c * X (l i) (dt (K.map l)) cs
  no : ∀ k ∈ K, R k = 0
  nz : c ≠ 0
variable {l}
theorem Red.val {K : List κ} {i : κ} {c : Int} {R : κ → Int} (h : Red l K i c R) (j : κ) : c * MM l K i j = mm l K * R j := by
  have e := h.eq (j :: K)
  have e2 : X R (dt (K.map l)) (j :: K) = R j * mm l K := by
    show R j * dt (K.map l) K - X R _ K = _
    rw [X_nought h.no]
    show _ = R j * dt (K.map l) K
    omega
  rw [e2] at e
  show c * X (l i) (dt (K.map l)) (j :: K) = _
  rw [← e, Int.mul_comm]
theorem Red.step {K : List κ} {i k : κ} {c d : Int} {R S : κ → Int} (h : Red l K i c R) (g : Red l K k d S) (hk : S k ≠ 0) : Red l (k :: K) i (S k * c) (fun x => S k * R x + (- R k) * S x) := by
  refine ⟨fun cs => ?_, fun x hx => ?_, ?_⟩
  · show X _ (X (l k) (dt (K.map l))) cs = S k * c * X (l i) (X (l k) (dt (K.map l))) cs
    rw [X_row]
    have e1 : X R (X (l k) (dt (K.map l))) cs = c * X (l i) (X (l k) (dt (K.map l))) cs := by
      rw [X_anti, show X R (dt (K.map l)) = fun cs => c * X (l i) (dt (K.map l)) cs from funext h.eq, X_mul, X_anti (l i) (l k)]
      grind
    have e2 : X S (X (l k) (dt (K.map l))) cs = 0 := by
      rw [X_anti, show X S (dt (K.map l)) = fun cs => d * X (l k) (dt (K.map l)) cs from funext g.eq, X_mul, X_same]
      grind
    rw [e1, e2]
    grind
  · rcases List.mem_cons.mp hx with e | hx
    · rw [e]
      grind
    · show S k * R x + (- R k) * S x = 0
      rw [h.no x hx, g.no x hx]
      simp
  · exact Int.mul_ne_zero hk h.nz
noncomputable def Good (l : κ → κ → Int) : List κ → Prop
  | [] => True
  | k :: K => mm l (k :: K) ≠ 0 ∧ Good l K
theorem Good.ne {K : List κ} (h : Good l K) : mm l K ≠ 0 := by
  cases K with
  | nil => exact fun h => (nomatch h)
  | cons k K => exact h.1
theorem red_of : ∀ {K : List κ}, Good l K → ∀ i, ∃ c R, Red l K i c R
  | [], _, i => ⟨1, l i, fun cs => (by grind), fun k hk => (nomatch hk), by decide⟩
  | k :: K, h, i => by
    obtain ⟨c, R, hi⟩ := red_of h.2 i
    obtain ⟨d, S, hk⟩ := red_of h.2 k
    refine ⟨_, _, hi.step hk fun z => ?_⟩
    have e := hk.val k
    rw [z] at e
    have : d * MM l K k k = 0 := by omega
    rcases Int.mul_eq_zero.mp this with q | q
    · exact hk.nz q
    · exact h.1 q
theorem sylv {K : List κ} {k : κ} (h : Good l (k :: K)) (i j : κ) : MM l K i j * MM l K k k - MM l K i k * MM l K k j = mm l K * MM l (k :: K) i j := by
  obtain ⟨c, R, hi⟩ := red_of h.2 i
  obtain ⟨d, S, hk⟩ := red_of h.2 k
  have hS : S k ≠ 0 := fun z => by
    have e := hk.val k
    rw [z] at e
    have : d * MM l K k k = 0 := by omega
    rcases Int.mul_eq_zero.mp this with q | q
    · exact hk.nz q
    · exact h.1 q
  have e1 := hi.val j
  have e2 := hi.val k
  have e3 := hk.val k
  have e4 := hk.val j
  have e5 := (hi.step hk hS).val j
  have e6 : mm l (k :: K) = MM l K k k := rfl
  rw [e6] at e5
  have hm : MM l K k k ≠ 0 := h.1
  have hm0 := h.2.ne
  refine Int.eq_of_mul_eq_mul_left (a := c * d * MM l K k k) (Int.mul_ne_zero (Int.mul_ne_zero hi.nz hk.nz) hm) ?_
  generalize MM l (k :: K) i j = z at *
  generalize MM l K i j = a at *
  generalize MM l K k k = b at *
  generalize MM l K i k = p at *
  generalize MM l K k j = q at *
  generalize mm l K = m at *
  generalize R j = r1 at *
  generalize R k = r2 at *
  generalize S k = s1 at *
  generalize S j = s2 at *
  have f1 : c * d * (a * b - p * q) = m * m * (s1 * r1 + -r2 * s2) := by grind
  have f2 : c * d * b * (m * z) = m * m * (s1 * c * z) := by grind
  rw [f2, e5]
  have f3 : c * d * b * (a * b - p * q) = b * (c * d * (a * b - p * q)) := by grind
  rw [f3, f1]
  grind
theorem MM_symm (hl : ∀ i j, l i j = l j i) : ∀ {K : List κ}, Good l K → ∀ i j, MM l K i j = MM l K j i
  | [], _, i, j => by
    show l i j * 1 - 0 = l j i * 1 - 0
    rw [hl i j]
  | k :: K, h, i, j => by
    have e1 := sylv h i j
    have e2 := sylv h j i
    have s1 := MM_symm hl h.2 i j
    have s2 := MM_symm hl h.2 i k
    have s3 := MM_symm hl h.2 j k
    refine Int.eq_of_mul_eq_mul_left h.2.ne ?_
    rw [← e1, ← e2, s1, s2, s3]
    grind
end
noncomputable def Alt (f : List κ → Int) : Prop := ∀ p c d q, f (p ++ c :: d :: q) = - f (p ++ d :: c :: q)
theorem alt_one : Alt (one : List κ → Int) := fun p c d q => by
  cases p <;> rfl
theorem Alt.cons {f : List κ → Int} (h : Alt f) (c : κ) : Alt fun l => f (c :: l) := fun p a b q => h (c :: p) a b q
theorem X_alt (r : κ → Int) : ∀ (p : List κ) {f : List κ → Int}, Alt f → ∀ c d q, X r f (p ++ c :: d :: q) = - X r f (p ++ d :: c :: q)
  | [], f, h, c, d, q => by
    have e : (fun l => f (c :: d :: l)) = fun l => (-1) * f (d :: c :: l) := by
      funext l
      have := h [] c d l
      show f (c :: d :: l) = -1 * f (d :: c :: l)
      have this : f (c :: d :: l) = - f (d :: c :: l) := this
      omega
    show r c * f (d :: q) - (r d * f (c :: q) - X r (fun l => f (c :: d :: l)) q) = -(r d * f (c :: q) - (r c * f (d :: q) - X r (fun l => f (d :: c :: l)) q))
    rw [e, X_mul]
    omega
  | a :: p, f, h, c, d, q => by
    have ih := X_alt r p (h.cons a) c d q
    have e := h p c d q
    show r a * f (p ++ c :: d :: q) - X r (fun l => f (a :: l)) (p ++ c :: d :: q) = -(r a * f (p ++ d :: c :: q) - X r (fun l => f (a :: l)) (p ++ d :: c :: q))
    rw [ih, e]
    grind
theorem dt_alt : ∀ rs : List (κ → Int), Alt (dt rs)
  | [] => alt_one
  | r :: rs => fun p c d q => X_alt r p (dt_alt rs) c d q
theorem perm_sign {C C' : List κ} (h : C.Perm C') : ∃ s : Int, s * s = 1 ∧ (∀ (l : κ → κ → Int) cs, dt (C'.map l) cs = s * dt (C.map l) cs) ∧ ∀ f : List κ → Int, Alt f → f C' = s * f C := by
  induction h with
  | nil => exact ⟨1, rfl, fun l cs => (by grind), fun f _ => (by grind)⟩
  | cons c _ ih =>
    obtain ⟨s, hs, h1, h2⟩ := ih
    refine ⟨s, hs, fun l cs => ?_, fun f hf => h2 _ (hf.cons c)⟩
    show X (l c) (dt (List.map l _)) cs = s * X (l c) (dt (List.map l _)) cs
    rw [← X_mul, show dt (List.map l _) = fun cs => s * dt (List.map l _) cs from funext (h1 l)]
  | swap a b q =>
    refine ⟨-1, rfl, fun l cs => ?_, fun f hf => ?_⟩
    · show X (l a) (X (l b) _) cs = -1 * X (l b) (X (l a) _) cs
      rw [X_anti]
      omega
    · have := hf [] a b q
      show f (a :: b :: q) = -1 * f (b :: a :: q)
      have this : f (a :: b :: q) = - f (b :: a :: q) := this
      omega
  | trans _ _ ih1 ih2 =>
    obtain ⟨s, hs, h1, h2⟩ := ih1
    obtain ⟨t, ht, g1, g2⟩ := ih2
    refine ⟨t * s, by grind, fun l cs => ?_, fun f hf => ?_⟩
    · rw [g1, h1]
      grind
    · rw [g2 f hf, h2 f hf]
      grind
theorem mm_perm (l : κ → κ → Int) {C C' : List κ} (h : C.Perm C') : mm l C' = mm l C := by
  obtain ⟨s, hs, h1, h2⟩ := perm_sign h
  show dt (C'.map l) C' = dt (C.map l) C
  rw [h1, h2 _ (dt_alt _)]
  have : s * (s * dt (C.map l) C) = s * s * dt (C.map l) C := by grind
  rw [this, hs]
  grind
end Dt
namespace Dt
variable {κ : Type}
theorem X_congr {r r' : κ → Int} {S : κ → Prop} (hr : ∀ c, S c → r c = r' c) : ∀ (cs : List κ) {f f' : List κ → Int}, (∀ l, (∀ c ∈ l, S c) → f l = f' l) → (∀ c ∈ cs, S c) → X r f cs = X r' f' cs
  | [], _, _, _, _ => rfl
  | c :: cs, f, f', hf, hs => by
    have h1 := hs c (List.mem_cons_self ..)
    have h2 : ∀ d ∈ cs, S d := fun d hd => hs d (List.mem_cons_of_mem _ hd)
    show r c * f cs - X r (fun l => f (c :: l)) cs = r' c * f' cs - X r' (fun l => f' (c :: l)) cs
    rw [hr c h1, hf cs h2, X_congr hr cs (f := fun l => f (c :: l)) (f' := fun l => f' (c :: l)) (fun l hl => hf _ fun d hd => ?_) h2]
    rcases List.mem_cons.mp hd with e | hd
    · rw [e]; exact h1
    · exact hl d hd
theorem dt_congr {S : κ → Prop} {l l' : κ → κ → Int} : ∀ (C : List κ), (∀ x ∈ C, ∀ j, S j → l x j = l' x j) → ∀ cs, (∀ c ∈ cs, S c) → dt (C.map l) cs = dt (C.map l') cs
  | [], _, _, _ => rfl
  | x :: C, h, cs, hs => X_congr (h x (List.mem_cons_self ..)) cs (fun k hk => dt_congr C (fun y hy => h y (List.mem_cons_of_mem _ hy)) k hk) hs
theorem mm_congr {l l' : κ → κ → Int} {C : List κ} (h : ∀ x ∈ C, ∀ j ∈ C, l x j = l' x j) : mm l C = mm l' C := dt_congr (S := fun j => j ∈ C) C h C fun _ hc => hc
noncomputable def Lp (W : List (κ → Int)) (x j : κ) : Int := (W.map fun w => w x * w j).sum
theorem Lp_cons (w : κ → Int) (W : List (κ → Int)) (x j : κ) : Lp (w :: W) x j = w x * w j + Lp W x j := rfl
theorem Lp_symm (W : List (κ → Int)) (x j : κ) : Lp W x j = Lp W j x := by
  unfold Lp
  congr 1
  exact List.map_congr_left fun w _ => Int.mul_comm ..
noncomputable def D (C : List κ) (W : List (κ → Int)) : Int := mm (Lp W) C
theorem D_none (a : κ) (C : List κ) : D (a :: C) [] = 0 := X_nought (fun _ _ => rfl) _
theorem D_idle {C : List κ} {w : κ → Int} {W : List (κ → Int)} (h : ∀ x ∈ C, w x = 0) : D C (w :: W) = D C W := mm_congr fun x hx j _ => by
  rw [Lp_cons, h x hx]
  omega
theorem row_same {C : List κ} {w : κ → Int} {W : List (κ → Int)} (h : ∀ x ∈ C, w x = 0) : C.map (Lp (w :: W)) = C.map (Lp W) := List.map_congr_left fun x hx => by
  funext j
  rw [Lp_cons, h x hx]
  omega
theorem D_out {a : κ} {C : List κ} {w : κ → Int} {W : List (κ → Int)} (h : ∀ x ∈ C, w x = 0) (ha : w a * w a = 1) : D (a :: C) (w :: W) = D (a :: C) W + D C W := by
  show X (Lp (w :: W) a) (dt (C.map (Lp (w :: W)))) (a :: C) = X (Lp W a) (dt (C.map (Lp W))) (a :: C) + dt (C.map (Lp W)) C
  rw [row_same h, show Lp (w :: W) a = fun j => w a * w j + 1 * Lp W a j by funext j; rw [Lp_cons]; omega, X_row]
  have e : X w (dt (C.map (Lp W))) (a :: C) = w a * dt (C.map (Lp W)) C := by
    show w a * dt (C.map (Lp W)) C - X w _ C = _
    rw [X_nought h]
    omega
  rw [e]
  grind
noncomputable def cm [DecidableEq κ] (a b : κ) (r : κ → Int) (j : κ) : Int := if j = a then r a + r b else r j
section
variable [DecidableEq κ] {a b : κ}
structure Cm (a b : κ) (f f' : List κ → Int) : Prop where
  no : ∀ l, a ∉ l → f' l = f l
  on : ∀ p q, a ∉ p → a ∉ q → f' (p ++ a :: q) = f (p ++ a :: q) + f (p ++ b :: q)
theorem Cm.cons {f f' : List κ → Int} (h : Cm a b f f') {c : κ} (hc : c ≠ a) : Cm a b (fun l => f (c :: l)) fun l => f' (c :: l) :=
  ⟨fun l hl => h.no _ fun hm => by
    rcases List.mem_cons.mp hm with e | hm
    · exact hc e.symm
    · exact hl hm, fun p q hp hq => h.on (c :: p) q (fun hm => by
    rcases List.mem_cons.mp hm with e | hm
    · exact hc e.symm
    · exact hp hm) hq⟩
theorem cm_no (r : κ → Int) {f f' : List κ → Int} (h : ∀ l, a ∉ l → f' l = f l) (l : List κ) (hl : a ∉ l) : X (cm a b r) f' l = X r f l :=
  X_congr (S := fun c => c ≠ a) (fun c hc => if_neg hc) l (fun k hk => h k fun hm => hk a hm rfl) fun c hc e => hl (e ▸ hc)
theorem cm_on (r : κ → Int) : ∀ (p : List κ) {f f' : List κ → Int}, Cm a b f f' → ∀ q, a ∉ p → a ∉ q → X (cm a b r) f' (p ++ a :: q) = X r f (p ++ a :: q) + X r f (p ++ b :: q)
  | [], f, f', h, q, _, hq => by
    show cm a b r a * f' q - X (cm a b r) (fun l => f' (a :: l)) q = (r a * f q - X r (fun l => f (a :: l)) q) + (r b * f q - X r (fun l => f (b :: l)) q)
    rw [cm_no r (f := fun l => 1 * f (a :: l) + 1 * f (b :: l)) (fun l hl => by have := h.on [] l List.not_mem_nil hl; show f' (a :: l) = _; have this : f' (a :: l) = f (a :: l) + f (b :: l) := this; rw [this]; omega) q hq, X_lin, h.no q hq, show cm a b r a = r a + r b from if_pos rfl]
    grind
  | c :: p, f, f', h, q, hp, hq => by
    have hc : c ≠ a := fun e => hp (e ▸ List.mem_cons_self ..)
    have hp' : a ∉ p := fun hm => hp (List.mem_cons_of_mem _ hm)
    show cm a b r c * f' (p ++ a :: q) - X (cm a b r) (fun l => f' (c :: l)) (p ++ a :: q) = (r c * f (p ++ a :: q) - X r (fun l => f (c :: l)) (p ++ a :: q)) + (r c * f (p ++ b :: q) - X r (fun l => f (c :: l)) (p ++ b :: q))
    rw [cm_on r p (h.cons hc) q hp' hq, h.on p q hp' hq, show cm a b r c = r c from if_neg hc]
    grind
theorem cm_dt : ∀ rs : List (κ → Int), Cm a b (dt rs) (dt (rs.map (cm a b)))
  | [] => ⟨fun _ _ => rfl, fun p q _ _ => by cases p <;> rfl⟩
  | r :: rs => ⟨fun l hl => cm_no r (cm_dt rs).no l hl, fun p q hp hq => cm_on r p (cm_dt rs) q hp hq⟩
theorem D_merge {C : List κ} {w : κ → Int} {W : List (κ → Int)} (hC : ∀ x ∈ C, w x = 0) (ha : w a = 1) (hb : w b = -1) (nab : a ≠ b) (na : a ∉ C) : D (a :: b :: C) (w :: W) = D (a :: b :: C) W + D (a :: C) (W.map (cm a b)) := by
  have L' : ∀ x j, Lp (W.map (cm a b)) x j = cm a b (fun j => cm a b (fun x => Lp W x j) x) j := fun x j => by
    unfold Lp cm
    rw [List.map_map]
    induction W with
    | nil => by_cases h1 : j = a <;> by_cases h2 : x = a <;> simp [h1, h2]
    | cons v W ih =>
      simp only [List.map_cons, List.sum_cons, Function.comp] at ih ⊢
      rw [ih]
      by_cases h1 : j = a <;> by_cases h2 : x = a <;> simp only [h1, h2, if_true, if_false] <;> grind
  have e1 : D (a :: C) (W.map (cm a b)) = dt (((fun j => 1 * Lp W a j + 1 * Lp W b j) :: C.map (Lp W)).map (cm a b)) (a :: C) := by
    show X (Lp (W.map (cm a b)) a) (dt (C.map (Lp (W.map (cm a b))))) (a :: C) = X (cm a b fun j => 1 * Lp W a j + 1 * Lp W b j) (dt ((C.map (Lp W)).map (cm a b))) (a :: C)
    rw [List.map_map, show C.map (Lp (W.map (cm a b))) = C.map (cm a b ∘ Lp W) from List.map_congr_left fun x hx => by
      funext j
      rw [L']
      have nx : x ≠ a := fun e => na (e ▸ hx)
      simp only [cm, Function.comp, nx, if_false], show Lp (W.map (cm a b)) a = cm a b fun j => 1 * Lp W a j + 1 * Lp W b j by
      funext j
      rw [L']
      simp only [cm, if_true]
      by_cases h : j = a <;> simp only [h, if_true, if_false] <;> omega]
  have e2 := (cm_dt (a := a) (b := b) ((fun j => 1 * Lp W a j + 1 * Lp W b j) :: C.map (Lp W))).on [] C List.not_mem_nil na
  rw [e1]
  have e2 : dt (((fun j => 1 * Lp W a j + 1 * Lp W b j) :: C.map (Lp W)).map (cm a b)) (a :: C) = X (fun j => 1 * Lp W a j + 1 * Lp W b j) (dt (C.map (Lp W))) (a :: C) + X (fun j => 1 * Lp W a j + 1 * Lp W b j) (dt (C.map (Lp W))) (b :: C) := e2
  rw [e2]
  show X (Lp (w :: W) a) (X (Lp (w :: W) b) (dt (C.map (Lp (w :: W))))) (a :: b :: C) = X (Lp W a) (X (Lp W b) (dt (C.map (Lp W)))) (a :: b :: C) + _
  rw [row_same hC, show Lp (w :: W) a = fun j => 1 * w j + 1 * Lp W a j by funext j; rw [Lp_cons, ha]; omega, show Lp (w :: W) b = fun j => (-1) * w j + 1 * Lp W b j by funext j; rw [Lp_cons, hb]; omega]
  generalize dt (C.map (Lp W)) = ω
  rw [show X (fun j => (-1) * w j + 1 * Lp W b j) ω = fun l => (-1) * X w ω l + 1 * X (Lp W b) ω l from funext fun l => X_row .., X_lin, X_row, X_row, X_same, X_anti (Lp W a) w]
  have e3 : ∀ θ : List κ → Int, X w θ (a :: b :: C) = θ (b :: C) + θ (a :: C) := fun θ => by
    show w a * θ (b :: C) - (w b * θ (a :: C) - X w _ C) = _
    rw [X_nought hC, ha, hb]
    omega
  rw [e3, e3, X_row, X_row]
  omega
end
noncomputable def ed [DecidableEq κ] (e : κ × κ) (x : κ) : Int := (if x = e.1 then 1 else 0) - (if x = e.2 then 1 else 0)
section
variable [DecidableEq κ]
noncomputable def De (C : List κ) (E : List (κ × κ)) : Int := D C (E.map ed)
noncomputable def rl (b a : κ) (e : κ × κ) : κ × κ := (if e.1 = b then a else e.1, if e.2 = b then a else e.2)
theorem sum_perm {l l' : List Int} (h : l.Perm l') : l.sum = l'.sum := by
  induction h with
  | nil => rfl
  | cons a _ ih => simp only [List.sum_cons, ih]
  | swap a b l => simp only [List.sum_cons]; omega
  | trans _ _ h1 h2 => rw [h1, h2]
theorem Lp_perm {W W' : List (κ → Int)} (h : W.Perm W') (x j : κ) : Lp W x j = Lp W' x j := sum_perm (h.map _)
theorem De_perm {C C' : List κ} {E E' : List (κ × κ)} (h : C.Perm C') (g : E.Perm E') : De C E = De C' E' := by
  show mm _ C = mm _ C'
  rw [mm_perm _ h]
  exact mm_congr fun x _ j _ => Lp_perm (g.map ed) x j
theorem De_nil (E : List (κ × κ)) : De ([] : List κ) E = 1 := rfl
theorem De_none (a : κ) (C : List κ) : De (a :: C) [] = 0 := D_none a C
theorem ed_at {e : κ × κ} {x : κ} (h1 : x ≠ e.1) (h2 : x ≠ e.2) : ed e x = 0 := by
  unfold ed
  rw [if_neg h1, if_neg h2]
  rfl
theorem ed_no {a b x : κ} {C : List κ} (ha : a ∉ C) (hb : b ∉ C) (hx : x ∈ C) : ed (a, b) x = 0 := ed_at (e := (a, b)) (fun z : x = a => ha (z ▸ hx)) fun z : x = b => hb (z ▸ hx)
theorem De_idle {C : List κ} {e : κ × κ} {E : List (κ × κ)} (h : e.1 = e.2 ∨ (e.1 ∉ C ∧ e.2 ∉ C)) : De C (e :: E) = De C E := D_idle fun x hx => by
  rcases h with h | ⟨h1, h2⟩
  · unfold ed
    rw [h]
    omega
  · exact ed_at (fun z => h1 (z ▸ hx)) fun z => h2 (z ▸ hx)
theorem De_out {a b : κ} {C : List κ} {E : List (κ × κ)} (ha : a ∉ C) (hb : b ∉ C) (hab : a ≠ b) : De (a :: C) ((a, b) :: E) = De (a :: C) E + De C E ∧ De (a :: C) ((b, a) :: E) = De (a :: C) E + De C E := by
  refine ⟨D_out (fun x hx => ed_no ha hb hx) ?_, D_out (fun x hx => ed_no hb ha hx) ?_⟩
  · unfold ed
    rw [if_pos rfl, if_neg hab]
    rfl
  · unfold ed
    rw [if_neg hab, if_pos rfl]
    rfl
theorem ed_rl {a b : κ} (hab : a ≠ b) (e : κ × κ) {x : κ} (hx : x ≠ b) : cm a b (ed e) x = ed (rl b a e) x := by
  obtain ⟨p, q⟩ := e
  unfold cm ed rl
  by_cases h0 : x = a
  · subst h0
    simp only [if_true]
    by_cases h1 : p = b <;> by_cases h2 : q = b <;> simp only [h1, h2, hab, Ne.symm hab, if_true, if_false] <;> first | omega | skip
    · by_cases h3 : x = q
      · simp [h3, h2, Ne.symm h2]
      · simp [h3, h2, Ne.symm h2]
    · by_cases h3 : x = p
      · simp [h3, h1, Ne.symm h1]
      · simp [h3, h1, Ne.symm h1]
    · simp [Ne.symm h1, Ne.symm h2]
  · simp only [h0, if_false]
    by_cases h1 : p = b <;> by_cases h2 : q = b <;> simp [h0, h1, h2, hx]
theorem De_merge {a b : κ} {C : List κ} {E : List (κ × κ)} (ha : a ∉ C) (hb : b ∉ C) (hab : a ≠ b) : De (a :: b :: C) ((a, b) :: E) = De (a :: b :: C) E + De (a :: C) (E.map (rl b a)) := by
  have h := D_merge (W := E.map ed) (C := C) (w := ed (a, b)) (a := a) (b := b) (fun x hx => ed_no ha hb hx) (by unfold ed; rw [if_pos rfl, if_neg hab]; rfl) (by unfold ed; rw [if_neg (Ne.symm hab), if_pos rfl]; rfl) hab ha
  have e : D (a :: C) ((E.map ed).map (cm a b)) = De (a :: C) (E.map (rl b a)) := mm_congr fun x hx j hj => by
    have nb : ∀ y ∈ a :: C, y ≠ b := fun y hy z => by
      rcases List.mem_cons.mp hy with k | k
      · exact hab (k.symm.trans z)
      · exact hb (z ▸ k)
    unfold Lp
    rw [List.map_map, List.map_map, List.map_map, List.map_map]
    congr 1
    refine List.map_congr_left fun e _ => ?_
    show cm a b (ed e) x * cm a b (ed e) j = ed (rl b a e) x * ed (rl b a e) j
    rw [ed_rl hab e (nb x hx), ed_rl hab e (nb j hj)]
  rw [e] at h
  exact h
end
end Dt
namespace Dt
variable {κ : Type} [DecidableEq κ]
noncomputable def mg (C : List κ) (p q : κ) (E : List (κ × κ)) : Int := if p = q ∨ (p ∉ C ∧ q ∉ C) then 0 else if q ∉ C then De (C.erase p) E else if p ∉ C then De (C.erase q) E else De (C.erase q) (E.map (rl q p))
theorem De_step {C : List κ} (hC : C.Nodup) (p q : κ) (E : List (κ × κ)) : De C ((p, q) :: E) = De C E + mg C p q E := by
  unfold mg
  by_cases h : p = q ∨ (p ∉ C ∧ q ∉ C)
  · rw [if_pos h, De_idle (e := (p, q)) h]
    omega
  rw [if_neg h]
  have hpq : p ≠ q := fun z => h (.inl z)
  by_cases hq : q ∉ C
  · rw [if_pos hq]
    have hp : p ∈ C := Classical.byContradiction fun z => h (.inr ⟨z, hq⟩)
    have pe := List.perm_cons_erase hp
    rw [De_perm pe (List.Perm.refl _), De_perm (E := E) pe (List.Perm.refl _)]
    exact (De_out (fun z => ((hC.mem_erase_iff).mp z).1 rfl) (fun z => hq (List.mem_of_mem_erase z)) hpq).1
  rw [if_neg hq]
  have hq : q ∈ C := Classical.byContradiction hq
  have pe := List.perm_cons_erase hq
  by_cases hp : p ∉ C
  · rw [if_pos hp, De_perm pe (List.Perm.refl _), De_perm (E := E) pe (List.Perm.refl _)]
    exact (De_out (fun z => ((hC.mem_erase_iff).mp z).1 rfl) (fun z => hp (List.mem_of_mem_erase z)) (Ne.symm hpq)).2
  rw [if_neg hp]
  have hp : p ∈ C := Classical.byContradiction hp
  have hp' : p ∈ C.erase q := (hC.mem_erase_iff).mpr ⟨hpq, hp⟩
  have pe2 := List.perm_cons_erase hp'
  have pe3 : C.Perm (p :: q :: (C.erase q).erase p) := pe.trans ((pe2.cons q).trans (List.Perm.swap ..))
  have nq : q ∉ (C.erase q).erase p := fun z => ((hC.mem_erase_iff).mp (List.mem_of_mem_erase z)).1 rfl
  have np : p ∉ (C.erase q).erase p := fun z => (((hC.erase q).mem_erase_iff).mp z).1 rfl
  rw [De_perm pe3 (List.Perm.refl _), De_perm (E := E) pe3 (List.Perm.refl _), De_perm (E := E.map (rl q p)) pe2 (List.Perm.refl _)]
  exact De_merge np nq hpq
theorem De_bound : ∀ (E : List (κ × κ)) (C : List κ), C.Nodup → 0 ≤ De C E ∧ De C E ≤ 2 ^ E.length
  | [], [], _ => by rw [De_nil]; exact ⟨by decide, by show (1 : Int) ≤ 1; decide⟩
  | [], a :: C, _ => by rw [De_none]; exact ⟨by decide, by show (0 : Int) ≤ 1; decide⟩
  | (p, q) :: E, C, hC => by
    have h1 := De_bound E C hC
    have h2 : 0 ≤ mg C p q E ∧ mg C p q E ≤ 2 ^ E.length := by
      unfold mg
      split
      · exact ⟨Int.le_refl _, Int.le_trans h1.1 h1.2⟩
      split
      · exact De_bound E _ (hC.erase p)
      split
      · exact De_bound E _ (hC.erase q)
      · have := De_bound (E.map (rl q p)) _ (hC.erase q)
        rw [List.length_map] at this
        exact this
    rw [De_step hC, List.length_cons, Int.pow_succ]
    omega
termination_by E => E.length
decreasing_by all_goals simp [List.length_map]
inductive Esc (C : List κ) (E : List (κ × κ)) : κ → Prop
  | out {x : κ} : x ∉ C → Esc C E x
  | on {x y : κ} : (x, y) ∈ E ∨ (y, x) ∈ E → Esc C E y → Esc C E x
theorem Esc.cross {C : List κ} {E : List (κ × κ)} {x : κ} (h : Esc C E x) : x ∈ C → ∃ p q, ((p, q) ∈ E ∨ (q, p) ∈ E) ∧ p ∈ C ∧ q ∉ C := by
  induction h with
  | out h => exact fun z => absurd z h
  | @on x y e _ ih =>
    intro hx
    by_cases hy : y ∈ C
    · exact ih hy
    · exact ⟨x, y, e, hx, hy⟩
theorem De_pos : ∀ (n : Nat) (C : List κ), C.length = n → C.Nodup → ∀ E : List (κ × κ), (∀ x ∈ C, Esc C E x) → 0 < De C E
  | 0, C, hn, _, E, _ => by
    rw [List.length_eq_zero_iff.mp hn, De_nil]
    decide
  | n + 1, C, hn, hC, E, h => by
    have hne : C ≠ [] := fun z => by rw [z] at hn; cases hn
    obtain ⟨x, hx⟩ := List.exists_mem_of_ne_nil C hne
    obtain ⟨p, q, he, hp, hq⟩ := (h x hx).cross hx
    have hpq : p ≠ q := fun z => hq (z ▸ hp)
    have rest : ∀ (e : κ × κ), e ∈ E → (e = (p, q) ∨ e = (q, p)) → 0 < De (C.erase p) (E.erase e) := fun e hem hee => by
      refine De_pos n (C.erase p) (by rw [List.length_erase_of_mem hp, hn]; rfl) (hC.erase p) _ fun y hy => ?_
      have hy' := (hC.mem_erase_iff).mp hy
      have go : ∀ {z : κ}, Esc C E z → Esc (C.erase p) (E.erase e) z := by
        intro z hz
        induction hz with
        | out h => exact .out fun k => h (List.mem_of_mem_erase k)
        | @on u v k _ ih =>
          by_cases hu : u ∈ C.erase p
          · have hu' := (hC.mem_erase_iff).mp hu
            have nuq : u ≠ q := fun z => hq (z ▸ hu'.2)
            refine .on ?_ ih
            rcases k with k | k
            · refine .inl ((List.mem_erase_of_ne fun z => ?_).mpr k)
              rcases hee with r | r <;> rw [r] at z <;> cases z
              · exact hu'.1 rfl
              · exact nuq rfl
            · refine .inr ((List.mem_erase_of_ne fun z => ?_).mpr k)
              rcases hee with r | r <;> rw [r] at z <;> cases z
              · exact nuq rfl
              · exact hu'.1 rfl
          · exact .out hu
      exact go (h y hy'.2)
    have fin : ∀ e, e ∈ E → (e = (p, q) ∨ e = (q, p)) → 0 < De C E := fun e hem hee => by
      have r := rest e hem hee
      rw [De_perm (List.Perm.refl C) (List.perm_cons_erase hem)]
      have b := (De_bound (E.erase e) C hC).1
      rcases hee with rfl | rfl
      · rw [De_step hC]
        have : mg C p q (E.erase (p, q)) = De (C.erase p) (E.erase (p, q)) := by
          unfold mg
          rw [if_neg (fun z => by rcases z with z | z; exact hpq z; exact z.1 hp), if_pos hq]
        omega
      · rw [De_step hC]
        have : mg C q p (E.erase (q, p)) = De (C.erase p) (E.erase (q, p)) := by
          unfold mg
          rw [if_neg (fun z => by rcases z with z | z; exact hpq z.symm; exact z.2 hp), if_neg (fun z => z hp), if_pos hq]
        omega
    rcases he with he | he
    · exact fin _ he (.inl rfl)
    · exact fin _ he (.inr rfl)
theorem De_rl {a b : κ} {C : List κ} (ha : a ∉ C) (hb : b ∉ C) (E : List (κ × κ)) : De C (E.map (rl b a)) = De C E := mm_congr fun x hx j hj => by
  have q : ∀ y ∈ C, ∀ e : κ × κ, ed (rl b a e) y = ed e y := fun y hy e => by
    obtain ⟨s, t⟩ := e
    have na : y ≠ a := fun z => ha (z ▸ hy)
    have nb : y ≠ b := fun z => hb (z ▸ hy)
    unfold ed rl
    by_cases h1 : s = b <;> by_cases h2 : t = b <;> simp [h1, h2, na, nb]
  unfold Lp
  rw [List.map_map, List.map_map, List.map_map]
  congr 1
  refine List.map_congr_left fun e _ => ?_
  show ed (rl b a e) x * ed (rl b a e) j = ed e x * ed e j
  rw [q x hx, q j hj]
end Dt
namespace Dt
section
variable {κ : Type}
structure Fine (l : κ → κ → Int) (C : List κ) : Prop where
  good : ∀ p q, C = p ++ q → Good l p.reverse
  pos : ∀ p q, C = p ++ q → 0 < mm l p.reverse ∧ mm l p.reverse < 1073741824
  all : ∀ p q, C = p ++ q → ∀ i ∈ q, ∀ j ∈ q, -(2 ^ 64) < MM l p.reverse i j ∧ MM l p.reverse i j < 2 ^ 64
theorem good_of {l : κ → κ → Int} : ∀ {K : List κ}, (∀ a b, K = a ++ b → mm l b ≠ 0) → Good l K
  | [], _ => trivial
  | k :: K, h => ⟨h [] _ rfl, good_of fun a b e => h (k :: a) b (by rw [e]; rfl)⟩
end
variable {κ : Type} [DecidableEq κ]
theorem Esc.less {C p : List κ} {E : List (κ × κ)} (hp : ∀ x ∈ p, x ∈ C) {x : κ} (h : Esc C E x) : Esc p E x := by
  induction h with
  | out h => exact .out fun z => h (hp _ z)
  | on k _ ih => exact .on k ih
theorem pow_lt (n : Nat) (h : n ≤ 29) : (2 : Int) ^ n < 1073741824 := by
  have : ∀ n, n < 30 → (2 : Int) ^ n < 1073741824 := by decide
  exact this n (by omega)
theorem fine_of {C : List κ} {E : List (κ × κ)} (hC : C.Nodup) (hE : E.length ≤ 29) (h : ∀ x ∈ C, Esc C E x) : Fine (Lp (E.map ed)) C := by
  have nz : ∀ K : List κ, K.Nodup → (∀ x ∈ K, x ∈ C) → 0 < De K E := fun K hn hs => De_pos _ K rfl hn E fun x hx => (h x (hs x hx)).less hs
  have bd : ∀ K : List κ, K.Nodup → 0 ≤ De K E ∧ De K E < 1073741824 := fun K hn => by
    have b := De_bound E K hn
    exact ⟨b.1, Int.lt_of_le_of_lt b.2 (pow_lt _ hE)⟩
  have nd : ∀ p q, C = p ++ q → p.reverse.Nodup ∧ ∀ x ∈ p.reverse, x ∈ C := fun p q e => by
    rw [e] at hC
    exact ⟨(List.reverse_perm p).nodup_iff.mpr (List.nodup_append.mp hC).1, fun x hx => by rw [e]; exact List.mem_append_left _ (List.mem_reverse.mp hx)⟩
  have gd : ∀ K : List κ, K.Nodup → (∀ x ∈ K, x ∈ C) → Good (Lp (E.map ed)) K := fun K hn hs => good_of fun a b e => by
    rw [e] at hn hs
    exact Int.ne_of_gt (nz b (List.nodup_append.mp hn).2.1 fun x hx => hs x (List.mem_append_right _ hx))
  refine ⟨fun p q e => gd _ (nd p q e).1 (nd p q e).2, fun p q e => ⟨nz _ (nd p q e).1 (nd p q e).2, (bd _ (nd p q e).1).2⟩, fun p q e i hi j hj => ?_⟩
  obtain ⟨n1, n2⟩ := nd p q e
  have hC' := hC
  rw [e] at hC'
  have dis := (List.nodup_append.mp hC').2.2
  have ni : i ∉ p.reverse := fun z => dis i (List.mem_reverse.mp z) i hi rfl
  have nj : j ∉ p.reverse := fun z => dis j (List.mem_reverse.mp z) j hj rfl
  have ci : i ∈ C := by rw [e]; exact List.mem_append_right _ hi
  have cj : j ∈ C := by rw [e]; exact List.mem_append_right _ hj
  have bi := bd (i :: p.reverse) (List.nodup_cons.mpr ⟨ni, n1⟩)
  have bj := bd (j :: p.reverse) (List.nodup_cons.mpr ⟨nj, n1⟩)
  by_cases hij : i = j
  · subst hij
    have : MM (Lp (E.map ed)) p.reverse i i = De (i :: p.reverse) E := rfl
    rw [this]
    omega
  have gi : Good (Lp (E.map ed)) (i :: p.reverse) := gd _ (List.nodup_cons.mpr ⟨ni, n1⟩) fun x hx => by
    rcases List.mem_cons.mp hx with r | r
    · rw [r]; exact ci
    · exact n2 x r
  have s := sylv gi j j
  have b2 := (bd (j :: i :: p.reverse) (List.nodup_cons.mpr ⟨fun z => by
    rcases List.mem_cons.mp z with r | r
    · exact hij r.symm
    · exact nj r, List.nodup_cons.mpr ⟨ni, n1⟩⟩)).1
  have b3 := nz p.reverse n1 n2
  have e1 : MM (Lp (E.map ed)) p.reverse i i = De (i :: p.reverse) E := rfl
  have e2 : MM (Lp (E.map ed)) p.reverse j j = De (j :: p.reverse) E := rfl
  have e3 : MM (Lp (E.map ed)) (i :: p.reverse) j j = De (j :: i :: p.reverse) E := rfl
  have e4 : mm (Lp (E.map ed)) p.reverse = De p.reverse E := rfl
  have sy := MM_symm (fun a b => Lp_symm _ a b) (gd _ n1 n2) j i
  rw [e1, e2, e3, e4, sy] at s
  generalize MM (Lp (E.map ed)) p.reverse i j = x at s ⊢
  generalize De (i :: p.reverse) E = a at *
  generalize De (j :: p.reverse) E = b at *
  have pr : 0 ≤ De p.reverse E * De (j :: i :: p.reverse) E := Int.mul_nonneg (by omega) b2
  have ab : b * a ≤ 1073741824 * 1073741824 := Int.mul_le_mul (by omega) (by omega) bi.1 (by decide)
  have xx : x * x ≤ 1073741824 * 1073741824 := by omega
  constructor
  · refine Int.not_le.mp fun z => ?_
    have : (2 ^ 64 : Int) * 2 ^ 64 ≤ (-x) * (-x) := Int.mul_le_mul (by omega) (by omega) (by decide) (by omega)
    have e : (-x) * (-x) = x * x := by grind
    rw [e] at this
    exact absurd (Int.le_trans this xx) (by decide)
  · refine Int.not_le.mp fun z => ?_
    have : (2 ^ 64 : Int) * 2 ^ 64 ≤ x * x := Int.mul_le_mul z z (by decide) (by omega)
    exact absurd (Int.le_trans this xx) (by decide)
noncomputable def hl (a b x j : κ) : Int := if a = b then 0 else if x = a then (if j = a then 1 else 0) - (if j = b then 1 else 0) else 0
theorem hl_two (a b x j : κ) : ed (a, b) x * ed (a, b) j = hl a b x j + hl b a x j := by
  unfold ed hl
  by_cases h0 : a = b
  · subst h0
    simp
  · by_cases h1 : x = a <;> by_cases h2 : x = b <;> by_cases h3 : j = a <;> by_cases h4 : j = b <;> simp_all
theorem hl_add0 (F : Nat → Nat → Int) (a y j : Nat) : (if y = a then (if j = a then F a a + 1 else F a j) else F y j) = F y j + hl (a + 1) 0 (y + 1) (j + 1) := by
  unfold hl
  by_cases h1 : y = a
  · subst h1
    by_cases h2 : j = y
    · subst h2
      simp
    · simp [h2]
  · simp [h1]
theorem hl_add2 (F : Nat → Nat → Int) {a c : Nat} (h : c ≠ a) (y j : Nat) : (if y = a then (if j = c then F a c - 1 else if j = a then F a a + 1 else F a j) else F y j) = F y j + hl (a + 1) (c + 1) (y + 1) (j + 1) := by
  unfold hl
  by_cases h1 : y = a
  · subst h1
    by_cases h2 : j = c
    · subst h2
      simp [h, Ne.symm h]
      omega
    · by_cases h3 : j = y
      · subst h3
        simp [h2]
      · simp [h2, h3, Ne.symm h]
  · simp [h1]
end Dt
namespace V2
open PySem L2 Nt Sort2
structure TabAt (H : Hp) (tb : Addr) (ts : List Addr) (M : List (List Int)) : Prop where
  len : ts.length = M.length
  lst : H tb = some (.lst (ts.map V.ref))
  row : ∀ (i : Nat) a r, ts[i]? = some a → M[i]? = some r → H a = some (.lst (r.map V.int))
  inj : ts.Nodup
theorem TabAt.same {H H' : Hp} {tb : Addr} {ts : List Addr} {M : List (List Int)} (h : TabAt H tb ts M) (s : Same H H') : TabAt H' tb ts M := ⟨h.len, s _ _ h.lst, fun i a r h1 h2 => s _ _ (h.row i a r h1 h2), h.inj⟩
theorem tb_refs {ts : List Addr} {i : Nat} {a : Addr} (h : ts[i]? = some a) : atI (ts.map V.ref) (i : Int) = some (.ref a) := atI_nat (by rw [List.getElem?_map, h]; rfl)
theorem at_int {r : List Int} {i : Nat} {v : Int} (h : r[i]? = some v) : atI (r.map V.int) (i : Int) = some (.int v) := atI_nat (by rw [List.getElem?_map, h]; rfl)
theorem cut_refs (ts : List Addr) (i : Nat) : cutV (ts.map V.ref) (some (i : Int)) none = (ts.drop i).map V.ref := by
  unfold cutV
  rw [HT.sIx_nat, HT.sIx_none, List.length_map]
  rw [List.take_of_length_le (by rw [List.length_drop, List.length_map]; omega), List.map_drop]
  rcases Nat.le_total i ts.length with h | h
  · rw [Nat.min_eq_left h]
  · rw [Nat.min_eq_right h, List.drop_of_length_le (by simp), List.drop_of_length_le (by simpa using h)]
section
variable {X : Cx} {elt tg : Expr} {ifs : List Expr} {scope : Scope} {σ : St} {H : Hp} {N' : List Str} {A : Addr} {after : Hp → Prop}
theorem comp_rangeP {lo : Int} {n : Nat} (Pv : Nat → St → Hp → Prop) (h0 : Pv 0 σ H)
    (hs : ∀ i σ' H', i < n → Pv i σ' H' → CEg X N' scope tg (.int (lo + i)) σ' H' fun σ2 H3 => CEi X N' scope ifs σ2 H3 fun b H4 =>
      if b = true then CEv X N' scope elt σ2 H4 fun v H5 => ∃ ys, H5 A = some (.lst ys) ∧ ys.length < sizeLine ∧ Pv (i + 1) σ2 (upd H5 A (.lst (ys ++ [v]))) else Pv (i + 1) σ2 H4)
    (hd : ∀ σ' H', Pv n σ' H' → after H') : CompL X N' scope tg ifs elt (Itr lo n) A after σ H := by
  refine ⟨fun i m σ' H' => m = n - i ∧ i ≤ n ∧ Pv i σ' H', ⟨_, rfl, Nat.zero_le _, h0⟩, ?_⟩
  rintro i m σ' H' ⟨rfl, hi, p⟩
  by_cases hlt : i < n
  · refine .inr ⟨hlt, Pv (i + 1), fun σ' H' p' => ⟨n - (i + 1), by omega, rfl, hlt, p'⟩, fun x H2 y => ?_⟩
    obtain ⟨e, y⟩ := y
    subst e y
    exact hs i σ' _ hlt p
  · have e : i = n := by omega
    subst e
    exact .inl ⟨Nat.le_refl _, hd σ' H' p⟩
end
theorem MM_nil (l : Nat → Nat → Int) (i j : Nat) : Dt.MM l [] i j = l i j := by
  show l i j * 1 - 0 = l i j
  omega
noncomputable def spDet : Sp := fun vs H Q _ => ∃ (tb : Addr) (ts : List Addr) (l : Nat → Nat → Int) (C : List Nat), vs = [.ref tb] ∧ TabAt H tb ts (C.map fun i => C.map (l i)) ∧ Dt.Fine l C ∧ C.length ≤ 60 ∧ ∀ H', Same H H' → Q (.int (Dt.mm l C.reverse)) H'
section
variable {P : Program} {w : World} {K : PySem.W.Frag} {mg : Str → Option Value} {base : Heap}
noncomputable abbrev NDt : List Str := ["table", "last", "corner"]
noncomputable abbrev NDt1 : List Str := ["table", "last", "corner", "line"]
noncomputable abbrev NDt2 : List Str := ["table", "last", "corner", "line", "place"]
theorem scDt : FnScope NDt ["table"] (defScope s_determinant) := ⟨rfl, rfl, rfl, by decide +kernel, rfl, by decide +kernel, by decide +kernel⟩
theorem nd_dt1 : NDt1.Nodup := by decide +kernel
theorem nd_dt2 : NDt2.Nodup := by decide +kernel
noncomputable def scDtO : Scope := match defBody s_determinant with
  | [_, .While _ [_, .Assign _ (.ListComp _ _ sc _) _, _] _ _, _] => sc
  | _ => defScope s_determinant
noncomputable def scDtI : Scope := relabel scDtO (PyProof.Rows.envOfC "determinant" (defScope s_determinant) 0 0 .none)
theorem ok_det {f : Addr} {fd : FuncData} (F : Fun K "determinant" "determinant" s_determinant f fd) (T : Txt mg) : FnOk P w K mg base CX0 1 f fd ["table"] spDet := by
  refine F.gb scDt (fun vs H Q E h => ?_) (fun b0 H vs Q E hr h => ?_)
  · obtain ⟨tb, ts, l, C, rfl, _⟩ := h
    rfl
  obtain ⟨tb, ts, l, C, rfl, hT, hF, hC, q⟩ := h
  have nd := scDt.nd
  show Run _ _ _ [some (.ref tb), none, none] H
  refine run_set 1 nd (ev_int ?_)
  show Run _ _ _ [some (.ref tb), some (.int 1), none] H
  refine run_while (fun m σ H' => ∃ (p qq : List Nat) (tb : Addr) (ts : List Addr) (u : Option V), C = p ++ qq ∧ m = qq.length ∧ Same H H' ∧ TabAt H' tb ts (qq.map fun i => qq.map (Dt.MM l p.reverse i)) ∧ σ = [some (.ref tb), some (.int (Dt.mm l p.reverse)), u]) (m0 := C.length) ⟨[], C, tb, ts, _, rfl, rfl, Same.refl _, ?_, rfl⟩ ?_
  · rw [show (C.map fun i => C.map (Dt.MM l ([] : List Nat).reverse i)) = C.map fun i => C.map (l i) from List.map_congr_left fun i _ => List.map_congr_left fun j _ => MM_nil l i j]
    exact hT
  rintro m σ H1 ⟨p, qq, tb, ts, u, hC', hm, s1, hT1, rfl⟩
  have lts := hT1.len
  rw [List.length_map] at lts
  refine et_truth (ev_v 0 (v := .ref tb) ⟨!ts.isEmpty, Or.inl ⟨ts.map V.ref, SqL.of hT1.lst, by cases ts <;> rfl⟩, ?_⟩)
  cases qq with
  | nil =>
    have e : ts = [] := List.length_eq_zero_iff.mp lts
    rw [e]
    rw [List.append_nil] at hC'
    refine iteF (run_ret (ev_v 1 ?_))
    have := q H1 s1
    rw [hC'] at this
    exact this
  | cons k q' =>
  cases ts with
  | nil => cases lts
  | cons a0 ts' =>
  refine iteT ?_
  have lts' : ts'.length = q'.length := Nat.succ.inj lts
  have lC : q'.length ≤ 59 := by
    have := congrArg List.length hC'
    rw [List.length_append, List.length_cons] at this
    omega
  have e0 := hT1.row 0 a0 _ rfl rfl
  obtain ⟨mp, ml⟩ := hF.pos p _ hC'
  have hC2 : C = (p ++ [k]) ++ q' := by rw [hC', List.append_assoc]; rfl
  have gd := hF.good (p ++ [k]) q' hC2
  rw [List.reverse_append] at gd
  have gd : Dt.Good l (k :: p.reverse) := gd
  have sv := fun i j => Dt.sylv gd i j
  have bd := hF.all p _ hC'
  generalize hKK : p.reverse = KK at *
  have mk : k ∈ k :: q' := List.mem_cons_self ..
  show Run _ _ _ [some (.ref tb), some (.int (Dt.mm l KK)), u] H1
  refine run_set 2 nd (ev_ix ix_list (ev_ix ix_list (ev_v 0 (ev_int ⟨tb, _, _, .ref a0, rfl, rfl, SqL.of hT1.lst, tb_refs (i := 0) rfl, ev_int ⟨a0, _, _, .int (Dt.MM l KK k k), rfl, rfl, SqL.of e0, at_int (i := 0) rfl, ?_⟩⟩))))
  show Run _ _ _ [some (.ref tb), some (.int (Dt.mm l KK)), some (.int (Dt.MM l KK k k))] H1
  refine run_set 0 nd (ev_comp (defScope s_determinant) NDt NDt1 1 (pi_list pe_ev) (ev_slice sl_list (ev_v 0 (eo_some (ev_int ⟨1, rfl, eo_none ⟨tb, _, rfl, SqL.of hT1.lst, fun p1 hp1 => ?_⟩⟩)))))
  rw [show cutV ((a0 :: ts').map V.ref) (some 1) none = ts'.map V.ref from cut_refs (a0 :: ts') 1]
  have sp := same_new hp1 (.lst (ts'.map V.ref))
  have ep : (upd H1 p1 (.lst (ts'.map V.ref))) p1 = some (.lst (ts'.map V.ref)) := upd_same
  have s2 := s1.trans sp
  have hT2 := hT1.same sp
  generalize upd H1 p1 (.lst (ts'.map V.ref)) = H2 at s2 ep hT2 ⊢
  have e02 := hT2.row 0 a0 _ rfl rfl
  refine ⟨p1, rfl, ⟨_, SqL.of ep⟩, fun A hA => ?_⟩
  refine comp_listP (xs := ts'.map V.ref) (fun i σ' H' => (∃ v, σ' = [some (.ref tb), some (.int (Dt.mm l KK)), some (.int (Dt.MM l KK k k))] ++ [v]) ∧ ∃ us : List Addr, us.length = i ∧ H' A = some (.lst (us.map V.ref)) ∧ (∀ (j : Nat) a c, us[j]? = some a → q'[j]? = some c → H' a = some (.lst ((q'.map (Dt.MM l (k :: KK) c)).map V.int))) ∧ us.Nodup ∧ A ∉ us ∧ Same H2 H') ⟨⟨none, rfl⟩, [], rfl, upd_same, fun j a c h => by simp at h, List.nodup_nil, List.not_mem_nil, same_new hA _⟩ ?_ ?_ ?_
  · rintro i σ' H' _ ⟨_, us, _, _, _, _, _, sm⟩
    exact SqL.of (sm _ _ ep)
  · rintro i x σ' H' hx ⟨⟨v, rfl⟩, us, hl, eA, hrow, hnd, hnA, sm⟩
    rw [List.getElem?_map, Option.map_eq_some_iff] at hx
    obtain ⟨a, ha, rfl⟩ := hx
    have hi : i < q'.length := by
      have := (List.getElem?_eq_some_iff.mp ha).1
      omega
    obtain ⟨c, hc⟩ : ∃ c, q'[i]? = some c := ⟨_, List.getElem?_eq_getElem hi⟩
    have mc : c ∈ k :: q' := List.mem_cons_of_mem _ (List.mem_of_getElem? hc)
    have ea := (hT2.same sm).row (i + 1) a _ (by rw [List.getElem?_cons_succ]; exact ha) (by rw [List.getElem?_map, List.getElem?_cons_succ, hc]; rfl)
    have e03 := sm _ _ e02
    have etb := sm _ _ hT2.lst
    intro cl C' s₀ H₀ ex
    refine eg_name 3 nd_dt1 ?_
    intro cl C' s₀ H₀ ex
    refine ei_nil (iteT ?_)
    intro cl C' s₀ H₀ ex
    refine ev_comp scDtI NDt1 NDt2 1 (pi_range2 rfl T.range (ta := tEa _ _) pa_ea (star_one _ [_] _ rfl) (star_one _ [] _ rfl)) ?_
    show Ea _ _ _ _ _
    refine ea_cons (ev_int (ea_cons (ev_blt call_len_seq T.len boot_len (ea_cons (ev_v 0 (ea_nil ⟨tb, _, rfl, .inl (SqL.of etb), ea_nil ⟨_, _, rfl, ⟨by decide, by decide, ?_, ?_⟩, fun D hD => ?_⟩⟩))))))
    · rw [List.length_map]
      omega
    · rw [List.length_map, List.length_cons]
      omega
    rw [List.length_map, List.length_cons, lts', show (((q'.length + 1 : Nat) : Int) - 1).toNat = q'.length by omega]
    refine comp_rangeP (fun t σ' H'' => (∃ v, σ' = [some (.ref tb), some (.int (Dt.mm l KK)), some (.int (Dt.MM l KK k k)), some (.ref a)] ++ [v]) ∧ Same H' H'' ∧ H'' D = some (.lst (((q'.take t).map (Dt.MM l (k :: KK) c)).map V.int))) ⟨⟨none, rfl⟩, same_new hD _, upd_same⟩ ?_ ?_
    · rintro t σ' H'' ht ⟨⟨v, rfl⟩, sn, eD⟩
      obtain ⟨j, hj⟩ : ∃ j, q'[t]? = some j := ⟨_, List.getElem?_eq_getElem ht⟩
      have mj : j ∈ k :: q' := List.mem_cons_of_mem _ (List.mem_of_getElem? hj)
      have et : (1 : Int) + (t : Int) = ((t + 1 : Nat) : Int) := by omega
      rw [et]
      intro cl C' s₀ H₀ ex
      refine eg_name 4 nd_dt2 ?_
      intro cl C' s₀ H₀ ex
      refine ei_nil (iteT ?_)
      intro cl C' s₀ H₀ ex
      refine ev_op op_fdiv (ev_op op_sub (ev_op op_mul (ev_ix ix_list (ev_v 3 (ev_v 4 ⟨a, _, _, .int (Dt.MM l KK c j), rfl, rfl, SqL.of (sn _ _ ea), at_int (i := t + 1) (by rw [List.getElem?_map, List.getElem?_cons_succ, hj]; rfl), ev_v 2 ⟨_, _, rfl, rfl, .inl (bd c mc j mj), ?_⟩⟩)))))
      refine ev_op op_mul (ev_ix ix_list (ev_v 3 (ev_int ⟨a, _, _, .int (Dt.MM l KK c k), rfl, rfl, SqL.of (sn _ _ ea), at_int (i := 0) rfl, ?_⟩)))
      refine ev_ix ix_list (ev_ix ix_list (ev_v 0 (ev_int ⟨tb, _, _, .ref a0, rfl, rfl, SqL.of (sn _ _ etb), tb_refs (i := 0) rfl, ev_v 4 ⟨a0, _, _, .int (Dt.MM l KK k j), rfl, rfl, SqL.of (sn _ _ e03), at_int (i := t + 1) (by rw [List.getElem?_map, List.getElem?_cons_succ, hj]; rfl), ?_⟩⟩)))
      refine ⟨_, _, rfl, rfl, .inl (bd c mc k mk), _, _, rfl, rfl, ev_v 1 ⟨_, _, rfl, rfl, ⟨mp, ml⟩, ?_⟩⟩
      have ev := congrArg V.int ((congrArg (fun z => z / Dt.mm l KK) (sv c j)).trans (Int.mul_ediv_cancel_left _ (Int.ne_of_gt mp)))
      refine ⟨_, eD, ?_, ⟨_, rfl⟩, same_mut sn hD, ?_⟩
      · rw [List.length_map, List.length_map, List.length_take]
        exact small' (by omega)
      · rw [upd_same, List.take_add_one, hj, List.map_append, List.map_append]
        exact congrArg (fun z => some (HO.lst ((((q'.take t).map (Dt.MM l (k :: KK) c)).map V.int) ++ [z]))) ev
    · rintro σ' H'' ⟨_, sn, eD⟩
      rw [List.take_length] at eD
      have nDA : D ≠ A := fun e => by rw [e, eA] at hD; cases hD
      have hnu : D ∉ us := fun hm => by
        obtain ⟨j, hj⟩ := List.getElem?_of_mem hm
        have jl := (List.getElem?_eq_some_iff.mp hj).1
        have := hrow j D _ hj (List.getElem?_eq_getElem (by omega))
        rw [hD] at this
        cases this
      refine ⟨_, sn _ _ eA, ?_, ⟨_, rfl⟩, us ++ [D], by rw [List.length_append, hl]; rfl, by rw [upd_same, List.map_append]; rfl, fun j b d hb hd => ?_, nd_snoc hnd hnu, fun hm => ?_, same_mut (sm.trans sn) hA⟩
      · rw [List.length_map]
        exact small' (by omega)
      · by_cases hj : j < us.length
        · rw [List.getElem?_append_left hj] at hb
          rw [upd_ne (fun e : b = A => hnA (e ▸ List.mem_of_getElem? hb))]
          exact sn _ _ (hrow j b d hb hd)
        · rw [List.getElem?_append_right (by omega)] at hb
          have hj2 : j - us.length = 0 := by
            have := (List.getElem?_eq_some_iff.mp hb).1
            simp at this
            omega
          have hji : j = i := by omega
          rw [hj2] at hb
          cases hb
          rw [hji, hc] at hd
          cases hd
          rw [upd_ne nDA]
          exact eD
      · rcases List.mem_append.mp hm with h | h
        · exact hnA h
        · exact nDA (List.mem_singleton.mp h).symm
  · rintro σ' H3 ⟨_, us, hl, eA, hrow, hnd, hnA, sm⟩
    rw [List.length_map] at hl
    show Run _ _ _ [some (.ref A), some (.int (Dt.mm l KK)), some (.int (Dt.MM l KK k k))] H3
    refine run_set 1 nd (ev_v 2 (run_nil ⟨q'.length, by rw [hm]; exact Nat.lt_succ_self _, p ++ [k], q', A, us, some (.int (Dt.MM l KK k k)), hC2, rfl, s2.trans sm, ⟨by rw [List.length_map]; omega, eA, fun i a r h1 h2 => ?_, hnd⟩, ?_⟩))
    · rw [List.getElem?_map, Option.map_eq_some_iff] at h2
      obtain ⟨c, hc, rfl⟩ := h2
      have := hrow i a c h1 hc
      rw [List.reverse_append, hKK]
      exact this
    · rw [List.reverse_append, hKK]
      rfl
end
end V2
namespace Nt
open PySem L2
end Nt
namespace Nt
open PySem L2
open PyProof.Rows (sortedS)
theorem val_none {kvs : List (Key × V)} {k : Key} (hg : valV kvs k = none) : k ∉ kvs.map (·.1) := by
  induction kvs with
  | nil => intro h; cases h
  | cons c r ih =>
    intro h
    by_cases hc : c.1 = k
    · rw [valV_pos hc] at hg
      cases hg
    · rw [valV_neg hc] at hg
      rcases List.mem_cons.mp h with q | q
      · exact hc q.symm
      · exact ih hg q
theorem val_some {kvs : List (Key × V)} {k : Key} {v : V} (hg : valV kvs k = some v) : k ∈ kvs.map (·.1) := by
  refine Classical.byContradiction fun hn => ?_
  induction kvs with
  | nil => cases hg
  | cons c r ih =>
    rw [List.map_cons, List.mem_cons] at hn
    rw [valV_neg (fun q => hn (.inl q.symm))] at hg
    exact ih hg fun q => hn (.inr q)
theorem inl_ne {a b : Nat} (h : a ≠ b) : ¬ (Sum.inl (a : Int) : Key) = Sum.inl (b : Int) := fun q => h (by have := Sum.inl.inj q; omega)
theorem nmA_inj {n : Net} (hn : (n.map (·.1)).Nodup) {i j : Nat} (hi : i < n.length) (hj : j < n.length) (h : nmA n i = nmA n j) : i = j := by
  rw [nmA_eq hi, nmA_eq hj] at h
  have := (List.nodup_iff_pairwise_ne.mp hn)
  rw [List.pairwise_iff_getElem] at this
  rcases Nat.lt_trichotomy i j with q | q | q
  · exact absurd (by rw [List.getElem_map, List.getElem_map]; exact h) (this i j (by simpa using hi) (by simpa using hj) q)
  · exact q
  · exact absurd (by rw [List.getElem_map, List.getElem_map]; exact h.symm) (this j i (by simpa using hj) (by simpa using hi) q)
end Nt
namespace Nt
open PySem L2
open PyProof.Rows (sortedS)
theorem filter_xor (a b c : List Str) (h : ∀ z, z ∈ c ↔ (if z ∈ a then z ∉ b else z ∈ b)) : ∀ zs : List Str, (zs.filter fun z => c.contains z).length % 2 = ((zs.filter fun z => a.contains z).length + (zs.filter fun z => b.contains z).length) % 2
  | [] => rfl
  | z :: r => by
    have ih := filter_xor a b c h r
    have hz := h z
    have ca := fun (l : List Str) => (List.contains_iff_mem (as := l) (a := z))
    simp only [List.filter_cons]
    by_cases ha : z ∈ a <;> by_cases hb : z ∈ b
    · have hc : z ∉ c := fun q => by have := hz.mp q; rw [if_pos ha] at this; exact this hb
      rw [if_pos ((ca a).mpr ha), if_pos ((ca b).mpr hb), if_neg (fun q => hc ((ca c).mp q)), List.length_cons, List.length_cons]
      omega
    · have hc : z ∈ c := hz.mpr (by rw [if_pos ha]; exact hb)
      rw [if_pos ((ca a).mpr ha), if_neg (fun q => hb ((ca b).mp q)), if_pos ((ca c).mpr hc), List.length_cons, List.length_cons]
      omega
    · have hc : z ∈ c := hz.mpr (by rw [if_neg ha]; exact hb)
      rw [if_neg (fun q => ha ((ca a).mp q)), if_pos ((ca b).mpr hb), if_pos ((ca c).mpr hc), List.length_cons, List.length_cons]
      omega
    · have hc : z ∉ c := fun q => by have := hz.mp q; rw [if_neg ha] at this; exact hb this
      rw [if_neg (fun q => ha ((ca a).mp q)), if_neg (fun q => hb ((ca b).mp q)), if_neg (fun q => hc ((ca c).mp q))]
      exact ih
theorem rowSeats_pos (k : Nat) (z : Str) : ∀ (ts : List Str) (p : Nat), (posIn (rowSeats k ts p) z).length = ts.count z
  | [], p => rfl
  | t :: r, p => by
    have ih := rowSeats_pos k z r (p + 1)
    have e : rowSeats k (t :: r) p = (t, (k, p)) :: rowSeats k r (p + 1) := by unfold rowSeats; rfl
    rw [e]
    unfold posIn at ih ⊢
    rw [List.filter_cons, List.count_cons]
    by_cases h : t = z
    · rw [if_pos (decide_eq_true h), List.map_cons, List.length_cons, ih, if_pos (by simpa using h)]
    · rw [if_neg (fun q => h (of_decide_eq_true q)), ih, if_neg (by simpa using h)]
      rfl
theorem posIn_app (a b : List (Str × End)) (z : Str) : posIn (a ++ b) z = posIn a z ++ posIn b z := by
  unfold posIn
  rw [List.filter_append, List.map_append]
theorem rowSeats_fst {k : Nat} {ts : List Str} {p : Nat} {z : Str} {e : End} (h : e ∈ posIn (rowSeats k ts p) z) : e.1 = k := by
  unfold posIn at h
  obtain ⟨x, hx, rfl⟩ := List.mem_map.mp h
  obtain ⟨y, e⟩ := x
  exact (mem_rowSeats.mp (List.mem_filter.mp hx).1).1
theorem sum_count {a : List Str} (hn : a.Nodup) : ∀ l : List Str, (l.filter fun z => a.contains z).length = (a.map fun z => l.count z).sum
  | [] => by
    have : ∀ a : List Str, (a.map fun z => ([] : List Str).count z).sum = 0 := fun a => by
      induction a with
      | nil => rfl
      | cons x r ih => rw [List.map_cons, List.sum_cons, ih]; rfl
    rw [this]
    rfl
  | y :: l => by
    have ih := sum_count hn l
    have key : ∀ a : List Str, (a.map fun z => (y :: l).count z).sum = (a.map fun z => l.count z).sum + a.count y := fun a => by
      induction a with
      | nil => rfl
      | cons x r ih =>
        rw [List.map_cons, List.sum_cons, ih, List.map_cons, List.sum_cons, List.count_cons, List.count_cons]
        by_cases h : y = x
        · rw [if_pos (by simp [h]), if_pos (by simp [h])]
          omega
        · rw [if_neg (by simpa using h), if_neg (by simpa using fun q => h (Eq.symm q))]
          omega
    rw [key, List.filter_cons, ← ih, hn.count]
    by_cases h : y ∈ a
    · rw [if_pos (List.contains_iff_mem.mpr h), if_pos h, List.length_cons]
    · rw [if_neg (fun q => h (List.contains_iff_mem.mp q)), if_neg h]
      rfl
theorem half_len {n : Net} (T : Twice n) {ss : List Str} (hn : ss.Nodup) (hm : ∀ z ∈ ss, z ∈ ties n) : 2 * ss.length ≤ (ties n).length := by
  have h := sum_count hn (ties n)
  have e : ∀ l : List Str, (∀ z ∈ l, z ∈ ties n) → (l.map fun z => (ties n).count z).sum = 2 * l.length := fun l => by
    induction l with
    | nil => intro _; rfl
    | cons x r ih =>
      intro hl
      rw [List.map_cons, List.sum_cons, ih fun z hz => hl z (List.mem_cons_of_mem _ hz), T x (hl x (List.mem_cons_self ..)), List.length_cons]
      omega
  rw [e ss hm] at h
  rw [← h]
  exact List.length_filter_le _ _
end Nt
namespace Nt
open PySem L2
theorem nd_ix {α : Type} : ∀ {l : List α}, l.Nodup → ∀ {i j : Nat} {x : α}, l[i]? = some x → l[j]? = some x → i = j
  | [], _, i, j, x, h, _ => by simp at h
  | a :: l, hn, i, j, x, h1, h2 => by
    obtain ⟨na, hl⟩ := List.nodup_cons.mp hn
    cases i with
    | zero =>
      cases j with
      | zero => rfl
      | succ j =>
        cases h1
        rw [List.getElem?_cons_succ] at h2
        exact absurd (List.mem_of_getElem? h2) na
    | succ i =>
      cases j with
      | zero =>
        cases h2
        rw [List.getElem?_cons_succ] at h1
        exact absurd (List.mem_of_getElem? h1) na
      | succ j =>
        rw [List.getElem?_cons_succ] at h1 h2
        rw [nd_ix hl h1 h2]
noncomputable def rn (n : Net) (p : Str) : Nat := (n.map (·.1)).idxOf p
noncomputable def lkE (n : Net) (ls : List Lk) : List (Nat × Nat) := ls.map fun x => (rn n x.2.1, rn n x.2.2)
theorem rn_at {n : Net} {p : Str} (h : p ∈ n.map (·.1)) : rn n p < n.length ∧ (n.map (·.1))[rn n p]? = some p := by
  have hl : rn n p < (n.map (·.1)).length := List.idxOf_lt_length_iff.mpr h
  refine ⟨by rw [List.length_map] at hl; exact hl, ?_⟩
  rw [List.getElem?_eq_getElem hl]
  congr 1
  exact List.getElem_idxOf hl
theorem rn_nmA {n : Net} (hN : (n.map (·.1)).Nodup) {r : Nat} (h : r < n.length) : rn n (nmA n r) = r := by
  have e : (n.map (·.1))[r]? = some (nmA n r) := by rw [List.getElem?_map, List.getElem?_eq_getElem h, nmA_eq h]; rfl
  exact nd_ix hN (rn_at (List.mem_of_getElem? e)).2 e
theorem pos_row {n : Net} {z : Str} {e : End} (h : e ∈ pos n z) : e.1 < n.length ∧ z ∈ row n e.1 := by
  have h := mem_pos.mp h
  unfold tieAt at h
  have hz := List.mem_of_getElem? h
  refine ⟨?_, hz⟩
  by_cases hl : e.1 < n.length
  · exact hl
  · unfold row at hz
    rw [List.getElem?_eq_none (by omega)] at hz
    cases hz
theorem link_rows {n : Net} (T : Twice n) (hN : (n.map (·.1)).Nodup) {x : Lk} (h : IsLink n x) : (rn n x.2.1 < n.length ∧ (n.map (·.1))[rn n x.2.1]? = some x.2.1) ∧ (rn n x.2.2 < n.length ∧ (n.map (·.1))[rn n x.2.2]? = some x.2.2) := by
  obtain ⟨a, b, hp, h1, h2⟩ := h
  have la := (pos_row (n := n) (z := x.1) (e := a) (by rw [hp]; simp)).1
  have lb := (pos_row (n := n) (z := x.1) (e := b) (by rw [hp]; simp)).1
  have ma : nmA n a.1 ∈ n.map (·.1) := by rw [nmA_eq la]; exact List.mem_map.mpr ⟨_, List.getElem_mem la, rfl⟩
  have mb : nmA n b.1 ∈ n.map (·.1) := by rw [nmA_eq lb]; exact List.mem_map.mpr ⟨_, List.getElem_mem lb, rfl⟩
  rw [h1, h2]
  exact ⟨rn_at ma, rn_at mb⟩
theorem link_tie {n : Net} {x : Lk} (h : IsLink n x) : x.1 ∈ ties n := by
  obtain ⟨a, b, hp, _⟩ := h
  have := pos_len n x.1
  rw [hp] at this
  exact List.count_pos_iff.mp (by rw [← this]; exact Nat.succ_pos _)
theorem links_len {n : Net} (T : Twice n) {ls : List Lk} (so : ls.Pairwise fun x y => x.1.cps.toList < y.1.cps.toList) (mem : ∀ x, x ∈ ls ↔ IsLink n x) : 2 * ls.length ≤ (ties n).length := by
  have hn : (ls.map (·.1)).Nodup := List.Pairwise.map (fun x : Lk => x.1) (R := fun x y : Lk => x.1.cps.toList < y.1.cps.toList) (fun x y h e => by
    rw [e] at h
    exact List.lt_irrefl _ h) so
  have := half_len T hn fun z hz => by
    obtain ⟨x, hx, rfl⟩ := List.mem_map.mp hz
    exact link_tie ((mem x).mp hx)
  rw [List.length_map] at this
  omega
theorem range1_nodup (m : Nat) : ((List.range m).map (· + 1)).Nodup := by
  refine List.Pairwise.map _ (R := fun a b => a ≠ b) (fun a b h e => h (by omega)) List.nodup_range
theorem range1_mem {m x : Nat} : x ∈ (List.range m).map (· + 1) ↔ 1 ≤ x ∧ x ≤ m := by
  rw [List.mem_map]
  constructor
  · rintro ⟨a, ha, rfl⟩
    have := List.mem_range.mp ha
    omega
  · rintro ⟨h1, h2⟩
    exact ⟨x - 1, List.mem_range.mpr (by omega), by omega⟩
theorem link_join {n : Net} (T : Twice n) {ls : List Lk} (mem : ∀ x, x ∈ ls ↔ IsLink n x) (hN : (n.map (·.1)).Nodup) {r s : Nat} {t : Str} (hr : t ∈ row n r) (hs : t ∈ row n s) (hrl : r < n.length) (hsl : s < n.length) : r = s ∨ (r, s) ∈ lkE n ls ∨ (s, r) ∈ lkE n ls := by
  obtain ⟨i, hi⟩ := List.getElem?_of_mem hr
  obtain ⟨j, hj⟩ := List.getElem?_of_mem hs
  have ti : tieAt n (r, i) = some t := hi
  have tj : tieAt n (s, j) = some t := hj
  obtain ⟨a, b, hp, hab, he⟩ := pos_two T ti
  have he2 : (s, j) ∈ pos n t := mem_pos.mpr tj
  rw [hp] at he2
  have lk : (t, nmA n a.1, nmA n b.1) ∈ ls := (mem _).mpr ⟨a, b, hp, rfl, rfl⟩
  have la := (pos_row (n := n) (z := t) (e := a) (by rw [hp]; simp)).1
  have lb := (pos_row (n := n) (z := t) (e := b) (by rw [hp]; simp)).1
  have ml : (a.1, b.1) ∈ lkE n ls := List.mem_map.mpr ⟨_, lk, by show (rn n (nmA n a.1), rn n (nmA n b.1)) = _; rw [rn_nmA hN la, rn_nmA hN lb]⟩
  have he2 : (s, j) = a ∨ (s, j) = b := by simpa using he2
  rcases he with e1 | e1 <;> rcases he2 with e2 | e2
  · left
    have := e1.trans e2.symm
    exact congrArg Prod.fst this
  · right; left
    rw [← e1, ← e2] at ml
    exact ml
  · right; right
    rw [← e1, ← e2] at ml
    exact ml
  · left
    have := e1.trans e2.symm
    exact congrArg Prod.fst this
theorem esc_all {n : Net} (T : Twice n) (hN : (n.map (·.1)).Nodup) (hg : Hang n) (h0 : n ≠ []) {ls : List Lk} (mem : ∀ x, x ∈ ls ↔ IsLink n x) : ∀ x ∈ (List.range (n.length - 1)).map (· + 1), Dt.Esc ((List.range (n.length - 1)).map (· + 1)) (lkE n ls) x := by
  have hpos : 0 < n.length := List.length_pos_iff.mpr h0
  have key := hg (fun p => Dt.Esc ((List.range (n.length - 1)).map (· + 1)) (lkE n ls) (rn n p)) ⟨n[0], List.getElem_mem hpos, by
    have : rn n n[0].1 = 0 := by
      have := rn_nmA hN hpos
      rw [nmA_eq hpos] at this
      exact this
    show Dt.Esc _ _ (rn n n[0].1)
    rw [this]
    exact .out fun z => by have := (range1_mem.mp z).1; omega⟩ (fun r hr s hs t h1 h2 e => by
      obtain ⟨i, hi, rfl⟩ := List.mem_iff_getElem.mp hr
      obtain ⟨j, hj, rfl⟩ := List.mem_iff_getElem.mp hs
      have ei := rn_nmA hN hi
      have ej := rn_nmA hN hj
      rw [nmA_eq hi] at ei
      rw [nmA_eq hj] at ej
      show Dt.Esc _ _ (rn n n[j].1)
      have e : Dt.Esc _ _ (rn n n[i].1) := e
      rw [ei] at e
      rw [ej]
      have ri : row n i = n[i].2 := by unfold row; rw [List.getElem?_eq_getElem hi]; rfl
      have rj : row n j = n[j].2 := by unfold row; rw [List.getElem?_eq_getElem hj]; rfl
      rcases link_join T mem hN (r := i) (s := j) (t := t) (by rw [ri]; exact h1) (by rw [rj]; exact h2) hi hj with k | k | k
      · rw [← k]; exact e
      · exact .on (.inr k) e
      · exact .on (.inl k) e)
  intro x hx
  have hxl := range1_mem.mp hx
  have hlt : x < n.length := by omega
  have := key n[x] (List.getElem_mem hlt)
  have ex := rn_nmA hN hlt
  rw [nmA_eq hlt] at ex
  have this : Dt.Esc _ _ (rn n n[x].1) := this
  rw [ex] at this
  exact this
end Nt
namespace V2
open PySem L2 Nt Sort2
theorem ix_nat {n j : Nat} (h : j < n) : ixN n (j : Int) = some j := by
  unfold ixN
  rw [if_pos (by omega), if_pos (by omega)]
  rfl
noncomputable def SameT (ts : List Addr) (H H' : Hp) : Prop := ∀ b o, b ∉ ts → H b = some o → H' b = some o
theorem TabAt.ntb {H : Hp} {tb : Addr} {ts : List Addr} {M : List (List Int)} (h : TabAt H tb ts M) : tb ∉ ts := fun hm => by
  obtain ⟨i, hi⟩ := List.getElem?_of_mem hm
  have il := (List.getElem?_eq_some_iff.mp hi).1
  have ll := h.len
  have e := h.row i tb _ hi (List.getElem?_eq_getElem (by omega))
  rw [h.lst] at e
  have e := HO.lst.inj (Option.some.inj e)
  cases ts with
  | nil => cases hm
  | cons a ts =>
    rw [List.map_cons] at e
    generalize M[i]'(by omega) = r at e
    cases r with
    | nil => cases e
    | cons v r => cases (List.cons.inj e).1
theorem TabAt.put {H : Hp} {tb a : Addr} {ts : List Addr} {M : List (List Int)} (h : TabAt H tb ts M) {i : Nat} (hi : ts[i]? = some a) (r : List Int) : TabAt (upd H a (.lst (r.map V.int))) tb ts (M.set i r) := by
  have ma := List.mem_of_getElem? hi
  have il := (List.getElem?_eq_some_iff.mp hi).1
  have ll := h.len
  refine ⟨by rw [List.length_set]; exact h.len, by rw [upd_ne (fun e : tb = a => h.ntb (e ▸ ma))]; exact h.lst, fun k b s h1 h2 => ?_, h.inj⟩
  by_cases e : k = i
  · subst e
    rw [hi] at h1
    cases h1
    rw [List.getElem?_set_self (by omega)] at h2
    cases h2
    exact upd_same
  · rw [List.getElem?_set_ne (Ne.symm e)] at h2
    have nb : b ≠ a := fun z => e (by
      subst z
      exact nd_ix h.inj h1 hi)
    rw [upd_ne nb]
    exact h.row k b s h1 h2
noncomputable def tab (m : Nat) (F : Nat → Nat → Int) : List (List Int) := (List.range m).map fun i => (List.range m).map (F i)
theorem tab_row {m : Nat} {F : Nat → Nat → Int} {i : Nat} (h : i < m) : (tab m F)[i]? = some ((List.range m).map (F i)) := by
  unfold tab
  rw [List.getElem?_map, List.getElem?_range h]
  rfl
theorem row_at {m : Nat} {g : Nat → Int} {i : Nat} (h : i < m) : ((List.range m).map g)[i]? = some (g i) := by
  rw [List.getElem?_map, List.getElem?_range h]
  rfl
theorem tab_set {m : Nat} {F G : Nat → Nat → Int} {i : Nat} (h : i < m) (hg : ∀ k, k ≠ i → ∀ j, G k j = F k j) : (tab m F).set i ((List.range m).map (G i)) = tab m G := by
  refine List.ext_getElem? fun k => ?_
  by_cases e : k = i
  · subst e
    rw [List.getElem?_set_self (by unfold tab; rw [List.length_map, List.length_range]; exact h), tab_row h]
  · rw [List.getElem?_set_ne (Ne.symm e)]
    unfold tab
    rw [List.getElem?_map, List.getElem?_map]
    cases hk : (List.range m)[k]? with
    | none => rfl
    | some x =>
      have : x = k := by
        have hl := (List.getElem?_eq_some_iff.mp hk).1
        rw [List.length_range] at hl
        rw [List.getElem?_range hl] at hk
        exact (Option.some.inj hk).symm
      subst this
      show some _ = some _
      congr 1
      exact List.map_congr_left fun j _ => (hg x e j).symm
theorem row_set {m : Nat} {g : Nat → Int} {i : Nat} {v : Int} (h : i < m) : ((List.range m).map g).set i v = (List.range m).map fun j => if j = i then v else g j := by
  refine List.ext_getElem? fun k => ?_
  by_cases e : k = i
  · subst e
    rw [List.getElem?_set_self (by rw [List.length_map, List.length_range]; exact h), row_at h, if_pos rfl]
  · rw [List.getElem?_set_ne (Ne.symm e), List.getElem?_map, List.getElem?_map]
    cases hk : (List.range m)[k]? with
    | none => rfl
    | some x =>
      have : x = k := by
        have hl := (List.getElem?_eq_some_iff.mp hk).1
        rw [List.length_range] at hl
        rw [List.getElem?_range hl] at hk
        exact (Option.some.inj hk).symm
      subst this
      show some (g x) = some (if x = i then v else g x)
      rw [if_neg e]
noncomputable def spPts : Sp := fun vs H Q _ => ∃ (R : Addr) (as : List (Addr × Addr)) (n : Net), vs = [.ref R] ∧ RowsAt H R as n ∧ n.length ≤ 1000 ∧ ∀ L H', Same H H' → H L = none → H' L = some (Ls (n.map (·.1))) → Q (.ref L) H'
noncomputable def spTab : Sp := fun vs H Q _ => ∃ (R : Addr) (as : List (Addr × Addr)) (n : Net), vs = [.ref R] ∧ RowsAt H R as n ∧ Twice n ∧ (n.map (·.1)).Nodup ∧ n ≠ [] ∧ n.length ≤ 60 ∧ (ties n).length ≤ 60 ∧
  ∀ (tb : Addr) (ts : List Addr) (ls : List Lk) (H' : Hp), Same H H' → TabAt H' tb ts (tab (n.length - 1) fun i j => Dt.Lp ((lkE n ls).map Dt.ed) (i + 1) (j + 1)) → SortedL ls → (∀ x, x ∈ ls ↔ IsLink n x) → Q (.ref tb) H'
noncomputable def spCount : Sp := fun vs H Q _ => ∃ (R : Addr) (as : List (Addr × Addr)) (n : Net), vs = [.ref R] ∧ RowsAt H R as n ∧ Twice n ∧ (n.map (·.1)).Nodup ∧ n ≠ [] ∧ n.length ≤ 60 ∧ (ties n).length ≤ 58 ∧ Hang n ∧
  ∀ (ls : List Lk) (H' : Hp), Same H H' → SortedL ls → (∀ x, x ∈ ls ↔ IsLink n x) → Q (.int (Dt.De ((List.range (n.length - 1)).map (· + 1)) (lkE n ls))) H'
section
variable {P : Program} {w : World} {K : PySem.W.Frag} {mg : Str → Option Value} {base : Heap}
noncomputable abbrev NPo : List Str := ["rows"]
noncomputable abbrev NPo1 : List Str := ["rows", "point", "ties"]
theorem scPo : FnScope NPo ["rows"] (defScope s_points_of) := ⟨rfl, rfl, rfl, by decide +kernel, rfl, by decide +kernel, by decide +kernel⟩
theorem nd_po1 : NPo1.Nodup := by decide +kernel
theorem ok_pts {f : Addr} {fd : FuncData} (F : Fun K "points_of" "points_of" s_points_of f fd) (T : Txt mg) : FnOk P w K mg base CX0 1 f fd ["rows"] spPts := by
  refine F.gb scPo (fun vs H Q E h => ?_) (fun b0 H vs Q E hr h => ?_)
  · obtain ⟨R, as, n, rfl, _⟩ := h
    rfl
  obtain ⟨R, as, n, rfl, hR, hn, q⟩ := h
  have hal := hR.len
  show Run _ _ _ [some (.ref R)] H
  refine run_ret (ev_comp (defScope s_points_of) NPo NPo1 2 (pi_list pe_ev) (ev_v 0 ⟨R, rfl, ⟨_, SqL.of hR.lst⟩, fun D hD => ?_⟩))
  refine comp_listP (xs := as.map fun a => V.ref a.1) (fun i σ' H' => (∃ v1 v2, σ' = [some (.ref R)] ++ [v1, v2]) ∧ H' D = some (Ls ((n.take i).map (·.1))) ∧ Same H H') ⟨⟨none, none, rfl⟩, upd_same, same_new hD _⟩ ?_ ?_ ?_
  · rintro i σ' H' _ ⟨_, _, sm⟩
    exact SqL.of (sm _ _ hR.lst)
  · rintro i x σ' H' hx ⟨⟨v1, v2, rfl⟩, eD, sm⟩
    have hi : i < n.length := by
      have := (List.getElem?_eq_some_iff.mp hx).1
      rw [List.length_map] at this
      omega
    obtain ⟨b, eb, eat, et, el, er⟩ := (hR.same sm).at hi
    rw [List.getElem?_map, eb] at hx
    cases hx
    intro cl C' s₀ H₀ ex
    refine eg_pair rfl (SqT.of et) (eg_name 1 nd_po1 (eg_name 2 nd_po1 ?_))
    intro cl C' s₀ H₀ ex
    refine ei_nil (iteT ?_)
    intro cl C' s₀ H₀ ex
    refine ev_v 1 ⟨_, eD, ?_, ⟨_, _, rfl⟩, ?_, same_mut sm hD⟩
    · rw [List.length_map, List.length_map, List.length_take]
      exact small' (by omega)
    · rw [upd_same, List.take_add_one, List.getElem?_eq_getElem hi, List.map_append]
      show _ = some (HO.lst (List.map V.str (_ ++ _)))
      rw [List.map_append]
      rfl
  · rintro σ' H' ⟨_, eD, sm⟩
    rw [List.length_map, hal, List.take_length] at eD
    exact q D H' sm hD eD
noncomputable abbrev NTt : List Str := ["rows", "places", "table", "tie", "one", "two", "start", "goal", "line"]
noncomputable abbrev NTt1 : List Str := ["rows", "places", "table", "tie", "one", "two", "start", "goal", "line", "place", "point"]
noncomputable abbrev NTt2 : List Str := ["rows", "places", "table", "tie", "one", "two", "start", "goal", "line", "point"]
noncomputable abbrev NTt3 : List Str := ["rows", "places", "table", "tie", "one", "two", "start", "goal", "line", "point", "other"]
theorem scTt : FnScope NTt ["rows"] (defScope s_tie_table) := ⟨rfl, rfl, rfl, by decide +kernel, rfl, by decide +kernel, by decide +kernel⟩
theorem nd_tt1 : NTt1.Nodup := by decide +kernel
theorem nd_tt2 : NTt2.Nodup := by decide +kernel
theorem nd_tt3 : NTt3.Nodup := by decide +kernel
noncomputable def scTtO : Scope := match defBody s_tie_table with
  | _ :: .Assign _ (.ListComp _ _ sc _) _ :: _ => sc
  | _ => defScope s_tie_table
noncomputable def scTtI : Scope := relabel scTtO (PyProof.Rows.envOfC "tie_table" (defScope s_tie_table) 0 0 .none)
theorem ok_tab {f : Addr} {fd : FuncData} (F : Fun K "tie_table" "tie_table" s_tie_table f fd) (T : Txt mg) (GP : Has P w K mg base 1 "points_of" ["rows"] spPts) (GL : Has P w K mg base 1 "links_of" ["rows"] spLinks) : FnOk P w K mg base CX0 2 f fd ["rows"] spTab := by
  refine F.gb scTt (fun vs H Q E h => ?_) (fun b0 H vs Q E hr h => ?_)
  · obtain ⟨R, as, n, rfl, _⟩ := h
    rfl
  obtain ⟨R, as, n, rfl, hR, hT, hN, h0, hn, hti, q⟩ := h
  have nd := scTt.nd
  have hu := hr.u1
  have hpos : 0 < n.length := List.length_pos_iff.mpr h0
  show Run _ _ _ [some (.ref R), none, none, none, none, none, none, none, none] H
  refine run_set 1 nd (ev_compDK (defScope s_tie_table) NTt NTt1 2 (pi_enum rfl T.enum pa_ea) (ea_cons (ev_slice sl_list (ev_has GP hr (ea_cons (ev_v 0 (ea_nil ⟨R, as, n, rfl, hR, by omega, fun L H1 s1 n1 e1 => eo_some (ev_int ⟨1, rfl, eo_none ⟨L, _, rfl, SqL.of e1, fun p1 hp1 => ea_nil ⟨p1, rfl, ⟨_, SqL.of upd_same⟩, fun D hD => ?_⟩⟩⟩)⟩)))))))
  have sp := s1.trans (same_new hp1 (.lst (cutV ((n.map (·.1)).map V.str) (some 1) none)))
  have ep : (upd H1 p1 (.lst (cutV ((n.map (·.1)).map V.str) (some 1) none))) p1 = some (.lst (cutV ((n.map (·.1)).map V.str) (some 1) none)) := upd_same
  generalize upd H1 p1 (.lst (cutV ((n.map (·.1)).map V.str) (some 1) none)) = H2 at sp ep hD ⊢
  rw [show cutV ((n.map (·.1)).map V.str) (some 1) none = ((n.map (·.1)).drop 1).map V.str from cut_from (n.map (·.1)) 1] at ep
  have hps : ((n.map (·.1)).drop 1).length = n.length - 1 := by rw [List.length_drop, List.length_map]
  have psn : ((n.map (·.1)).drop 1).Nodup := hN.sublist (List.drop_sublist ..)
  have psr : ∀ k p, ((n.map (·.1)).drop 1)[k]? = some p ↔ (n.map (·.1))[k + 1]? = some p := fun k p => by rw [List.getElem?_drop, Nat.add_comm]
  generalize (n.map (·.1)).drop 1 = ps at ep hps psn psr
  intro cl C s₀ H₀ ex
  refine clause_enumP (xs := ps.map V.str) (fun i σ' H' => (∃ v1 v2, σ' = [some (.ref R), none, none, none, none, none, none, none, none] ++ [v1, v2]) ∧ Same H2 H' ∧ ∃ kvs : List (Key × V), H' D = some (.dK kvs) ∧ kvs.map (·.1) = (ps.take i).map Sum.inr ∧ (∀ (k : Nat) p, k < i → ps[k]? = some p → valV kvs (Sum.inr p) = some (.int (k : Int))) ∧ ∀ p, p ∉ ps.take i → valV kvs (Sum.inr p) = none)
    ⟨⟨none, none, rfl⟩, same_new hD _, [], upd_same, rfl, fun k p h => absurd h (Nat.not_lt_zero _), fun p _ => rfl⟩ ?_ ?_ ?_
  · rintro i σ' H' _ ⟨_, sm, _⟩
    exact SqL.of (sm _ _ ep)
  · rintro i x Tt σ' H' hx ⟨⟨v1, v2, rfl⟩, sm, kvs, eD, hk, hv, hno⟩ hTt
    rw [List.getElem?_map, Option.map_eq_some_iff] at hx
    obtain ⟨p, hp, rfl⟩ := hx
    have hil := (List.getElem?_eq_some_iff.mp hp).1
    have sT := same_new hTt (.tup [.int (i : Int), .str p])
    have kl : kvs.length = i := by
      have := congrArg List.length hk
      rw [List.length_map, List.length_map, List.length_take] at this
      omega
    have npt : p ∉ ps.take i := fun hm => by
      obtain ⟨k, hkk⟩ := List.getElem?_of_mem hm
      have hkl := (List.getElem?_eq_some_iff.mp hkk).1
      rw [List.length_take] at hkl
      rw [List.getElem?_take_of_lt (by omega)] at hkk
      have := nodup_ix psn hkk hp
      omega
    refine eg_pair rfl (SqT.of upd_same) (eg_name 9 nd_tt1 (eg_name 10 nd_tt1 ?_))
    refine ei_nil (iteT (ein_emitD (X := cxComp _ NTt1 _ cl C s₀ H₀ ex) hu (ev_v 10 (ev_v 9 ⟨_, DPut.k (k := Sum.inr p) (sT _ _ eD) (small' (by omega)), ⟨_, _, rfl⟩, same_mut (sm.trans sT) hD, _, upd_same, ?_, fun k r h1 h2 => ?_, fun r hr' => ?_⟩))))
    · rw [keysP, hk, if_neg (fun hm => ?_), List.take_add_one, hp, List.map_append]
      · rfl
      · obtain ⟨y, hy, e⟩ := List.mem_map.mp hm
        cases e
        exact npt hy
    · rw [valV_put]
      by_cases e : (Sum.inr r : Key) = Sum.inr p
      · rw [if_pos e]
        cases e
        rw [nodup_ix psn h2 hp]
      · rw [if_neg e]
        refine hv k r ?_ h2
        refine Nat.lt_of_le_of_ne (by omega) fun z => e ?_
        rw [z, hp] at h2
        cases h2
        rfl
    · rw [valV_put, if_neg (fun e => ?_)]
      · exact hno r fun hm => hr' (by rw [List.take_add_one]; exact List.mem_append_left _ hm)
      · cases e
        exact hr' (by rw [List.take_add_one, hp]; exact List.mem_append_right _ (List.mem_singleton.mpr rfl))
  rintro σ' H3 ⟨_, sm3, kvs, eD, hk, hv, hno⟩
  rw [List.length_map, List.take_length] at hk hno
  rw [List.length_map] at hv
  have kl : kvs.length = n.length - 1 := by
    have := congrArg List.length hk
    rw [List.length_map, List.length_map] at this
    omega
  have sH3 := sp.trans sm3
  have hD0 : H D = none := free_back sp hD
  show Run _ _ _ [some (.ref R), some (.ref D), none, none, none, none, none, none, none] H3
  refine run_setC 2 (defScope s_tie_table) NTt NTt2 1 nd (pi_dict pe_ev) (ev_v 1 ⟨D, kvs, rfl, eD, fun o tb htb => ?_⟩)
  have ef : (upd H3 D (.frz o (.dK kvs))) D = some (.frz o (.dK kvs)) := upd_same
  have sF : Same H (upd H3 D (.frz o (.dK kvs))) := same_mut sH3 hD0
  generalize upd H3 D (.frz o (.dK kvs)) = H4 at ef sF htb ⊢
  refine comp_dictP (o := o) (kvs := kvs) (fun i σ' H' => (∃ v, σ' = [some (.ref R), some (.ref D), none, none, none, none, none, none, none] ++ [v]) ∧ Same H4 H' ∧ ∃ ts : List Addr, ts.length = i ∧ H' tb = some (.lst (ts.map V.ref)) ∧ (∀ a ∈ ts, H' a = some (.lst ((List.replicate (n.length - 1) (0 : Int)).map V.int)) ∧ H4 a = none ∧ a ≠ tb) ∧ ts.Nodup) ⟨⟨none, rfl⟩, same_new htb _, [], rfl, upd_same, fun a h => (nomatch h), List.nodup_nil⟩ ?_ ?_ ?_
  · rintro i σ' H' _ ⟨_, sm, _⟩
    exact sm _ _ ef
  · rintro i pr σ' H' hpr ⟨⟨v, rfl⟩, sm, ts, hl, eT, hts, hnd⟩
    have hil := (List.getElem?_eq_some_iff.mp hpr).1
    intro cl C s₀ H₀ ex
    refine eg_name 9 nd_tt2 ?_
    intro cl C s₀ H₀ ex
    refine ei_nil (iteT ?_)
    intro cl C s₀ H₀ ex
    refine ev_comp scTtI NTt2 NTt3 1 (pi_dictF pe_ev) (ev_v 1 ⟨D, o, kvs, rfl, sm _ _ ef, fun D2 hD2 => ?_⟩)
    refine comp_dictP (o := o) (kvs := kvs) (fun j σ' H'' => (∃ v, σ' = [some (.ref R), some (.ref D), none, none, none, none, none, none, none, some (kV pr.1)] ++ [v]) ∧ Same H' H'' ∧ H'' D2 = some (.lst ((List.replicate j (0 : Int)).map V.int))) ⟨⟨none, rfl⟩, same_new hD2 _, upd_same⟩ ?_ ?_ ?_
    · rintro j σ' H'' _ ⟨_, sn, _⟩
      exact sn _ _ (sm _ _ ef)
    · rintro j pj σ' H'' hpj ⟨⟨v, rfl⟩, sn, eD2⟩
      have hjl := (List.getElem?_eq_some_iff.mp hpj).1
      intro cl C s₀ H₀ ex
      refine eg_name 10 nd_tt3 ?_
      intro cl C s₀ H₀ ex
      refine ei_nil (iteT ?_)
      intro cl C s₀ H₀ ex
      refine ev_int ⟨_, eD2, ?_, ⟨_, rfl⟩, same_mut sn hD2, ?_⟩
      · rw [List.length_map, List.length_replicate]
        exact small' (by omega)
      · rw [upd_same, List.replicate_succ', List.map_append]
        rfl
    · rintro σ' H'' ⟨_, sn, eD2⟩
      rw [kl] at eD2
      have n2 : D2 ≠ tb := fun e => by rw [e, eT] at hD2; cases hD2
      refine ⟨_, sn _ _ eT, ?_, ⟨_, rfl⟩, same_mut (sm.trans sn) htb, ts ++ [D2], by rw [List.length_append, hl]; rfl, by rw [upd_same, List.map_append]; rfl, fun a ha => ?_, nd_snoc hnd fun hm => ?_⟩
      · rw [List.length_map]
        exact small' (by omega)
      · rcases List.mem_append.mp ha with ha | ha
        · obtain ⟨h1, h2, h3⟩ := hts a ha
          exact ⟨by rw [upd_ne h3]; exact sn _ _ h1, h2, h3⟩
        · rw [List.mem_singleton.mp ha]
          exact ⟨by rw [upd_ne n2]; exact eD2, free_back sm hD2, n2⟩
      · have := (hts D2 hm).1
        rw [hD2] at this
        cases this
  rintro σ' H5 ⟨_, sm5, ts, hl, eT, hts, hnd⟩
  have hl : ts.length = n.length - 1 := by omega
  have tb0 : H tb = none := free_back sF htb
  have T0 : TabAt H5 tb ts (tab (n.length - 1) fun _ _ => 0) := by
    refine ⟨by unfold tab; rw [List.length_map, List.length_range]; exact hl, eT, fun i a r h1 h2 => ?_, hnd⟩
    have il := (List.getElem?_eq_some_iff.mp h1).1
    rw [tab_row (by omega)] at h2
    cases h2
    rw [(hts a (List.mem_of_getElem? h1)).1]
    congr 2
    congr 1
    refine List.ext_getElem? fun k => ?_
    by_cases hk : k < n.length - 1
    · rw [row_at hk, List.getElem?_replicate, if_pos hk]
    · rw [List.getElem?_eq_none (by rw [List.length_replicate]; omega), List.getElem?_eq_none (by rw [List.length_map, List.length_range]; omega)]
  have ef5 := sm5 _ _ ef
  have fr : ∀ a ∈ ts, H a = none := fun a ha => free_back sF (hts a ha).2.1
  have sH5 := sF.trans sm5
  have nDt : D ∉ ts := fun hm => by
    have := (hts D hm).2.1
    rw [ef] at this
    cases this
  show Run _ _ _ [some (.ref R), some (.ref D), some (.ref tb), none, none, none, none, none, none] H5
  refine run_forL (ev_has GL hr (ea_cons (ev_v 0 (ea_nil ⟨R, as, n, rfl, hR.same sH5, hT, by omega, by omega, fun L us ls H6 s6 n6 eL hat so mem l60 => ⟨L, rfl, ⟨_, SqL.of eL⟩, ?_⟩⟩))))
  have T6 := T0.same s6
  have ef6 := s6 _ _ ef5
  have sH6 := sH5.trans s6
  have nLt : L ∉ ts := fun hm => by
    obtain ⟨i, hi⟩ := List.getElem?_of_mem hm
    have il := (List.getElem?_eq_some_iff.mp hi).1
    have := T0.row i L _ hi (tab_row (by omega))
    rw [n6] at this
    cases this
  have lkn : ∀ x ∈ ls, (rn n x.2.1 < n.length ∧ (n.map (·.1))[rn n x.2.1]? = some x.2.1) ∧ (rn n x.2.2 < n.length ∧ (n.map (·.1))[rn n x.2.2]? = some x.2.2) := fun x hx => link_rows hT hN ((mem x).mp hx)
  have plc : ∀ {p : Str} {r : Nat}, (n.map (·.1))[r]? = some p → valV kvs (Sum.inr p) = if r = 0 then none else some (.int ((r - 1 : Nat) : Int)) := fun {p r} h => by
    by_cases e : r = 0
    · rw [if_pos e]
      refine hno p fun hm => ?_
      obtain ⟨k, hkk⟩ := List.getElem?_of_mem hm
      have := nodup_ix hN ((psr k p).mp hkk) h
      omega
    · rw [if_neg e]
      have hr1 : ps[r - 1]? = some p := (psr (r - 1) p).mpr (by rw [show r - 1 + 1 = r by omega]; exact h)
      exact hv (r - 1) p (List.getElem?_eq_some_iff.mp hr1).1 hr1
  refine loop_list (xs := us.map V.ref) (fun k σ' H' => (∃ v3 v4 v5 v6 v7 v8, σ' = [some (.ref R), some (.ref D), some (.ref tb), v3, v4, v5, v6, v7, v8]) ∧ SameT ts H6 H' ∧ TabAt H' tb ts (tab (n.length - 1) fun i j => Dt.Lp ((lkE n (ls.take k)).map Dt.ed) (i + 1) (j + 1))) ⟨⟨_, _, _, _, _, _, rfl⟩, fun b o _ h => h, T6⟩ ?_ ?_ ?_
  · rintro k σ' H' _ ⟨_, sm, _⟩
    exact SqL.of (sm _ _ nLt eL)
  · rintro k x σ' H7 hx ⟨⟨v3, v4, v5, v6, v7, v8, rfl⟩, sm7, T7⟩
    rw [List.getElem?_map, Option.map_eq_some_iff] at hx
    obtain ⟨u, hu1, rfl⟩ := hx
    have hj : k < ls.length := by
      have := (List.getElem?_eq_some_iff.mp hu1).1
      have := hat.1
      omega
    have hlj : ls[k]? = some ls[k] := List.getElem?_eq_getElem hj
    have hup := hat.2 k u _ hu1 hlj
    have mx : ls[k] ∈ ls := List.getElem_mem hj
    obtain ⟨⟨a1, a2⟩, b1, b2⟩ := lkn _ mx
    have tk : lkE n (ls.take (k + 1)) = lkE n (ls.take k) ++ [(rn n ls[k].2.1, rn n ls[k].2.2)] := by
      unfold lkE
      rw [List.take_add_one, hlj, List.map_append]
      rfl
    rw [tk]
    generalize ls[k] = lx at hup a1 a2 b1 b2
    obtain ⟨z, on, tw⟩ := lx
    have a2 : (n.map (·.1))[rn n on]? = some on := a2
    have b2 : (n.map (·.1))[rn n tw]? = some tw := b2
    have a1 : rn n on < n.length := a1
    have b1 : rn n tw < n.length := b1
    show Eg _ _ _ _ _ _
    have nut : u ∉ ts := fun hm => by
      obtain ⟨i, hi⟩ := List.getElem?_of_mem hm
      have il := (List.getElem?_eq_some_iff.mp hi).1
      have := T6.row i u _ hi (tab_row (by omega))
      rw [hup] at this
      cases this
    refine eg_triple rfl (SqT.of (sm7 _ _ nut hup)) (eg_name 3 nd (eg_name 4 nd (eg_name 5 nd ?_)))
    show Run _ _ _ [some (.ref R), some (.ref D), some (.ref tb), some (.str z), some (.str on), some (.str tw), v6, v7, v8] H7
    refine run_forT (ev_tup (ea_cons (ev_tup (ea_cons (ev_v 4 (ea_cons (ev_v 5 (ea_nil ⟨(by show 2 ≤ sizeLine; decide), fun t1 ht1 => ?_⟩))))))))
    refine ea_cons (ev_tup (ea_cons (ev_v 5 (ea_cons (ev_v 4 (ea_nil ⟨(by show 2 ≤ sizeLine; decide), fun t2 ht2 => ea_nil ⟨(by show 2 ≤ sizeLine; decide), fun tt htt => ?_⟩⟩))))))
    have m1 := same_new ht1 (.tup [.str on, .str tw])
    have m2 := same_new ht2 (.tup [.str tw, .str on])
    have m3 := same_new htt (.tup [.ref t1, .ref t2])
    have e1 := m3 _ _ (m2 _ _ (upd_same (H := H7) (a := t1) (o := .tup [.str on, .str tw])))
    have e2 := m3 _ _ (upd_same (H := upd H7 t1 (.tup [.str on, .str tw])) (a := t2) (o := .tup [.str tw, .str on]))
    have e3 := upd_same (H := upd (upd H7 t1 (.tup [.str on, .str tw])) t2 (.tup [.str tw, .str on])) (a := tt) (o := .tup [.ref t1, .ref t2])
    have m := m1.trans (m2.trans m3)
    refine ⟨tt, rfl, ⟨_, SqT.of e3⟩, ?_⟩
    generalize upd (upd (upd H7 t1 (.tup [.str on, .str tw])) t2 (.tup [.str tw, .str on])) tt (.tup [.ref t1, .ref t2]) = H8 at e1 e2 e3 m
    have T8 := T7.same m
    have sm8 : SameT ts H6 H8 := fun b o nb h => m _ _ (sm7 b o nb h)
    have ntp : ∀ (t : Addr) (xs : List V), H8 t = some (.tup xs) → t ∉ ts := fun t xs ht hm => by
      obtain ⟨i, hi⟩ := List.getElem?_of_mem hm
      have il := (List.getElem?_eq_some_iff.mp hi).1
      have := T8.row i t _ hi (tab_row (by omega))
      rw [ht] at this
      cases this
    have ef8 := sm8 _ _ nDt ef6
    refine loop_tup (xs := [.ref t1, .ref t2]) (fun i σ' H' => (∃ v6 v7 v8, σ' = [some (.ref R), some (.ref D), some (.ref tb), some (.str z), some (.str on), some (.str tw), v6, v7, v8]) ∧ SameT ts H8 H' ∧ TabAt H' tb ts (tab (n.length - 1) fun x j => Dt.Lp ((lkE n (ls.take k)).map Dt.ed) (x + 1) (j + 1) + (if 0 < i then Dt.hl (rn n on) (rn n tw) (x + 1) (j + 1) else 0) + (if 1 < i then Dt.hl (rn n tw) (rn n on) (x + 1) (j + 1) else 0)))
      ⟨⟨_, _, _, rfl⟩, fun b o _ h => h, ?_⟩ ?_ ?_ ?_
    · have : (fun x j => Dt.Lp ((lkE n (ls.take k)).map Dt.ed) (x + 1) (j + 1) + (if 0 < 0 then Dt.hl (rn n on) (rn n tw) (x + 1) (j + 1) else 0) + (if 1 < 0 then Dt.hl (rn n tw) (rn n on) (x + 1) (j + 1) else 0)) = fun x j => Dt.Lp ((lkE n (ls.take k)).map Dt.ed) (x + 1) (j + 1) := by
        funext x j
        rw [if_neg (Nat.lt_irrefl 0), if_neg (by decide)]
        omega
      rw [this]
      exact T8
    · rintro i σ' H' _ ⟨_, sn, _⟩
      exact SqT.of (sn _ _ (ntp _ _ e3) e3)
    · rintro i x σ' H9 hx ⟨⟨v6, v7, v8, rfl⟩, sn, T9⟩
      obtain ⟨st, gl, t, rfl, et, hst, hgl, hnext⟩ : ∃ st gl t, x = .ref t ∧ H8 t = some (.tup [.str st, .str gl]) ∧ (n.map (·.1))[rn n st]? = some st ∧ (n.map (·.1))[rn n gl]? = some gl ∧ ∀ y j : Nat, (if 0 < i then Dt.hl (rn n on) (rn n tw) (y + 1) (j + 1) else 0) + (if 1 < i then Dt.hl (rn n tw) (rn n on) (y + 1) (j + 1) else 0) + Dt.hl (rn n st) (rn n gl) (y + 1) (j + 1) = (if 0 < i + 1 then Dt.hl (rn n on) (rn n tw) (y + 1) (j + 1) else 0) + (if 1 < i + 1 then Dt.hl (rn n tw) (rn n on) (y + 1) (j + 1) else 0) := by
        match i with
        | 0 =>
          cases hx
          exact ⟨on, tw, t1, rfl, e1, a2, b2, fun y j => by simp⟩
        | 1 =>
          cases hx
          exact ⟨tw, on, t2, rfl, e2, b2, a2, fun y j => by simp⟩
        | i + 2 => simp at hx
      have fin : ∀ {F : Nat → Nat → Int} {G : Nat → Nat → Int}, (∀ y j, G y j = F y j + Dt.hl (rn n st) (rn n gl) (y + 1) (j + 1)) → (∀ y j, F y j = Dt.Lp ((lkE n (ls.take k)).map Dt.ed) (y + 1) (j + 1) + (if 0 < i then Dt.hl (rn n on) (rn n tw) (y + 1) (j + 1) else 0) + (if 1 < i then Dt.hl (rn n tw) (rn n on) (y + 1) (j + 1) else 0)) →
          G = fun y j => Dt.Lp ((lkE n (ls.take k)).map Dt.ed) (y + 1) (j + 1) + (if 0 < i + 1 then Dt.hl (rn n on) (rn n tw) (y + 1) (j + 1) else 0) + (if 1 < i + 1 then Dt.hl (rn n tw) (rn n on) (y + 1) (j + 1) else 0) := fun {F G} h1 h2 => by
        funext y j
        have := hnext y j
        rw [h1, h2]
        omega
      generalize hF : (fun x j => Dt.Lp ((lkE n (ls.take k)).map Dt.ed) (x + 1) (j + 1) + (if 0 < i then Dt.hl (rn n on) (rn n tw) (x + 1) (j + 1) else 0) + (if 1 < i then Dt.hl (rn n tw) (rn n on) (x + 1) (j + 1) else 0)) = F at T9
      have hF' : ∀ y j, F y j = Dt.Lp ((lkE n (ls.take k)).map Dt.ed) (y + 1) (j + 1) + (if 0 < i then Dt.hl (rn n on) (rn n tw) (y + 1) (j + 1) else 0) + (if 1 < i then Dt.hl (rn n tw) (rn n on) (y + 1) (j + 1) else 0) := fun y j => by rw [← hF]
      have skip : (∀ y j, Dt.hl (rn n st) (rn n gl) (y + 1) (j + 1) = 0) → TabAt H9 tb ts (tab (n.length - 1) fun x j => Dt.Lp ((lkE n (ls.take k)).map Dt.ed) (x + 1) (j + 1) + (if 0 < i + 1 then Dt.hl (rn n on) (rn n tw) (x + 1) (j + 1) else 0) + (if 1 < i + 1 then Dt.hl (rn n tw) (rn n on) (x + 1) (j + 1) else 0)) := fun h => by
        rw [← fin (G := F) (fun y j => by rw [h]; omega) hF']
        exact T9
      have ef9 := sn _ _ nDt ef8
      refine eg_pair rfl (SqT.of (sn _ _ (ntp _ _ et) et)) (eg_name 6 nd (eg_name 7 nd ?_))
      show Run _ _ _ [some (.ref R), some (.ref D), some (.ref tb), some (.str z), some (.str on), some (.str tw), some (.str st), some (.str gl), v8] H9
      refine run_if (et_bool (ew_and (et_cmp op_ne (ev_v 6 (ev_v 7 ⟨rfl, _, rfl, ?_⟩)))))
      by_cases hsg : st = gl
      · subst hsg
        rw [show (!decide (V.str st = V.str st)) = false by simp]
        refine iteF (iteF (run_nil (run_nil ⟨⟨_, _, _, rfl⟩, sn, skip fun y j => ?_⟩)))
        unfold Dt.hl
        rw [if_pos rfl]
      rw [show (!decide (V.str st = V.str gl)) = true by simp [hsg]]
      have nrg : rn n st ≠ rn n gl := fun e => by
        rw [e, hgl] at hst
        exact hsg (Option.some.inj hst).symm
      refine iteT (ew_and1 (et_din hu (ev_v 6 (ev_v 1 ⟨D, _, rfl, .inl ⟨kvs, Sum.inr st, .inr ⟨o, ef9⟩, rfl, rfl⟩, ?_⟩))))
      rw [plc hst]
      by_cases r0 : rn n st = 0
      · rw [if_pos r0]
        refine iteF (run_nil (run_nil ⟨⟨_, _, _, rfl⟩, sn, skip fun y j => ?_⟩))
        unfold Dt.hl
        rw [r0, if_neg (by rw [← r0]; exact nrg), if_neg (by omega)]
      rw [if_neg r0]
      refine iteT ?_
      have rl : rn n st < n.length := by
        have := (List.getElem?_eq_some_iff.mp hst).1
        rw [List.length_map] at this
        exact this
      obtain ⟨a0, hr0⟩ : ∃ a0, rn n st = a0 + 1 := ⟨rn n st - 1, by omega⟩
      rw [hr0] at hst r0 rl nrg fin
      have pst : valV kvs (Sum.inr st) = some (.int (a0 : Int)) := by rw [plc hst, if_neg (by omega)]; rfl
      have al : a0 < n.length - 1 := by omega
      obtain ⟨la, hla⟩ : ∃ la, ts[a0]? = some la := ⟨_, List.getElem?_eq_getElem (by omega)⟩
      have mla := List.mem_of_getElem? hla
      have erow := T9.row a0 la _ hla (tab_row al)
      refine run_set 8 nd (ev_ix ix_list (ev_v 2 (ev_dget hu (ev_v 1 (ev_v 6 ⟨D, _, rfl, .inl ⟨kvs, Sum.inr st, .inr ⟨o, ef9⟩, rfl, pst.symm⟩, tb, _, _, .ref la, rfl, rfl, SqL.of T9.lst, tb_refs hla, ?_⟩)))))
      show Run _ _ _ [some (.ref R), some (.ref D), some (.ref tb), some (.str z), some (.str on), some (.str tw), some (.str st), some (.str gl), some (.ref la)] H9
      refine run_augL ip_add (ev_v 8 (ev_dget hu (ev_v 1 (ev_v 6 ⟨D, _, rfl, .inl ⟨kvs, Sum.inr st, .inr ⟨o, ef9⟩, rfl, pst.symm⟩, la, _, _, .int (F a0 a0), rfl, rfl, SqL.of erow, at_int (row_at al), ev_int ⟨_, _, rfl, rfl, la, _, _, a0, rfl, rfl, erow, ix_nat (by rw [List.length_map, List.length_map, List.length_range]; exact al), ?_⟩⟩))))
      have nla : ∀ b, b ∉ ts → b ≠ la := fun b hb e => hb (e ▸ mla)
      have T10 := T9.put hla (((List.range (n.length - 1)).map (F a0)).set a0 (F a0 a0 + 1))
      have er10 : upd H9 la (.lst ((((List.range (n.length - 1)).map (F a0)).map V.int).set a0 (.int (F a0 a0 + 1)))) = upd H9 la (.lst ((((List.range (n.length - 1)).map (F a0)).set a0 (F a0 a0 + 1)).map V.int)) := by rw [List.map_set]
      rw [er10]
      rw [row_set al] at T10 ⊢
      have s10 : SameT ts H8 (upd H9 la (.lst (((List.range (n.length - 1)).map fun j => if j = a0 then F a0 a0 + 1 else F a0 j).map V.int))) := fun b o' nb h => by rw [upd_ne (nla b nb)]; exact sn b o' nb h
      have e10 : (upd H9 la (.lst (((List.range (n.length - 1)).map fun j => if j = a0 then F a0 a0 + 1 else F a0 j).map V.int))) la = some (.lst (((List.range (n.length - 1)).map fun j => if j = a0 then F a0 a0 + 1 else F a0 j).map V.int)) := upd_same
      generalize upd H9 la (.lst (((List.range (n.length - 1)).map fun j => if j = a0 then F a0 a0 + 1 else F a0 j).map V.int)) = H10 at T10 s10 e10 ⊢
      have ef10 := s10 _ _ nDt ef8
      refine run_if (et_din hu (ev_v 7 (ev_v 1 ⟨D, _, rfl, .inl ⟨kvs, Sum.inr gl, .inr ⟨o, ef10⟩, rfl, rfl⟩, ?_⟩)))
      rw [plc hgl]
      by_cases g0 : rn n gl = 0
      · rw [if_pos g0]
        refine iteF (run_nil (run_nil (run_nil ⟨⟨_, _, _, rfl⟩, s10, ?_⟩)))
        rw [← fin (F := F) (G := fun y j => if y = a0 then (if j = a0 then F a0 a0 + 1 else F a0 j) else F y j) (fun y j => ?_) hF', ← tab_set (F := F) al (fun k hk j => if_neg hk)]
        · simp only [if_true]
          exact T10
        · rw [g0]
          exact Dt.hl_add0 F a0 y j
      rw [if_neg g0]
      refine iteT ?_
      have gll : rn n gl < n.length := by
        have := (List.getElem?_eq_some_iff.mp hgl).1
        rw [List.length_map] at this
        exact this
      obtain ⟨c0, hc0⟩ : ∃ c0, rn n gl = c0 + 1 := ⟨rn n gl - 1, by omega⟩
      rw [hc0] at hgl g0 gll nrg fin
      have pgl : valV kvs (Sum.inr gl) = some (.int (c0 : Int)) := by rw [plc hgl, if_neg (by omega)]; rfl
      have cl0 : c0 < n.length - 1 := by omega
      have nca : c0 ≠ a0 := fun e => nrg (by rw [e])
      refine run_augL ip_sub (ev_v 8 (ev_dget hu (ev_v 1 (ev_v 7 ⟨D, _, rfl, .inl ⟨kvs, Sum.inr gl, .inr ⟨o, ef10⟩, rfl, pgl.symm⟩, la, _, _, .int (F a0 c0), rfl, rfl, SqL.of e10, at_int (by rw [row_at cl0, if_neg nca]), ev_int ⟨_, _, rfl, rfl, la, _, _, c0, rfl, rfl, e10, ix_nat (by rw [List.length_map, List.length_map, List.length_range]; exact cl0), ?_⟩⟩))))
      have T11 := T10.put hla (((List.range (n.length - 1)).map fun j => if j = a0 then F a0 a0 + 1 else F a0 j).set c0 (F a0 c0 - 1))
      rw [show upd H10 la (.lst ((((List.range (n.length - 1)).map fun j => if j = a0 then F a0 a0 + 1 else F a0 j).map V.int).set c0 (.int (F a0 c0 - 1)))) = upd H10 la (.lst ((((List.range (n.length - 1)).map fun j => if j = a0 then F a0 a0 + 1 else F a0 j).set c0 (F a0 c0 - 1)).map V.int)) by rw [List.map_set]]
      refine run_nil (run_nil (run_nil ⟨⟨_, _, _, rfl⟩, fun b o' nb h => by rw [upd_ne (nla b nb)]; exact s10 b o' nb h, ?_⟩))
      rw [List.set_set, row_set cl0] at T11
      rw [row_set cl0]
      rw [← fin (F := F) (G := fun y j => if y = a0 then (if j = c0 then F a0 c0 - 1 else if j = a0 then F a0 a0 + 1 else F a0 j) else F y j) (fun y j => ?_) hF', ← tab_set (F := F) al (fun k hk j => if_neg hk)]
      · simp only [if_true]
        exact T11
      · exact Dt.hl_add2 F nca y j
    · rintro σ' H9 ⟨⟨v6, v7, v8, rfl⟩, sn, T9⟩
      refine run_nil ⟨⟨_, _, _, _, _, _, rfl⟩, fun b o' nb h => sn b o' nb (sm8 b o' nb h), ?_⟩
      have : (fun i j => Dt.Lp ((lkE n (ls.take k) ++ [(rn n on, rn n tw)]).map Dt.ed) (i + 1) (j + 1)) = fun x j => Dt.Lp ((lkE n (ls.take k)).map Dt.ed) (x + 1) (j + 1) + (if 0 < [V.ref t1, V.ref t2].length then Dt.hl (rn n on) (rn n tw) (x + 1) (j + 1) else 0) + (if 1 < [V.ref t1, V.ref t2].length then Dt.hl (rn n tw) (rn n on) (x + 1) (j + 1) else 0) := by
        funext x j
        rw [if_pos (by show 0 < 2; decide), if_pos (by show 1 < 2; decide), Int.add_assoc, ← Dt.hl_two, List.map_append]
        unfold Dt.Lp
        rw [List.map_append, List.sum_append]
        show _ + (Dt.ed _ _ * Dt.ed _ _ + 0) = _
        omega
      show TabAt _ _ _ (tab _ fun i j => Dt.Lp ((lkE n (ls.take k) ++ [(rn n on, rn n tw)]).map Dt.ed) (i + 1) (j + 1))
      rw [this]
      exact T9
  · rintro σ' H7 ⟨⟨v3, v4, v5, v6, v7, v8, rfl⟩, sm7, T7⟩
    rw [List.length_map, hat.1, List.take_length] at T7
    exact run_ret (ev_v 2 (q tb ts ls H7 (fun b o' h => sm7 b o' (fun hm => by rw [fr b hm] at h; cases h) (sH6 _ _ h)) T7 so mem))
noncomputable abbrev NTc : List Str := ["rows"]
theorem scTc : FnScope NTc ["rows"] (defScope s_tree_count) := ⟨rfl, rfl, rfl, by decide +kernel, rfl, by decide +kernel, by decide +kernel⟩
theorem ok_cnt {f : Addr} {fd : FuncData} (F : Fun K "tree_count" "tree_count" s_tree_count f fd) (T : Txt mg) (GT : Has P w K mg base 2 "tie_table" ["rows"] spTab) (GD : Has P w K mg base 2 "determinant" ["table"] spDet) : FnOk P w K mg base CX0 3 f fd ["rows"] spCount := by
  refine F.gb scTc (fun vs H Q E h => ?_) (fun b0 H vs Q E hr h => ?_)
  · obtain ⟨R, as, n, rfl, _⟩ := h
    rfl
  obtain ⟨R, as, n, rfl, hR, hT, hN, h0, hn, hti, hg, q⟩ := h
  show Run _ _ _ [some (.ref R)] H
  refine run_ret (ev_has GD hr (ea_cons (ev_has GT hr (ea_cons (ev_v 0 (ea_nil ⟨R, as, n, rfl, hR, hT, hN, h0, hn, by omega, fun tb ts ls H1 s1 hTb so mem => ?_⟩))))))
  have cnd : ((List.range (n.length - 1)).map (· + 1)).Nodup := range1_nodup _
  refine ea_nil ⟨tb, ts, Dt.Lp ((lkE n ls).map Dt.ed), (List.range (n.length - 1)).map (· + 1), rfl, ?_, Dt.fine_of cnd (by unfold lkE; rw [List.length_map]; have := links_len hT so mem; omega) (esc_all hT hN hg h0 mem), by rw [List.length_map, List.length_range]; omega, fun H2 s2 => ?_⟩
  · rw [List.map_map]
    have e : tab (n.length - 1) (fun i j => Dt.Lp ((lkE n ls).map Dt.ed) (i + 1) (j + 1)) = (List.range (n.length - 1)).map ((fun i => ((List.range (n.length - 1)).map (· + 1)).map (Dt.Lp ((lkE n ls).map Dt.ed) i)) ∘ (· + 1)) := by
      unfold tab
      refine List.map_congr_left fun i _ => ?_
      show _ = ((List.range (n.length - 1)).map (· + 1)).map (Dt.Lp ((lkE n ls).map Dt.ed) (i + 1))
      rw [List.map_map]
      rfl
    rw [← e]
    exact hTb
  · have e : Dt.mm (Dt.Lp ((lkE n ls).map Dt.ed)) ((List.range (n.length - 1)).map (· + 1)).reverse = Dt.De ((List.range (n.length - 1)).map (· + 1)) (lkE n ls) := Dt.mm_perm _ (List.reverse_perm _).symm
    rw [e]
    exact q ls H2 (s1.trans s2) so mem
end
end V2
namespace Dt
end Dt
namespace Nt
open PySem L2
noncomputable def prE (n : Net) (z : Str) : Nat × Nat := match pos n z with
  | [a, b] => (a.1, b.1)
  | _ => (0, 0)
theorem prE_eq {n : Net} {z : Str} {a b : End} (h : pos n z = [a, b]) : prE n z = (a.1, b.1) := by
  unfold prE
  rw [h]
theorem tie_pos {n : Net} (T : Twice n) {z : Str} (h : z ∈ ties n) : ∃ a b, pos n z = [a, b] := by
  have := pos_len n z
  rw [T z h] at this
  match hp : pos n z, this with
  | [a, b], _ => exact ⟨a, b, rfl⟩
theorem pr_lt {n : Net} (T : Twice n) {z : Str} (h : z ∈ ties n) : (prE n z).1 < n.length ∧ (prE n z).2 < n.length := by
  obtain ⟨a, b, hp⟩ := tie_pos T h
  rw [prE_eq hp]
  exact ⟨(pos_row (n := n) (z := z) (e := a) (by rw [hp]; simp)).1, (pos_row (n := n) (z := z) (e := b) (by rw [hp]; simp)).1⟩
theorem lk_pr {n : Net} (T : Twice n) (hN : (n.map (·.1)).Nodup) {ls : List Lk} (so : ls.Pairwise fun x y => x.1.cps.toList < y.1.cps.toList) (mem : ∀ x, x ∈ ls ↔ IsLink n x) {ss : List Str} (hs : Srt ss) (hm : ∀ z, z ∈ ss ↔ z ∈ ties n) : lkE n ls = ss.map (prE n) := by
  have e : ls.map (·.1) = ss := by
    refine srt_unique (List.Pairwise.map (fun x : Lk => x.1) (R := fun x y : Lk => x.1.cps.toList < y.1.cps.toList) (fun x y h => h) so) hs fun z => ?_
    rw [hm, List.mem_map]
    constructor
    · rintro ⟨x, hx, rfl⟩
      exact link_tie ((mem x).mp hx)
    · intro hz
      obtain ⟨a, b, hp⟩ := tie_pos T hz
      exact ⟨(z, nmA n a.1, nmA n b.1), (mem _).mpr ⟨a, b, hp, rfl, rfl⟩, rfl⟩
  rw [← e, List.map_map]
  refine List.map_congr_left fun x hx => ?_
  obtain ⟨a, b, hp, h1, h2⟩ := (mem x).mp hx
  have la := (pos_row (n := n) (z := x.1) (e := a) (by rw [hp]; simp)).1
  have lb := (pos_row (n := n) (z := x.1) (e := b) (by rw [hp]; simp)).1
  show (rn n x.2.1, rn n x.2.2) = prE n x.1
  rw [prE_eq hp, h1, h2, rn_nmA hN la, rn_nmA hN lb]
end Nt
namespace Nt
open PySem L2
section
variable {n : Net} {z : Str} {r k : Nat}
noncomputable def hldK (n : Net) (z : Str) (k : Nat) : List Nat := (List.range k).filter fun r => decide (z ∈ row n r)
noncomputable abbrev hld (n : Net) (z : Str) : List Nat := hldK n z n.length
theorem hldK_succ : hldK n z (k + 1) = hldK n z k ++ (if z ∈ row n k then [k] else []) := by
  unfold hldK
  rw [List.range_succ, List.filter_append]
  congr 1
  by_cases h : z ∈ row n k
  · rw [if_pos h, List.filter_cons, if_pos (decide_eq_true h)]
    rfl
  · rw [if_neg h, List.filter_cons, if_neg (by simpa using h)]
    rfl
theorem hld_mem : r ∈ hldK n z k ↔ r < k ∧ z ∈ row n r := by
  unfold hldK
  rw [List.mem_filter, List.mem_range, decide_eq_true_iff]
theorem hld_nodup : (hldK n z k).Nodup := List.Pairwise.filter _ List.nodup_range
theorem row_is (h : r < n.length) : row n r = n[r].2 := by unfold row; rw [List.getElem?_eq_getElem h]; rfl
theorem ties_k (h : r < n.length) : ties (n.take (r + 1)) = ties (n.take r) ++ row n r := by
  rw [row_is h]
  unfold ties
  rw [List.take_add_one, List.getElem?_eq_getElem h, List.flatMap_append]
  simp
theorem ties_split : ties n = ties (n.take k) ++ ties (n.drop k) := by
  unfold ties
  rw [← List.flatMap_append, List.take_append_drop]
theorem row_in (h : r < n.length) (q : z ∈ row n r) : z ∈ ties n := by
  rw [ties_split (k := r + 1), ties_k h]
  simp [q]
theorem rowLe (h : r < n.length) : (row n r).length ≤ (ties n).length := by
  rw [ties_split (k := r + 1), ties_k h]
  simp only [List.length_append]
  omega
theorem in_row (q : z ∈ ties n) : ∃ r, r < n.length ∧ z ∈ row n r := by
  unfold ties at q
  obtain ⟨x, hx, hz⟩ := List.mem_flatMap.mp q
  obtain ⟨r, hr, e⟩ := List.mem_iff_getElem.mp hx
  exact ⟨r, hr, by rw [row_is hr, e]; exact hz⟩
theorem hld_count : ∀ {k : Nat}, k ≤ n.length → (hldK n z k).length ≤ (ties (n.take k)).count z
  | 0, _ => Nat.zero_le _
  | k + 1, h => by
    have ih := hld_count (k := k) (by omega)
    rw [hldK_succ, ties_k (by omega), List.length_append, List.count_append]
    by_cases c : z ∈ row n k
    · rw [if_pos c]
      have := List.count_pos_iff.mpr c
      show _ + 1 ≤ _
      omega
    · rw [if_neg c]
      show _ + 0 ≤ _
      omega
theorem hld_cases (T : Twice n) (hz : z ∈ ties n) : (∃ r, hld n z = [r]) ∨ ∃ r0 r1, hld n z = [r0, r1] := by
  have h1 : (hldK n z n.length).length ≤ _ := hld_count (Nat.le_refl n.length)
  rw [List.take_length, T z hz] at h1
  obtain ⟨r, hr, q⟩ := in_row hz
  have h2 : r ∈ hld n z := hld_mem.mpr ⟨hr, q⟩
  match h : hld n z, h1, h2 with
  | [], _, h2 => exact nomatch h2
  | [a], _, _ => exact .inl ⟨a, rfl⟩
  | [a, b], _, _ => exact .inr ⟨a, b, rfl⟩
  | a :: b :: c :: l, h1, _ => rw [show hldK n z n.length = _ from h] at h1; simp only [List.length_cons] at h1; omega
structure Two (n : Net) (z : Str) (r0 r1 : Nat) : Prop where
  ne : r0 ≠ r1
  l0 : r0 < n.length
  l1 : r1 < n.length
  m0 : z ∈ row n r0
  m1 : z ∈ row n r1
  only : ∀ r, r < n.length → z ∈ row n r → r = r0 ∨ r = r1
theorem two_of {r0 r1 : Nat} (h : hld n z = [r0, r1]) : Two n z r0 r1 := by
  have nd : (hld n z).Nodup := hld_nodup
  have m0 : r0 ∈ hld n z := by rw [h]; simp
  have m1 : r1 ∈ hld n z := by rw [h]; simp
  have a0 := hld_mem.mp m0
  have a1 := hld_mem.mp m1
  refine ⟨fun e => ?_, a0.1, a1.1, a0.2, a1.2, fun r hr q => ?_⟩
  · rw [h, e] at nd
    simp at nd
  · have : r ∈ hld n z := hld_mem.mpr ⟨hr, q⟩
    rw [h] at this
    simpa using this
noncomputable def ixOf : List Str → Str → Nat
  | [], _ => 0
  | y :: ys, z => if y = z then 0 else ixOf ys z + 1
theorem ixOf_at : ∀ {zs : List Str}, z ∈ zs → zs[ixOf zs z]? = some z ∧ z ∉ zs.take (ixOf zs z)
  | [], h => nomatch h
  | y :: ys, h => by
    unfold ixOf
    by_cases e : y = z
    · rw [if_pos e]
      exact ⟨by rw [e]; rfl, by simp⟩
    · rw [if_neg e]
      obtain ⟨h1, h2⟩ := ixOf_at (zs := ys) (by
        rcases List.mem_cons.mp h with q | q
        · exact absurd q.symm e
        · exact q)
      refine ⟨h1, fun q => ?_⟩
      rw [List.take_succ_cons] at q
      rcases List.mem_cons.mp q with q | q
      · exact e q.symm
      · exact h2 q
noncomputable def joinL (a b : List Str) (z : Str) : List Str := a.take (ixOf a z) ++ (b.drop (ixOf b z + 1) ++ b.take (ixOf b z)) ++ a.drop (ixOf a z + 1)
noncomputable def shrR (n : Net) (z : Str) (r0 r1 r : Nat) : Str × List Str := (nmA n r, if r = r0 then joinL (row n r0) (row n r1) z else row n r)
noncomputable def shrK (n : Net) (z : Str) (r0 r1 k : Nat) : Net := ((List.range k).filter fun r => decide (r ≠ r1)).map (shrR n z r0 r1)
noncomputable abbrev shr (n : Net) (z : Str) (r0 r1 : Nat) : Net := shrK n z r0 r1 n.length
theorem shrK_succ {r0 r1 : Nat} : shrK n z r0 r1 (k + 1) = shrK n z r0 r1 k ++ (if k = r1 then [] else [shrR n z r0 r1 k]) := by
  unfold shrK
  rw [List.range_succ, List.filter_append, List.map_append]
  congr 1
  by_cases h : k = r1
  · rw [if_pos h, List.filter_cons, if_neg (by simpa using h)]
    rfl
  · rw [if_neg h, List.filter_cons, if_pos (decide_eq_true h)]
    rfl
theorem shrK_len {r0 r1 : Nat} : (shrK n z r0 r1 k).length ≤ k := by
  unfold shrK
  rw [List.length_map]
  exact Nat.le_trans (List.length_filter_le ..) (by rw [List.length_range]; exact Nat.le_refl _)
end
structure Bld (H0 H : Hp) (D : Addr) (bs : List (Addr × Addr)) (m : Net) : Prop where
  rows : RowsAt H D bs m
  new : ∀ a ∈ bs, H0 a.1 = none ∧ H0 a.2 = none
  nD : ∀ a ∈ bs, a.1 ≠ D ∧ a.2 ≠ D
theorem Bld.same {H0 H H' : Hp} {D : Addr} {bs : List (Addr × Addr)} {m : Net} (b : Bld H0 H D bs m) (s : Same H H') : Bld H0 H' D bs m := ⟨b.rows.same s, b.new, b.nD⟩
theorem Bld.nil {H0 H : Hp} {D : Addr} (h : H D = some (.lst [])) : Bld H0 H D [] [] := ⟨⟨rfl, h, fun i a r h => (by simp at h), List.nodup_nil⟩, fun a h => (by simp at h), fun a h => (by simp at h)⟩
theorem Bld.in_heap {H0 H : Hp} {D : Addr} {bs : List (Addr × Addr)} {m : Net} (b : Bld H0 H D bs m) {a : Addr × Addr} (h : a ∈ bs) : H a.1 ≠ none ∧ H a.2 ≠ none := by
  obtain ⟨i, hi⟩ := List.getElem?_of_mem h
  have hl := (List.getElem?_eq_some_iff.mp hi).1
  have := b.rows.len
  obtain ⟨q1, q2⟩ := b.rows.tup i a _ hi (List.getElem?_eq_getElem (by omega))
  exact ⟨by rw [q1]; simp, by rw [q2]; simp⟩
theorem Bld.add {H0 H : Hp} {D t l : Addr} {bs : List (Addr × Addr)} {m : Net} {p : Str} {zs : List Str} (b : Bld H0 H D bs m) (hl : H l = some (Ls zs)) (l0 : H0 l = none) (ln : l ∉ bs.map (·.2)) (nl : l ≠ D) (ht : H t = none) (t0 : H0 t = none) :
    Bld H0 (upd (upd H t (.tup [.str p, .ref l])) D (.lst ((bs.map fun a => V.ref a.1) ++ [.ref t]))) D (bs ++ [(t, l)]) (m ++ [(p, zs)]) := by
  have ntD : t ≠ D := fun e => by rw [e, b.rows.lst] at ht; cases ht
  have ntl : t ≠ l := fun e => by rw [e, hl] at ht; cases ht
  have len := b.rows.len
  have keep : ∀ x o, x ≠ D → H x = some o → (upd (upd H t (.tup [.str p, .ref l])) D (.lst ((bs.map fun a => V.ref a.1) ++ [.ref t]))) x = some o := fun x o h1 h2 => by
    rw [upd_ne h1, upd_ne (ne_of_none h2 ht)]
    exact h2
  refine ⟨⟨by rw [List.length_append, List.length_append, len]; rfl, by rw [upd_same, List.map_append]; rfl, fun i a r h1 h2 => ?_, ?_⟩, fun a ha => ?_, fun a ha => ?_⟩
  · by_cases hi : i < bs.length
    · rw [List.getElem?_append_left hi] at h1
      rw [List.getElem?_append_left (by omega)] at h2
      have nn := b.nD a (List.mem_of_getElem? h1)
      obtain ⟨q1, q2⟩ := b.rows.tup i a r h1 h2
      exact ⟨keep _ _ nn.1 q1, keep _ _ nn.2 q2⟩
    · rw [List.getElem?_append_right (by omega)] at h1
      rw [List.getElem?_append_right (by omega)] at h2
      have e : i - bs.length = 0 := by
        have := (List.getElem?_eq_some_iff.mp h1).1
        simp at this
        omega
      rw [e] at h1
      rw [← len, e] at h2
      cases h1
      cases h2
      exact ⟨by rw [upd_ne ntD, upd_same], keep _ _ nl hl⟩
  · rw [List.map_append]
    refine List.nodup_append.mpr ⟨b.rows.inj, by simp, fun x hx y hy e => ?_⟩
    have hy := List.mem_singleton.mp hy
    exact ln (by rw [← show y = l from hy, ← e]; exact hx)
  · rcases List.mem_append.mp ha with h | h
    · exact b.new a h
    · rw [List.mem_singleton.mp h]
      exact ⟨t0, l0⟩
  · rcases List.mem_append.mp ha with h | h
    · exact b.nD a h
    · rw [List.mem_singleton.mp h]
      exact ⟨ntD, nl⟩
end Nt
namespace L2
open PySem Nt
section
variable {X : Cx} {elt tg : Expr} {ifs : List Expr} {scope : Scope} {σ : St} {H : Hp} {N' : List Str} {A : Addr} {after : Hp → Prop}
theorem comp_rng {lo : Int} {n : Nat} (Pv : Nat → St → Hp → Prop) (h0 : Pv 0 σ H)
    (hs : ∀ i σ' H', i < n → Pv i σ' H' → CEg X N' scope tg (.int (lo + i)) σ' H' fun σ2 H3 => CEi X N' scope ifs σ2 H3 fun b H4 =>
      if b = true then CEv X N' scope elt σ2 H4 fun v H5 => ∃ ys, H5 A = some (.lst ys) ∧ ys.length < sizeLine ∧ Pv (i + 1) σ2 (upd H5 A (.lst (ys ++ [v]))) else Pv (i + 1) σ2 H4)
    (hd : ∀ σ' H', Pv n σ' H' → after H') : CompL X N' scope tg ifs elt (Itr lo n) A after σ H := by
  refine ⟨fun i m σ' H' => m = n - i ∧ i ≤ n ∧ Pv i σ' H', ⟨_, rfl, Nat.zero_le _, h0⟩, ?_⟩
  rintro i m σ' H' ⟨rfl, hi, p⟩
  by_cases hlt : i < n
  · refine .inr ⟨hlt, Pv (i + 1), fun σ' H' p' => ⟨n - (i + 1), by omega, rfl, hlt, p'⟩, fun x H2 y => ?_⟩
    obtain ⟨e, y⟩ := y
    subst e y
    exact hs i σ' _ hlt p
  · have e : i = n := by omega
    subst e
    exact .inl ⟨Nat.le_refl _, hd σ' H' p⟩
end
section
variable {X : Cx} {σ : St} {H : Hp} {Q : VK} {o e e1 : Expr} {pos p1 p2 p3 p4 : Pos} {j1 : Nat}
theorem ev_to {a : Addr} {zs : List Str} {i : Nat} (ha : H a = some (Ls zs)) (ho : ∀ R : VK, R (.ref a) H → Ev X o σ H R) (he : ∀ R : VK, R (.int (i : Int)) H → Ev X e σ H R) (h : ∀ p, H p = none → Q (.ref p) (upd H p (Ls (zs.take i)))) : Ev X (.Subscript o (.Slice none (some e) none p2) pos) σ H Q := by
  refine ev_slice sl_list (ho _ (eo_none (eo_some (he _ ⟨_, rfl, a, _, rfl, SqL.of ha, fun p hp => ?_⟩))))
  rw [cut_to]
  exact h p hp
theorem ev_frm {a : Addr} {zs : List Str} {i : Nat} (ha : H a = some (Ls zs)) (ho : ∀ R : VK, R (.ref a) H → Ev X o σ H R) (he : ∀ R : VK, R (.int (i : Int)) H → Ev X e σ H R) (h : ∀ p, H p = none → Q (.ref p) (upd H p (Ls (zs.drop (i + 1))))) : Ev X (.Subscript o (.Slice (some (.BinOp e .Add (.Constant (.int 1) j1 p3) p4)) none none p2) pos) σ H Q := by
  refine ev_slice sl_list (ho _ (eo_some (ev_op op_add (he _ (ev_int ⟨_, _, rfl, rfl, _, rfl, eo_none ⟨a, _, rfl, SqL.of ha, fun p hp => ?_⟩⟩)))))
  rw [show ((i : Int) + 1) = ((i + 1 : Nat) : Int) by omega, cut_from]
  exact h p hp
theorem cat_strs {p q : Addr} {ys zs : List Str} (hp : H p = some (Ls ys)) (hq : H q = some (Ls zs)) (hl : ys.length + zs.length ≤ 100000) (h : ∀ r, H r = none → Q (.ref r) (upd H r (Ls (ys ++ zs)))) : rCat (.ref p) (.ref q) H Q := by
  refine ⟨p, q, _, _, rfl, rfl, hp, hq, ?_, fun r hr => ?_⟩
  · rw [List.length_map, List.length_map, sizeLine_eq]
    omega
  · rw [← List.map_append]
    exact h r hr
theorem ev_index {a : Addr} {zs : List Str} {z : Str} {ap : Pos} (ha : H a = some (Ls zs)) (hz : z ∈ zs) (hl : zs.length ≤ 1000) (ho : ∀ R : VK, R (.ref a) H → Ev X o σ H R) (he : ∀ R : VK, R (.str z) H → Ev X e σ H R) (h : Q (.int (ixOf zs z : Int)) H)
    (hbase : attributeBase o "index" X.env (eval o X.env) = eval o X.env := by rfl)
    (hfew : ((backTo pos (starEach [e] X.env)).all (fun x => !x.1) && (backToKw pos (keywordEach [] X.env)).all (fun x => x.1.isSome) && decide ([e].length + ([] : List Keyword).length + (if ([] : List Keyword).isEmpty then 0 else 1) < 30)) = true := by rfl)
    (hline : (ap.endLine == pos.line) = true := by rfl) (hs : starEach [e] X.env = (false, eval e X.env) :: starEach [] X.env := by rfl) (hplain : (backTo pos (starEach [] X.env)).any (·.1) = false := by rfl) (hst : isStar e = false := by rfl) : Ev X (.Call (.Attribute o "index" ap) [e] [] pos) σ H Q := by
  obtain ⟨h1, h2⟩ := ixOf_at hz
  have h3 := (List.getElem?_eq_some_iff.mp h1).1
  exact ev_m1 PySem.F.plainAttrs_list PySem.F.slot_list_index PySem.F.type_list_index mt_index (ho _ ⟨Or.inl ⟨rfl, _, SqL.of ha⟩, he _ ⟨a, zs, z, ixOf zs z, rfl, rfl, SqL.of ha, h1, h2, by omega, h⟩⟩) hbase hfew hline hs hplain hst
end
end L2
namespace Nt
open PySem L2
open Classical
theorem way_trans {ls : List Bl} {f x y : Str} {b c : Bool} (h : Way ls f x b) (g : Way ls x y c) : ∃ d, Way ls f y d := by
  induction g with
  | here => exact ⟨b, h⟩
  | there _ m ih => obtain ⟨d, hd⟩ := ih; exact ⟨_, .there hd m⟩
  | back _ m ih => obtain ⟨d, hd⟩ := ih; exact ⟨_, .back hd m⟩
theorem way_symm {ls : List Bl} {f x : Str} {b : Bool} (h : Way ls f x b) : ∃ d, Way ls x f d := by
  induction h with
  | here => exact ⟨_, .here⟩
  | there _ m ih => obtain ⟨d, hd⟩ := ih; exact way_trans (.back .here m) hd
  | back _ m ih => obtain ⟨d, hd⟩ := ih; exact way_trans (.there .here m) hd
noncomputable def lkT (n : Net) (T : List Str) : List Bl := ((ends n).filter fun e => decide (∃ z, tieAt n e = some z ∧ z ∈ T)).map fun e => (nmA n e.1, nmA n (other n e).1, false)
theorem lkT_mem {n : Net} {T : List Str} {x y : Str} {o : Bool} : (x, y, o) ∈ lkT n T ↔ ∃ e z, tieAt n e = some z ∧ z ∈ T ∧ x = nmA n e.1 ∧ y = nmA n (other n e).1 ∧ o = false := by
  unfold lkT
  rw [List.mem_map]
  constructor
  · rintro ⟨e, he, q⟩
    obtain ⟨z, hz, ht⟩ := of_decide_eq_true (List.mem_filter.mp he).2
    exact ⟨e, z, hz, ht, (congrArg (·.1) q).symm, (congrArg (·.2.1) q).symm, (congrArg (·.2.2) q).symm⟩
  · rintro ⟨e, z, hz, ht, rfl, rfl, rfl⟩
    exact ⟨e, List.mem_filter.mpr ⟨mem_ends.mpr ⟨z, hz⟩, decide_eq_true ⟨z, hz, ht⟩⟩, rfl⟩
noncomputable def Rt (n : Net) (T : List Str) (x y : Str) : Prop := ∃ b, Way (lkT n T) x y b
theorem Rt.refl (n : Net) (T : List Str) (x : Str) : Rt n T x x := ⟨_, .here⟩
theorem Rt.trans {n : Net} {T : List Str} {x y z : Str} (h : Rt n T x y) (g : Rt n T y z) : Rt n T x z := by
  obtain ⟨_, h⟩ := h
  obtain ⟨_, g⟩ := g
  exact way_trans h g
theorem Rt.symm {n : Net} {T : List Str} {x y : Str} (h : Rt n T x y) : Rt n T y x := by
  obtain ⟨_, h⟩ := h
  exact way_symm h
theorem Rt.step {n : Net} {T : List Str} {e : End} {z : Str} (h : tieAt n e = some z) (hz : z ∈ T) : Rt n T (nmA n e.1) (nmA n (other n e).1) := ⟨_, .there .here (lkT_mem.mpr ⟨e, z, h, hz, rfl, rfl, rfl⟩)⟩
theorem Rt.ind {n : Net} (Tw : Twice n) {T : List Str} {P : Str → Prop} {x y : Str} (h : Rt n T x y) (hx : P x) (hs : ∀ e z, tieAt n e = some z → z ∈ T → P (nmA n e.1) → P (nmA n (other n e).1)) : P y := by
  obtain ⟨b, h⟩ := h
  induction h with
  | here => exact hx
  | there _ m ih =>
    obtain ⟨e, z, he, hz, rfl, rfl, rfl⟩ := lkT_mem.mp m
    exact hs e z he hz ih
  | back _ m ih =>
    obtain ⟨e, z, he, hz, rfl, rfl, rfl⟩ := lkT_mem.mp m
    have o := other_spec Tw he
    have := hs (other n e) z o.1 hz ih
    rw [o.2.1] at this
    exact this
end Nt
namespace Nt
open PySem L2
open Classical
theorem all_lenK {α : Type} [DecidableEq α] {a b : List α} (ha : a.Nodup) (hb : b.Nodup) (hs : ∀ x ∈ a, x ∈ b) : a.length = b.length ↔ ∀ x ∈ b, x ∈ a := by
  constructor
  · intro h x hx
    refine Classical.byContradiction fun hn => ?_
    have := nodup_le (b := b.erase x) ha fun z hz => (List.mem_erase_of_ne (fun e : z = x => hn (e ▸ hz))).mpr (hs z hz)
    rw [List.length_erase_of_mem hx] at this
    have : 0 < b.length := List.length_pos_of_mem hx
    omega
  · intro h
    have h1 := nodup_le ha hs
    have h2 := nodup_le hb h
    omega
noncomputable abbrev hasN (kvs : List (Key × V)) (r : Nat) : Prop := valV kvs (Sum.inl (r : Int)) = some (.bl true)
structure JoI (n : Net) (ss : List Str) (hr : Option (Nat × Nat)) (kvs : List (Key × V)) (lf : List Nat) : Prop where
  nod : (kvs.map (·.1)).Nodup
  num : ∀ k ∈ kvs.map (·.1), ∃ r : Nat, k = Sum.inl (r : Int) ∧ r < n.length
  val : ∀ (r : Nat) v, valV kvs (Sum.inl (r : Int)) = some v → v = .bl true ∧ Rt n ss (fstN n) (nmA n r)
  fst : hasN kvs 0
  lfk : ∀ r ∈ lf, hasN kvs r
  hrh : ∀ x p, hr = some (x, p) → hasN kvs x
  cls : ∀ r, hasN kvs r → r ∈ lf ∨ (∃ p, hr = some (r, p)) ∨ ∀ p z, tieAt n (r, p) = some z → z ∈ ss → hasN kvs (other n (r, p)).1
  dne : ∀ x p, hr = some (x, p) → ∀ p', p' < p → ∀ z, tieAt n (x, p') = some z → z ∈ ss → hasN kvs (other n (x, p')).1
theorem JoI.lt {n : Net} {ss : List Str} {hr : Option (Nat × Nat)} {kvs : List (Key × V)} {lf : List Nat} (I : JoI n ss hr kvs lf) {r : Nat} (h : hasN kvs r) : r < n.length := by
  obtain ⟨r', e, h'⟩ := I.num _ (val_some h)
  have := Sum.inl.inj e
  omega
theorem JoI.len {n : Net} {ss : List Str} {hr : Option (Nat × Nat)} {kvs : List (Key × V)} {lf : List Nat} (I : JoI n ss hr kvs lf) : kvs.length ≤ n.length := by
  have := nodup_le I.nod (b := (List.range n.length).map fun r => Sum.inl ((r : Nat) : Int)) fun k hk => by
    obtain ⟨r, e, h⟩ := I.num k hk
    exact List.mem_map.mpr ⟨r, List.mem_range.mpr h, e.symm⟩
  rw [List.length_map, List.length_map, List.length_range] at this
  exact this
theorem JoI.start {n : Net} {ss : List Str} (h0 : 0 < n.length) : JoI n ss none (putK [] (Sum.inl 0) (.bl true)) [0] := by
  have hv : ∀ r : Nat, valV (putK ([] : List (Key × V)) (Sum.inl 0) (.bl true)) (Sum.inl (r : Int)) = if r = 0 then some (.bl true) else none := fun r => by
    rw [valV_put]
    by_cases h : r = 0
    · subst h
      rfl
    · rw [if_neg h, if_neg (fun q => h (by have := Sum.inl.inj q; omega))]
      rfl
  have h00 : hasN (putK ([] : List (Key × V)) (Sum.inl 0) (.bl true)) 0 := by
    show valV _ _ = _
    rw [hv, if_pos rfl]
  refine ⟨by show ([Sum.inl 0] : List Key).Nodup; simp, fun k hk => ⟨0, by simpa [putK] using hk, h0⟩, fun r v h => ?_, h00, fun r hr => by rw [List.mem_singleton.mp hr]; exact h00, fun x p h => (by cases h), fun r h => ?_, fun x p h => (by cases h)⟩
  · rw [hv] at h
    by_cases c : r = 0
    · rw [if_pos c] at h
      cases h
      subst c
      exact ⟨rfl, Rt.refl ..⟩
    · rw [if_neg c] at h
      cases h
  · have h : valV _ _ = _ := h
    rw [hv] at h
    by_cases c : r = 0
    · exact .inl (List.mem_singleton.mpr c)
    · rw [if_neg c] at h
      cases h
theorem JoI.pop {n : Net} {ss : List Str} {kvs : List (Key × V)} {lf : List Nat} {h : Nat} (I : JoI n ss none kvs (lf ++ [h])) : JoI n ss (some (h, 0)) kvs lf := by
  refine ⟨I.nod, I.num, I.val, I.fst, fun r hr => I.lfk r (List.mem_append_left _ hr), fun x p e => ?_, fun r hb => ?_, fun x p e p' hp' => ?_⟩
  · cases e
    exact I.lfk h (List.mem_append_right _ (List.mem_singleton.mpr rfl))
  · rcases I.cls r hb with c | c | c
    · rcases List.mem_append.mp c with c | c
      · exact .inl c
      · exact .inr (.inl ⟨0, by rw [List.mem_singleton.mp c]⟩)
    · obtain ⟨p, e⟩ := c
      cases e
    · exact .inr (.inr c)
  · cases e
    exact absurd hp' (Nat.not_lt_zero _)
theorem JoI.close {n : Net} {ss : List Str} {kvs : List (Key × V)} {lf : List Nat} {h p : Nat} (I : JoI n ss (some (h, p)) kvs lf) (hp : (row n h).length ≤ p) : JoI n ss none kvs lf := by
  refine ⟨I.nod, I.num, I.val, I.fst, I.lfk, fun x p e => (by cases e), fun r hb => ?_, fun x p e => (by cases e)⟩
  rcases I.cls r hb with c | c | c
  · exact .inl c
  · obtain ⟨p', e⟩ := c
    cases e
    exact .inr (.inr fun p' z hz => I.dne h p rfl p' (Nat.lt_of_lt_of_le (end_lt hz) hp) z hz)
  · exact .inr (.inr c)
theorem JoI.step {n : Net} {ss : List Str} {kvs : List (Key × V)} {lf : List Nat} {h p : Nat} (I : JoI n ss (some (h, p)) kvs lf) {z : Str} (hz : tieAt n (h, p) = some z) (ht : z ∈ ss → hasN kvs (other n (h, p)).1) : JoI n ss (some (h, p + 1)) kvs lf := by
  refine ⟨I.nod, I.num, I.val, I.fst, I.lfk, fun x q e => ?_, fun r hc => ?_, fun x q e p' hp' y hy hys => ?_⟩
  · cases e
    exact I.hrh h p rfl
  · rcases I.cls r hc with k | k | k
    · exact .inl k
    · obtain ⟨q, e⟩ := k
      cases e
      exact .inr (.inl ⟨_, rfl⟩)
    · exact .inr (.inr k)
  · cases e
    by_cases k : p' < p
    · exact I.dne h p rfl p' k y hy hys
    · have : p' = p := by omega
      subst this
      rw [hz] at hy
      cases hy
      exact ht hys
theorem JoI.new {n : Net} (T : Twice n) {ss : List Str} {kvs : List (Key × V)} {lf : List Nat} {h p : Nat} (I : JoI n ss (some (h, p)) kvs lf) {z : Str} (hz : tieAt n (h, p) = some z) (hzs : z ∈ ss) (hn : valV kvs (Sum.inl ((other n (h, p)).1 : Int)) = none) :
    JoI n ss (some (h, p + 1)) (putK kvs (Sum.inl ((other n (h, p)).1 : Int)) (.bl true)) (lf ++ [(other n (h, p)).1]) := by
  have hlt := other_lt T hz
  have hnk := val_none hn
  have w : Rt n ss (fstN n) (nmA n (other n (h, p)).1) := (I.val h _ (I.hrh h p rfl)).2.trans (Rt.step hz hzs)
  have hnew : hasN (putK kvs (Sum.inl ((other n (h, p)).1 : Int)) (.bl true)) (other n (h, p)).1 := by
    show valV _ _ = _
    rw [valV_put, if_pos rfl]
  have up : ∀ {r : Nat}, hasN kvs r → hasN (putK kvs (Sum.inl ((other n (h, p)).1 : Int)) (.bl true)) r := fun {r} hc => by
    show valV _ _ = _
    rw [valV_put]
    split
    · rfl
    · exact hc
  have dn : ∀ {r : Nat}, hasN (putK kvs (Sum.inl ((other n (h, p)).1 : Int)) (.bl true)) r → r = (other n (h, p)).1 ∨ hasN kvs r := fun {r} hc => by
    have hc : valV _ _ = _ := hc
    rw [valV_put] at hc
    by_cases q : r = (other n (h, p)).1
    · exact .inl q
    · rw [if_neg (inl_ne q)] at hc
      exact .inr hc
  have I' : JoI n ss (some (h, p)) (putK kvs (Sum.inl ((other n (h, p)).1 : Int)) (.bl true)) (lf ++ [(other n (h, p)).1]) := by
    refine ⟨?_, fun k hk => ?_, fun r v hv => ?_, up I.fst, fun r hr => ?_, fun x q e => up (I.hrh x q e), fun r hc => ?_, fun x q e p' hp' y hy hys => up (I.dne x q e p' hp' y hy hys)⟩
    · rw [keysP, if_neg hnk]
      exact nd_snoc I.nod hnk
    · rw [keysP, if_neg hnk] at hk
      rcases List.mem_append.mp hk with hk | hk
      · exact I.num k hk
      · exact ⟨_, List.mem_singleton.mp hk, hlt⟩
    · rw [valV_put] at hv
      by_cases q : r = (other n (h, p)).1
      · rw [if_pos (by rw [q])] at hv
        cases hv
        exact ⟨rfl, by rw [q]; exact w⟩
      · rw [if_neg (inl_ne q)] at hv
        exact I.val r v hv
    · rcases List.mem_append.mp hr with hr | hr
      · exact up (I.lfk r hr)
      · rw [List.mem_singleton.mp hr]
        exact hnew
    · rcases dn hc with q | hc
      · exact .inl (List.mem_append_right _ (by rw [q]; exact List.mem_singleton.mpr rfl))
      · rcases I.cls r hc with k | k | k
        · exact .inl (List.mem_append_left _ k)
        · exact .inr (.inl k)
        · exact .inr (.inr fun p' y hy hys => up (k p' y hy hys))
  exact I'.step hz fun _ => hnew
theorem JoI.whole {n : Net} (T : Twice n) (h0 : 0 < n.length) (hn : (n.map (·.1)).Nodup) {ss : List Str} {kvs : List (Key × V)} (I : JoI n ss none kvs []) : kvs.length = n.length ↔ ∀ x ∈ n.map (·.1), Rt n ss (fstN n) x := by
  have has_of : ∀ r, r < n.length → Rt n ss (fstN n) (nmA n r) → hasN kvs r := fun r hr h => by
    obtain ⟨r', h1, h2⟩ := h.ind T (P := fun x => ∃ r, hasN kvs r ∧ nmA n r = x) ⟨0, I.fst, rfl⟩ fun e z he hz ⟨r, hr, q⟩ => by
      have := nmA_inj hn (I.lt hr) (row_lt he) q
      subst this
      rcases I.cls _ hr with c | c | c
      · cases c
      · obtain ⟨p, e'⟩ := c
        cases e'
      · exact ⟨_, c e.2 z he hz, rfl⟩
    rw [← nmA_inj hn (I.lt h1) hr h2]
    exact h1
  have k := all_lenK I.nod (b := (List.range n.length).map fun r => (Sum.inl ((r : Nat) : Int) : Key)) (by
    rw [List.nodup_iff_pairwise_ne, List.pairwise_map]
    exact (List.nodup_iff_pairwise_ne.mp List.nodup_range).imp fun h e => h (by have := Sum.inl.inj e; omega)) fun k hk => by
    obtain ⟨r, e, h⟩ := I.num k hk
    exact List.mem_map.mpr ⟨r, List.mem_range.mpr h, e.symm⟩
  rw [List.length_map, List.length_map, List.length_range] at k
  rw [k]
  constructor
  · intro h x hx
    obtain ⟨i, hi, rfl⟩ := name_at hx
    have hm := h (Sum.inl (i : Int)) (List.mem_map.mpr ⟨i, List.mem_range.mpr hi, rfl⟩)
    cases hv : valV kvs (Sum.inl (i : Int)) with
    | none => exact absurd hm (val_none hv)
    | some v => exact (I.val i v hv).2
  · intro h y hy
    obtain ⟨r, hr, rfl⟩ := List.mem_map.mp hy
    have hr := List.mem_range.mp hr
    exact val_some (has_of r hr (h _ (at_name hr)))
end Nt
namespace Nt
open PySem L2
open Classical
section
variable {n : Net} {z : Str}
noncomputable def outN (n : Net) (z : Str) : Net := n.map fun r => (r.1, r.2.filter fun y => decide (y ≠ z))
theorem outN_len : (outN n z).length = n.length := List.length_map ..
theorem outN_names : (outN n z).map (·.1) = n.map (·.1) := by
  unfold outN
  rw [List.map_map]
  rfl
theorem outN_ties : ties (outN n z) = (ties n).filter fun y => decide (y ≠ z) := by
  unfold ties outN
  rw [List.flatMap_map, List.filter_flatMap]
theorem outN_le : (ties (outN n z)).length ≤ (ties n).length := by
  rw [outN_ties]
  exact List.length_filter_le ..
theorem outN_twice (T : Twice n) : Twice (outN n z) := fun y hy => by
  rw [outN_ties] at hy ⊢
  obtain ⟨h1, h2⟩ := List.mem_filter.mp hy
  rw [List.count_filter (p := fun y => decide (y ≠ z)) (a := y) h2]
  exact T y h1
theorem outN_take {i : Nat} (h : i < n.length) : outN (n.take (i + 1)) z = outN (n.take i) z ++ [(nmA n i, (row n i).filter fun y => decide (y ≠ z))] := by
  unfold outN
  rw [List.take_add_one, List.getElem?_eq_getElem h, List.map_append, nmA_eq h, row_is h]
  rfl
noncomputable def Whl (n : Net) : Prop := ∀ x ∈ n.map (·.1), Rt n (ties n) (fstN n) x
end
theorem JoI.back {n : Net} {ss : List Str} {kvs : List (Key × V)} {lf : List Nat} {h p : Nat} (I : JoI n ss (some (h, p + 1)) kvs lf) : JoI n ss (some (h, p)) kvs lf := by
  refine ⟨I.nod, I.num, I.val, I.fst, I.lfk, fun x q e => ?_, fun r hc => ?_, fun x q e p' hp' => ?_⟩
  · cases e
    exact I.hrh h _ rfl
  · rcases I.cls r hc with k | k | k
    · exact .inl k
    · obtain ⟨q, e⟩ := k
      cases e
      exact .inr (.inl ⟨_, rfl⟩)
    · exact .inr (.inr k)
  · cases e
    exact I.dne h _ rfl p' (Nat.lt_succ_of_lt hp')
noncomputable abbrev Lr (lf : List Nat) : HO := .lst (lf.map fun (r : Nat) => V.int (r : Int))
theorem sameN {H : Hp} {p : Addr} (h : H p = none) (o : HO) : Same H (upd H p o) := fun b u q => by rw [upd_ne (ne_of_none q h)]; exact q
theorem sameM {H1 H2 : Hp} {r : Addr} {o : HO} (s : Same H1 H2) (h : H1 r = none) : Same H1 (upd H2 r o) := fun b u q => by
  rw [upd_ne (ne_of_none q h)]
  exact s _ _ q
structure AtI (H0 H : Hp) (d : Addr) (done : List (Str × End)) (kvs : List (Key × V)) (ks : List Str) : Prop where
  dict : H d = some (.dK kvs)
  free : H0 d = none
  same : Same H0 H
  keys : kvs.map (·.1) = ks.map Sum.inr
  nod : ks.Nodup
  mem : ∀ z, z ∈ ks ↔ posIn done z ≠ []
  val0 : ∀ z, posIn done z = [] → valV kvs (Sum.inr z) = none
  val1 : ∀ z, posIn done z ≠ [] → ∃ a, valV kvs (Sum.inr z) = some (.ref a) ∧ H a = some (Lr ((posIn done z).map (·.1))) ∧ H0 a = none ∧ a ≠ d
  inj : ∀ z y a, valV kvs (Sum.inr z) = some (.ref a) → valV kvs (Sum.inr y) = some (.ref a) → z = y
theorem AtI.start {H : Hp} {d : Addr} (h : H d = none) : AtI H (upd H d (.dK [])) d [] [] [] :=
  ⟨upd_same, h, sameN h _, rfl, List.nodup_nil, fun z => ⟨fun q => (nomatch q), fun q => absurd rfl q⟩, fun z _ => rfl, fun z q => absurd rfl q, fun z y a q => (nomatch q)⟩
section
variable {H0 H : Hp} {d l0 a : Addr} {done : List (Str × End)} {kvs : List (Key × V)} {ks : List Str} {z : Str} {e : End}
theorem AtI.old (I : AtI H0 H d done kvs ks) (hz : posIn done z ≠ []) (ha : valV kvs (Sum.inr z) = some (.ref a)) (hl : H l0 = none) :
    AtI H0 (upd (upd H l0 (.lst [])) a (Lr ((posIn done z).map (·.1) ++ [e.1]))) d (done ++ [(z, e)]) kvs ks := by
  obtain ⟨a', v1, v2, v3, v4⟩ := I.val1 z hz
  rw [ha] at v1
  cases v1
  have nld : l0 ≠ d := fun q => by rw [q, I.dict] at hl; cases hl
  have snoc := fun y => posIn_snoc done z y e
  refine ⟨by rw [upd_ne (Ne.symm v4), upd_ne (Ne.symm nld)]; exact I.dict, I.free, sameM (I.same.trans (sameN hl _)) v3, I.keys, I.nod, fun y => ?_, fun y hy => ?_, fun y hy => ?_, I.inj⟩
  · rw [snoc]
    by_cases c : z = y
    · subst c
      rw [if_pos rfl]
      exact ⟨fun _ q => (by simp at q), fun _ => (I.mem z).mpr hz⟩
    · rw [if_neg c, List.append_nil]
      exact I.mem y
  · rw [snoc] at hy
    exact I.val0 y (List.append_eq_nil_iff.mp hy).1
  · rw [snoc] at hy ⊢
    by_cases c : z = y
    · subst c
      refine ⟨a, ha, ?_, v3, v4⟩
      rw [if_pos rfl, upd_same, List.map_append]
      rfl
    · rw [if_neg c, List.append_nil] at hy ⊢
      obtain ⟨b, w1, w2, w3, w4⟩ := I.val1 y hy
      refine ⟨b, w1, ?_, w3, w4⟩
      rw [upd_ne (fun q => c (I.inj z y a ha (by rw [← q]; exact w1))), upd_ne (ne_of_none w2 hl)]
      exact w2
theorem AtI.new (I : AtI H0 H d done kvs ks) (hz : posIn done z = []) (hl : H l0 = none) :
    AtI H0 (upd (upd (upd H l0 (.lst [])) d (.dK (putK kvs (Sum.inr z) (.ref l0)))) l0 (Lr [e.1])) d (done ++ [(z, e)]) (putK kvs (Sum.inr z) (.ref l0)) (ks ++ [z]) := by
  have nld : l0 ≠ d := fun q => by rw [q, I.dict] at hl; cases hl
  have l00 : H0 l0 = none := by
    cases q : H0 l0 with
    | none => rfl
    | some v => rw [I.same _ _ q] at hl; cases hl
  have snoc := fun y => posIn_snoc done z y e
  have hzk : z ∉ ks := fun q => (I.mem z).mp q hz
  have vz := I.val0 z hz
  have old : ∀ {y : Str}, y ≠ z → valV (putK kvs (Sum.inr z) (.ref l0)) (Sum.inr y) = valV kvs (Sum.inr y) := fun {y} c => by
    rw [valV_put, if_neg (fun q => c (Sum.inr.inj q))]
  have new : valV (putK kvs (Sum.inr z) (.ref l0)) (Sum.inr z) = some (.ref l0) := by rw [valV_put, if_pos rfl]
  have heap : ∀ y b, valV kvs (Sum.inr y) = some (.ref b) → H b ≠ none := fun y b hb => by
    have : posIn done y ≠ [] := fun q => by rw [I.val0 y q] at hb; cases hb
    obtain ⟨b', w1, w2, _⟩ := I.val1 y this
    rw [hb] at w1
    cases w1
    rw [w2]
    simp
  refine ⟨by rw [upd_ne (Ne.symm nld)]; exact upd_same, I.free, sameM (sameM (I.same.trans (sameN hl _)) I.free) l00, ?_, nd_snoc I.nod hzk, fun y => ?_, fun y hy => ?_, fun y hy => ?_, fun y x b hy hx => ?_⟩
  · rw [keysP, I.keys, if_neg, List.map_append]
    · rfl
    · intro q
      obtain ⟨y, hy, e⟩ := List.mem_map.mp q
      cases e
      exact hzk hy
  · rw [snoc, List.mem_append, List.mem_singleton]
    by_cases c : z = y
    · subst c
      rw [if_pos rfl]
      exact ⟨fun _ q => (by simp at q), fun _ => .inr rfl⟩
    · rw [if_neg c, List.append_nil, I.mem y]
      exact ⟨fun q => q.elim id fun k => absurd k.symm c, .inl⟩
  · rw [snoc] at hy
    by_cases c : z = y
    · subst c
      rw [if_pos rfl] at hy
      simp at hy
    · rw [if_neg c, List.append_nil] at hy
      rw [old (Ne.symm c)]
      exact I.val0 y hy
  · rw [snoc] at hy ⊢
    by_cases c : z = y
    · subst c
      refine ⟨l0, new, ?_, l00, nld⟩
      rw [if_pos rfl, upd_same, hz]
      rfl
    · rw [if_neg c, List.append_nil] at hy ⊢
      obtain ⟨b, w1, w2, w3, w4⟩ := I.val1 y hy
      refine ⟨b, by rw [old (Ne.symm c)]; exact w1, ?_, w3, w4⟩
      have nb : b ≠ l0 := ne_of_none w2 hl
      rw [upd_ne nb, upd_ne w4, upd_ne nb]
      exact w2
  · by_cases c1 : y = z
    · by_cases c2 : x = z
      · rw [c1, c2]
      · rw [c1, new] at hy
        cases hy
        rw [old c2] at hx
        exact absurd hl (heap x _ hx)
    · rw [old c1] at hy
      by_cases c2 : x = z
      · rw [c2, new] at hx
        cases hx
        exact absurd hl (heap y _ hy)
      · rw [old c2] at hx
        exact I.inj y x b hy hx
end
end Nt
namespace L2
open PySem PySem.Spec PyProof.Rows Sort2
section
variable {X : Cx}
end
end L2
namespace V2
open PySem L2 Nt Sort2 SetT
open PyProof.Rows (sortedS)
open Classical
noncomputable def spTs : Sp := fun vs H Q _ => ∃ (R : Addr) (as : List (Addr × Addr)) (n : Net), vs = [.ref R] ∧ RowsAt H R as n ∧ n.length ≤ 1000 ∧ (ties n).length ≤ 900 ∧ (∀ zs : List Str, zs.Nodup → (∀ z ∈ zs, z ∈ ties n) → zs.length < 64) ∧
  ∀ (L : Addr) (ss : List Str) (H' : Hp), Same H H' → H L = none → H' L = some (Ls ss) → ss.Nodup → sortedS ss = true → (∀ z, z ∈ ss ↔ z ∈ ties n) → Q (.ref L) H'
theorem added_nodup {zs : List Str} {z : Str} (h : zs.Nodup) : (added zs z).Nodup := by
  unfold added
  split
  · exact h
  · rename_i hz
    exact nd_snoc h hz
theorem added_iff {zs : List Str} {z y : Str} : y ∈ added zs z ↔ y ∈ zs ∨ y = z := by
  unfold added
  split
  · rename_i hz
    refine ⟨.inl, fun h => h.elim id fun e => ?_⟩
    rw [e]
    exact hz
  · rw [List.mem_append, List.mem_singleton]
theorem done_ties {n : Net} {r p : Nat} {z y : Str} (hr : r < n.length) (hz : (row n r)[p]? = some z) (h : posIn (seats (n.take r) ++ rowSeats r ((row n r).take p) 0) y ≠ []) : y ∈ ties n := by
  obtain ⟨rest, e⟩ := seats_split hr hz
  unfold posIn at h
  obtain ⟨x, hx⟩ := List.exists_mem_of_ne_nil _ h
  obtain ⟨⟨y2, e2⟩, hm, _⟩ := List.mem_map.mp hx
  rw [List.mem_filter, decide_eq_true_eq] at hm
  obtain ⟨hm, rfl⟩ := hm
  have : (y2, e2) ∈ seats n := by rw [e]; exact List.mem_append_left _ hm
  exact tie_mem (mem_seats.mp this)
noncomputable def spHt : Sp := fun vs H Q _ => ∃ (R : Addr) (as : List (Addr × Addr)) (n : Net), vs = [.ref R] ∧ RowsAt H R as n ∧ Twice n ∧ (n.map (·.1)).Nodup ∧ 0 < n.length ∧ n.length ≤ 60 ∧ (ties n).length ≤ 60 ∧ ∀ H', Same H H' → Q (.bl (decide (Whl n))) H'
noncomputable def spOut : Sp := fun vs H Q _ => ∃ (R : Addr) (as : List (Addr × Addr)) (n : Net) (z : Str), vs = [.ref R, .str z] ∧ RowsAt H R as n ∧ n.length ≤ 1000 ∧ (ties n).length ≤ 900 ∧ ∀ L bs H', Same H H' → H L = none → (∀ a ∈ bs, H a.1 = none ∧ H a.2 = none) → RowsAt H' L bs (outN n z) → Q (.ref L) H'
theorem ne_str (y z : Str) : (!decide (V.str y = V.str z)) = decide (y ≠ z) := by
  by_cases c : y = z
  · rw [c, decide_eq_true rfl, decide_eq_false (fun k => k rfl)]
    rfl
  · rw [decide_eq_false (fun k => c (V.str.inj k)), decide_eq_true c]
    rfl
theorem last_int (lf : List Nat) (h : Nat) : (((lf ++ [h]).map fun (r : Nat) => V.int (r : Int))[((lf ++ [h]).map fun (r : Nat) => V.int (r : Int)).length - 1]? = some (.int (h : Int))) ∧ ((lf ++ [h]).map fun (r : Nat) => V.int (r : Int)).dropLast = lf.map fun (r : Nat) => V.int (r : Int) := by
  rw [List.map_append]
  constructor
  · simp
  · exact List.dropLast_concat
theorem contains_dec (zs : List Str) (z : Str) : zs.contains z = decide (z ∈ zs) := by
  rw [Bool.eq_iff_iff, decide_eq_true_iff]
  exact List.contains_iff_mem
theorem mem_hl {n : Net} {z : Str} {i : Nat} : ((hldK n z i).map (nmA n)).length ≤ i := by
  rw [List.length_map]
  unfold hldK
  exact Nat.le_trans (List.length_filter_le ..) (by rw [List.length_range]; exact Nat.le_refl _)
noncomputable def spShrL : Sp := fun vs H Q _ => ∃ (R : Addr) (as : List (Addr × Addr)) (n : Net) (z : Str) (r0 r1 : Nat), vs = [.ref R, .str z] ∧ RowsAt H R as n ∧ n.length ≤ 1000 ∧ (ties n).length ≤ 900 ∧ hld n z = [r0, r1] ∧
  ∀ L bs H', Same H H' → H L = none → (∀ a ∈ bs, H a.1 = none ∧ H a.2 = none) → RowsAt H' L bs (shr n z r0 r1) → Q (.ref L) H'
section
variable {P : Program} {w : World} {K : PySem.W.Frag} {mg : Str → Option Value} {base : Heap}
noncomputable abbrev NLt : List Str := ["_law_rows", "_law_found", "_law_point", "_law_row", "_law_tie"]
theorem scLt : FnScope NLt ["_law_rows"] (defScope s_l_ties) := ⟨rfl, rfl, rfl, by decide +kernel, rfl, by decide +kernel, by decide +kernel⟩
theorem put_added {kvs : List (Key × V)} {zs : List Str} (h : kvs.map (·.1) = zs.map Sum.inr) (z : Str) (v : V) : (putK kvs (Sum.inr z) v).map (·.1) = (added zs z).map Sum.inr := by
  rw [keysP, h]
  unfold added
  by_cases q : z ∈ zs
  · rw [if_pos (List.mem_map.mpr ⟨z, q, rfl⟩), if_pos q]
  · rw [if_neg, if_neg q, List.map_append]
    · rfl
    · intro k
      obtain ⟨y, hy, e⟩ := List.mem_map.mp k
      cases e
      exact q hy
theorem ok_lties {f : Addr} {fd : FuncData} (F : Fun K "_law_ties" "_law_ties" s_l_ties f fd) (T : Txt mg) : FnOk P w K mg base CX0 1 f fd ["_law_rows"] spTs := by
  refine F.gb scLt (fun vs H Q E h => ?_) (fun b0 H vs Q E hr h => ?_)
  · obtain ⟨R, as, n, rfl, _⟩ := h
    rfl
  obtain ⟨R, as, n, rfl, hR, hn, ht, hfew, q⟩ := h
  have nd := scLt.nd
  have hal := hR.len
  have hu := hr.u1
  show Run _ _ _ [some (.ref R), none, none, none, none] H
  refine run_set 1 nd (ev_dnewK fun d hd => ?_)
  have s0 := same_new hd (.dK [])
  have tsub : ∀ r, r < n.length → ∀ z, z ∈ ties (n.take r) ∨ z ∈ row n r → z ∈ ties n := fun r hr' z hz => by
    rw [ties_split (k := r + 1), ties_k hr']
    rcases hz with h | h <;> simp [h]
  refine run_forL (ev_v 0 ⟨R, rfl, ⟨_, SqL.of (s0 _ _ hR.lst)⟩, loop_list (xs := as.map fun a => V.ref a.1) (fun r σ' H' => (∃ v2 v3 v4, σ' = [some (.ref R), some (.ref d), v2, v3, v4]) ∧ ∃ (kvs : List (Key × V)) (zs : List Str), Same H H' ∧ H' d = some (.dK kvs) ∧ kvs.map (·.1) = zs.map Sum.inr ∧ zs.Nodup ∧ ∀ z, z ∈ zs ↔ z ∈ ties (n.take r)) ⟨⟨none, none, none, rfl⟩, [], [], s0, upd_same, rfl, List.nodup_nil, fun z => Iff.rfl⟩ ?_ ?_ ?_⟩)
  · rintro r σ' H' _ ⟨_, _, _, sm, _⟩
    exact SqL.of (sm _ _ hR.lst)
  · rintro r x σ' H' hx ⟨⟨v2, v3, v4, rfl⟩, kvs, zs, sm, eD, ek, zn, zm⟩
    have hi : r < n.length := by
      have := (List.getElem?_eq_some_iff.mp hx).1
      rw [List.length_map] at this
      omega
    obtain ⟨a, ea, eat, et, el, er⟩ := (hR.same sm).at hi
    rw [List.getElem?_map, ea] at hx
    cases hx
    refine eg_pair rfl (SqT.of et) (eg_name 2 nd (eg_name 3 nd ?_))
    have naD : a.2 ≠ d := ne_of el eD fun z => nomatch z
    show Run _ _ _ [some (.ref R), some (.ref d), some (.str n[r].1), some (.ref a.2), v4] H'
    refine run_forL (ev_v 3 ⟨a.2, rfl, ⟨_, SqL.of el⟩, loop_list (xs := (row n r).map V.str) (fun p σ' H'' => (∃ v4, σ' = [some (.ref R), some (.ref d), some (.str n[r].1), some (.ref a.2), v4]) ∧ ∃ (kvs : List (Key × V)) (zs : List Str), (∀ b o, b ≠ d → H' b = some o → H'' b = some o) ∧ H'' d = some (.dK kvs) ∧ kvs.map (·.1) = zs.map Sum.inr ∧ zs.Nodup ∧ ∀ z, z ∈ zs ↔ z ∈ ties (n.take r) ∨ z ∈ (row n r).take p) ⟨⟨_, rfl⟩, kvs, zs, fun b o _ h => h, eD, ek, zn, fun z => by rw [zm z]; simp⟩ ?_ ?_ ?_⟩)
    · rintro p σ' H'' _ ⟨_, _, _, kb, _⟩
      exact SqL.of (kb _ _ naD el)
    · rintro p x σ' H'' hx ⟨⟨v4, rfl⟩, kvs, zs, kb, eD6, ek6, zn6, zm6⟩
      rw [List.getElem?_map, Option.map_eq_some_iff] at hx
      obtain ⟨z, hz, rfl⟩ := hx
      have hl : zs.length < 64 := hfew zs zn6 fun y hy => tsub r hi y (((zm6 y).mp hy).imp id fun h => List.mem_of_mem_take h)
      have lk : kvs.length = zs.length := by have := congrArg List.length ek6; simpa using this
      refine eg_name 4 nd ?_
      refine run_dput hu (ev_bl (ev_v 1 (ev_v 4 ⟨d, _, rfl, DPut.k (k := Sum.inr z) eD6 (small' (by omega)), run_nil ⟨⟨_, rfl⟩, _, added zs z, fun b o hb h => by rw [upd_ne hb]; exact kb b o hb h, upd_same, put_added ek6 z _, added_nodup zn6, fun y => ?_⟩⟩)))
      rw [added_iff, zm6 y, List.take_add_one, hz, or_assoc]
      simp
    · rintro σ' H'' ⟨⟨v4, rfl⟩, kvs, zs, kb, eD6, ek6, zn6, zm6⟩
      refine run_nil ⟨⟨_, _, _, rfl⟩, kvs, zs, fun b o h => kb b o (ne_of_none h hd) (sm _ _ h), eD6, ek6, zn6, fun z => ?_⟩
      rw [zm6 z, List.length_map, List.take_length, ties_k hi, List.mem_append]
  · rintro σ' H' ⟨⟨v2, v3, v4, rfl⟩, kvs, zs, sm, eD, ek, zn, zm⟩
    rw [List.length_map, hal, List.take_length] at zm
    refine run_ret (ev_blt call_sorted_strs T.sorted PyProof.Rows.boot_sorted (ea_cons (ev_typ (call_list_dict rfl) T.tlist PyProof.Rows.boot_list (ea_cons (ev_v 1 (ea_nil ⟨d, kvs, rfl, .inl eD, fun l hl => ?_⟩))))))
    have ekv : (kvs.map fun p => kV p.1) = zs.map V.str := by
      rw [show (kvs.map fun p => kV p.1) = (kvs.map (·.1)).map kV by rw [List.map_map]; rfl, ek, List.map_map]
      rfl
    rw [ekv]
    have s2 := same_new hl (.lst (zs.map V.str))
    refine ea_nil ⟨l, zs, rfl, SqL.of upd_same, hfew zs zn fun y hy => (zm y).mp hy, fun l2 ss hl2 hp hs => ?_⟩
    have s3 := same_new hl2 (.lst (ss.map V.str))
    exact q l2 ss _ (sm.trans (s2.trans s3)) (free_back (sm.trans s2) hl2) upd_same (hp.nodup_iff.mpr zn) hs fun z => by rw [hp.mem_iff, zm z]
noncomputable abbrev NP1 : List Str := ["_law_rows", "_law_tie"]
noncomputable abbrev NP2 : List Str := ["_law_rows", "_law_tie", "_law_point", "_law_row"]
noncomputable abbrev NP3 : List Str := ["_law_rows", "_law_tie", "_law_point", "_law_row", "_law_name"]
theorem scLo : FnScope NP1 ["_law_rows", "_law_tie"] (defScope s_l_out) := ⟨rfl, rfl, rfl, by decide +kernel, rfl, by decide +kernel, by decide +kernel⟩
theorem nd_p2 : NP2.Nodup := by decide +kernel
theorem nd_p3 : NP3.Nodup := by decide +kernel
noncomputable def scOutL : Scope := match defBody s_l_out with
  | [.Return (some (.ListComp _ _ sc _)) _] => sc
  | _ => defScope s_l_out
noncomputable def scInL : Scope := relabel scOutL (PyProof.Rows.envOfC "_law_out" (defScope s_l_out) 0 0 .none)
theorem ok_lout {f : Addr} {fd : FuncData} (F : Fun K "_law_out" "_law_out" s_l_out f fd) (T : Txt mg) : FnOk P w K mg base CX0 1 f fd ["_law_rows", "_law_tie"] spOut := by
  refine F.gb scLo (fun vs H Q E h => ?_) (fun b0 H vs Q E hr h => ?_)
  · obtain ⟨R, as, n, z, rfl, _⟩ := h
    rfl
  obtain ⟨R, as, n, z, rfl, hR, hn, ht, q⟩ := h
  have nd := scLo.nd
  have hal := hR.len
  show Run _ _ _ [some (.ref R), some (.str z)] H
  refine run_ret (ev_comp (defScope s_l_out) NP1 NP2 2 (pi_list pe_ev) (ev_v 0 ⟨R, rfl, ⟨_, SqL.of hR.lst⟩, fun D hD => ?_⟩))
  refine comp_listP (xs := as.map fun a => V.ref a.1) (fun i σ' H' => (∃ v1 v2, σ' = [some (.ref R), some (.str z)] ++ [v1, v2]) ∧ Same H H' ∧ ∃ bs, Bld H H' D bs (outN (n.take i) z)) ⟨⟨none, none, rfl⟩, same_new hD _, [], Bld.nil upd_same⟩ ?_ ?_ ?_
  · rintro i σ' H' _ ⟨_, sm, _⟩
    exact SqL.of (sm _ _ hR.lst)
  · rintro i x σ' H' hx ⟨⟨v1, v2, rfl⟩, sm, bs, hB⟩
    have hi : i < n.length := by
      have := (List.getElem?_eq_some_iff.mp hx).1
      rw [List.length_map] at this
      omega
    obtain ⟨a, ea, eat, et, el, er⟩ := (hR.same sm).at hi
    rw [List.getElem?_map, ea] at hx
    cases hx
    rw [← nmA_eq hi] at et
    have bl := hB.rows.len
    rw [outN_len, List.length_take] at bl
    have hrl := rowLe hi
    rw [outN_take hi]
    intro cl' C' s₀ H₀ ex
    refine eg_pair rfl (SqT.of et) (eg_name 2 nd_p2 (eg_name 3 nd_p2 ?_))
    intro cl' C' s₀ H₀ ex
    refine ei_nil (iteT ?_)
    intro cl' C' s₀ H₀ ex
    refine ev_tup (ea_cons (ev_v 2 (ea_cons (ev_comp scInL NP2 NP3 1 (pi_list pe_ev) (ev_v 3 ⟨a.2, rfl, ⟨_, SqL.of el⟩, fun D2 hD2 => ?_⟩)))))
    refine comp_filt (σ := [some (.ref R), some (.str z), some (.str (nmA n i)), some (.ref a.2)]) (fun y => decide (y ≠ z)) (small' (by omega)) el hD2 (fun cl C s₀ H₀ ex v v0 H' R' h => eg_name 4 nd_p3 h) (fun cl C s₀ H₀ ex y ys T' h => ?_) (fun cl C s₀ H₀ ex y H' R' h => ev_v 4 h) ?_
    · refine ei_one (et_cmp op_ne (ev_v 4 (ev_v 1 ⟨rfl, _, rfl, ?_⟩)))
      rw [ne_str]
      exact h
    · have s2 := same_new hD2 (Ls ((row n i).filter fun y => decide (y ≠ z)))
      have hB2 := hB.same s2
      have e2 : (upd H' D2 (Ls ((row n i).filter fun y => decide (y ≠ z)))) D2 = some (Ls ((row n i).filter fun y => decide (y ≠ z))) := upd_same
      refine ea_nil ⟨(by show 2 ≤ sizeLine; decide), fun t ht2 => ⟨bs.map fun a => V.ref a.1, ?_, ?_, ⟨_, _, rfl⟩, ?_, bs ++ [(t, D2)], ?_⟩⟩
      · rw [upd_ne (fun e => by rw [← e] at ht2; exact absurd (hB2.rows.lst.symm.trans ht2) (by simp))]
        exact hB2.rows.lst
      · rw [List.length_map]
        exact small' (by omega)
      · exact same_mut (sm.trans (s2.trans (same_new ht2 _))) hD
      · exact hB2.add (p := nmA n i) e2 (free_back sm hD2) (fun k => by
          obtain ⟨a', ha', e'⟩ := List.mem_map.mp k
          have := (hB.in_heap ha').2
          rw [e', hD2] at this
          exact this rfl) (fun e => by rw [e, hB.rows.lst] at hD2; cases hD2) ht2 (free_back (sm.trans s2) ht2)
  rintro σ' H2 ⟨_, s2, bs, hB⟩
  rw [List.length_map, hal, List.take_length] at hB
  exact q D bs H2 s2 hD hB.new hB.rows
noncomputable abbrev NLh : List Str := ["_law_rows", "_law_at", "_law_r", "_law_tie", "_law_met", "_law_left", "_law_there"]
theorem scLh : FnScope NLh ["_law_rows"] (defScope s_l_hangs) := ⟨rfl, rfl, rfl, by decide +kernel, rfl, by decide +kernel, by decide +kernel⟩
theorem ok_lhangs {f : Addr} {fd : FuncData} (F : Fun K "_law_hangs" "_law_hangs" s_l_hangs f fd) (T : Txt mg) : FnOk P w K mg base CX0 1 f fd ["_law_rows"] spHt := by
  refine F.gb scLh (fun vs H Q E h => ?_) (fun b0 H vs Q E hr h => ?_)
  · obtain ⟨R, as, n, rfl, _⟩ := h
    rfl
  obtain ⟨R, as, n, rfl, hR, hT, hN, h0, hn, hti, q⟩ := h
  have nd := scLh.nd
  have hal := hR.len
  have hu := hr.u100
  have hu1 := hr.u1
  show Run _ _ _ [some (.ref R), none, none, none, none, none, none] H
  refine run_set 1 nd (ev_dnewK fun dA hdA => ?_)
  refine run_forR1 T.range (ev_blt call_len_seq T.len boot_len (ea_cons (ev_v 0 (ea_nil ⟨R, _, rfl, .inl (SqL.of (same_new hdA _ _ _ hR.lst)), _, rfl, by omega, by rw [List.length_map]; omega, ?_⟩))))
  rw [List.length_map, hal, Int.toNat_natCast]
  refine loop_range (fun r σ H3 => ∃ kvs ks u2 u3, AtI H H3 dA (seats (n.take r)) kvs ks ∧ σ = [some (.ref R), some (.ref dA), u2, u3, none, none, none]) ⟨_, _, _, _, AtI.start hdA, rfl⟩ ?_ ?_
  · rintro r σ H3 hi ⟨kvs, ks, u2, u3, S, rfl⟩
    rw [Int.zero_add]
    refine eg_name 2 nd ?_
    obtain ⟨a, ea, eat, et, el, er⟩ := (hR.same S.same).at hi
    have el0 := (hR.tup r a n[r] ea (List.getElem?_eq_getElem hi)).2
    rw [← er] at el0
    refine run_forL (ev_ix ix_tup (ev_ix ix_list (ev_v 0 (ev_v 2 ⟨R, _, _, .ref a.1, rfl, rfl, SqL.of (S.same _ _ hR.lst), eat, ev_int ⟨a.1, _, _, .ref a.2, rfl, rfl, SqT.of et, rfl, a.2, rfl, ⟨_, SqL.of el⟩, ?_⟩⟩))))
    refine loop_list (xs := (row n r).map V.str) (fun p σ H4 => ∃ kvs ks u3, AtI H H4 dA (seats (n.take r) ++ rowSeats r ((row n r).take p) 0) kvs ks ∧ σ = [some (.ref R), some (.ref dA), some (.int (r : Int)), u3, none, none, none]) ⟨kvs, ks, _, by simpa [rowSeats] using S, rfl⟩ ?_ ?_ ?_
    · rintro p σ H4 _ ⟨kvs, ks, u3, S, rfl⟩
      exact SqL.of (S.same _ _ el0)
    · rintro p x σ H4 hx ⟨kvs, ks, u3, S, rfl⟩
      rw [List.getElem?_map, Option.map_eq_some_iff] at hx
      obtain ⟨z, hz, rfl⟩ := hx
      have next : seats (n.take r) ++ rowSeats r ((row n r).take (p + 1)) 0 = (seats (n.take r) ++ rowSeats r ((row n r).take p) 0) ++ [(z, (r, p))] := by
        rw [rowSeats_take hz, List.append_assoc]
      have hk : kvs.length < sizeLine := by
        have h1 : ks.length ≤ 60 := Nat.le_trans (nodup_le (b := ties n) S.nod fun y hy => done_ties hi hz ((S.mem y).mp hy)) hti
        have h2 := congrArg List.length S.keys
        rw [List.length_map, List.length_map] at h2
        exact small' (by omega)
      have hp1 := posIn_le hT hi hz
      refine eg_name 3 nd ?_
      refine run_expr (ev_append (ev_m2 PySem.F.plainAttrs_dict PySem.F.slot_dict_setdefault PySem.F.type_dict_setdefault mt_setdef (ev_v 1 ⟨ty_dK S.dict, ev_v 3 (ev_lst (ea_nil ⟨(by show 0 ≤ sizeLine; decide), fun l0 hl0 => ?_⟩))⟩)))
      have hdl : dA ≠ l0 := ne_of_none S.dict hl0
      refine ⟨dA, kvs, Sum.inr z, .ref l0, rfl, rfl, by rw [upd_ne hdl]; exact S.dict, hk, ?_⟩
      by_cases hz0 : posIn (seats (n.take r) ++ rowSeats r ((row n r).take p) 0) z = []
      · refine .inr ⟨S.val0 z hz0, l0, rfl, ⟨_, by rw [upd_ne hdl.symm]; exact upd_same⟩, ?_⟩
        refine ev_v 2 ⟨[], by rw [upd_ne hdl.symm, upd_same], by show 0 < sizeLine; decide, ?_⟩
        refine run_nil ⟨putK kvs (Sum.inr z) (.ref l0), ks ++ [z], _, ?_, rfl⟩
        rw [next]
        exact S.new (e := (r, p)) hz0 hl0
      · obtain ⟨a2, w1, w2, w3, w4⟩ := S.val1 z hz0
        have hla : a2 ≠ l0 := ne_of_none w2 hl0
        refine .inl ⟨.ref a2, w1, a2, rfl, ⟨_, by rw [upd_ne hla]; exact w2⟩, ?_⟩
        refine ev_v 2 ⟨_, by rw [upd_ne hla]; exact w2, ?_, ?_⟩
        · rw [List.length_map, List.length_map]
          exact small' (by omega)
        · refine run_nil ⟨kvs, ks, _, ?_, rfl⟩
          rw [next]
          have := S.old (e := (r, p)) hz0 w1 hl0
          unfold Lr at this
          rw [List.map_append] at this
          exact this
    · rintro σ H4 ⟨kvs, ks, u3, S, rfl⟩
      refine run_nil ⟨kvs, ks, _, _, ?_, rfl⟩
      rw [seats_take hi]
      rwa [List.length_map, List.take_length] at S
  · rintro σ H1 ⟨kvA, ksA, u2, u3, S, rfl⟩
    rw [List.take_length] at S
    have s1 := S.same
    have atz : ∀ z ∈ ties n, ∃ la, valV kvA (Sum.inr z) = some (.ref la) ∧ H1 la = some (Lr ((pos n z).map (·.1))) := fun z hz => by
      obtain ⟨la, w1, w2, _⟩ := S.val1 z (fun k => by
        have := pos_len n z
        rw [hT z hz] at this
        rw [show pos n z = posIn (seats n) z from rfl, k] at this
        cases this)
      exact ⟨la, w1, w2⟩
    refine run_set 4 nd (ev_dict1 hu1 fun d hd => ev_int (ev_bl ⟨_, DPut.k (k := Sum.inl 0) upd_same (small' (Nat.zero_le _)), ?_⟩))
    rw [upd_upd]
    refine run_set 5 nd (ev_lst (ea_cons (ev_int (ea_nil ⟨(by show 1 ≤ sizeLine; decide), fun M hM => ?_⟩))))
    have nMd : M ≠ d := fun e => by rw [e, upd_same] at hM; cases hM
    have hM1 : H1 M = none := by rw [upd_ne nMd] at hM; exact hM
    have s0 : Same H1 (upd (upd H1 d (.dK (putK [] (Sum.inl 0) (.bl true)))) M (.lst [.int 0])) := (same_new hd _).trans (same_new hM _)
    have ed0 : (upd (upd H1 d (.dK (putK [] (Sum.inl 0) (.bl true)))) M (.lst [.int 0])) d = some (.dK (putK [] (Sum.inl 0) (.bl true))) := by rw [upd_ne (Ne.symm nMd), upd_same]
    have eM0 : (upd (upd H1 d (.dK (putK [] (Sum.inl 0) (.bl true)))) M (.lst [.int 0])) M = some (Lr [0]) := upd_same
    show Run _ _ _ [some (.ref R), some (.ref dA), u2, u3, some (.ref d), some (.ref M), none] (upd (upd H1 d (.dK (putK [] (Sum.inl 0) (.bl true)))) M (.lst [.int 0]))
    generalize upd (upd H1 d (.dK (putK [] (Sum.inl 0) (.bl true)))) M (.lst [.int 0]) = H0 at s0 ed0 eM0
    refine run_while (fun m σ H' => m ≤ 1000 ∧ ∃ (kvs : List (Key × V)) (lf : List Nat) (u3 u6 : Option V), Same H1 H' ∧ H' d = some (.dK kvs) ∧ H' M = some (Lr lf) ∧ JoI n (ties n) none kvs lf ∧ m = 2 * (n.length - kvs.length) + lf.length ∧ σ = [some (.ref R), some (.ref dA), u2, u3, some (.ref d), some (.ref M), u6]) (m0 := 2 * (n.length - 1) + 1) ⟨by omega, _, [0], _, _, s0, ed0, eM0, JoI.start h0, rfl, rfl⟩ ?_
    rintro m σ H2 ⟨hm, kvs, lf, u3, u6, s2, ed2, eM2, I, em, rfl⟩
    refine et_cmp (op_neD hu) (ev_v 5 (ev_lst (ea_nil ⟨(by show 0 ≤ sizeLine; decide), fun pe hpe => ?_⟩)))
    have se := same_new hpe (.lst [])
    have s2 := s2.trans se
    have ed2 := se _ _ ed2
    have eM2 := se _ _ eM2
    have epe : (upd H2 pe (.lst [])) pe = some (.lst []) := upd_same
    generalize upd H2 pe (.lst []) = H3 at s2 ed2 eM2 epe ⊢
    rcases List.eq_nil_or_concat lf with e | ⟨lf', hh, e⟩
    · subst e
      refine ⟨1, _, by decide, rnD_list (k := 0) (xs := []) (ys := []) (fun _ => true) (SqL.of eM2) (SqL.of epe) rfl (fun j x y hx _ => by simp at hx), _, rfl, iteF ?_⟩
      refine run_ret (ev_cmp op_eq (ev_blt call_lenD T.len boot_len (ea_cons (ev_v 4 (ea_nil ⟨d, kvs, rfl, ed2, ev_blt call_len_seq T.len boot_len (ea_cons (ev_v 0 (ea_nil ⟨R, _, rfl, .inl (SqL.of ((s1.trans s2) _ _ hR.lst)), rfl, ?_⟩)))⟩)))))
      rw [List.length_map, hal]
      have e : decide (V.int (kvs.length : Int) = V.int (n.length : Int)) = decide (Whl n) := by
        rw [decide_eq_decide]
        refine Iff.trans ?_ (I.whole hT h0 hN)
        constructor
        · intro h
          have h := V.int.inj h
          omega
        · intro h
          rw [h]
      rw [e]
      exact q H3 (s1.trans s2)
    rw [List.concat_eq_append] at e
    subst e
    have lw : (lf' ++ [hh]).length = lf'.length + 1 := by rw [List.length_append]; rfl
    refine ⟨1, _, by decide, rnD_lens (k := 1) (SqL.of eM2) (SqL.of (xs := []) epe) (by rw [List.length_map, lw]; exact Nat.succ_ne_zero _), _, rfl, iteT ?_⟩
    obtain ⟨hy, hdl⟩ := last_int lf' hh
    have I1 := I.pop
    rw [lw] at em
    have hhl := I1.lt (I1.hrh hh 0 rfl)
    have hR1 := hR.same s1
    obtain ⟨a, ea, eat, et1, el1, er⟩ := hR1.at hhl
    have sA : Same H1 (upd H3 M (Lr lf')) := same_mut s2 hM1
    have edA : (upd H3 M (Lr lf')) d = some (.dK kvs) := by rw [upd_ne (Ne.symm nMd)]; exact ed2
    have eMA : (upd H3 M (Lr lf')) M = some (Lr lf') := upd_same
    refine run_forL (ev_ix ix_tup (ev_ix ix_list (ev_v 0 (ev_m0 PySem.F.plainAttrs_list PySem.F.slot_list_pop PySem.F.type_list_pop mt_pop (ev_v 5 (v := .ref M) ⟨Or.inl ⟨rfl, _, SqL.of eM2⟩, M, _, .int (hh : Int), rfl, rfl, eM2, hy, ?_⟩)))))
    rw [hdl]
    generalize upd H3 M (Lr lf') = HA at sA edA eMA
    refine ⟨R, _, _, .ref a.1, rfl, rfl, SqL.of (sA _ _ hR1.lst), eat, ev_int ⟨a.1, _, _, .ref a.2, rfl, rfl, SqT.of (sA _ _ et1), rfl, a.2, rfl, ⟨_, SqL.of (sA _ _ el1)⟩, ?_⟩⟩
    refine loop_list (xs := (row n hh).map V.str) (fun i σ H' => ∃ (kvs : List (Key × V)) (lf : List Nat) (u3 u6 : Option V), Same H1 H' ∧ H' d = some (.dK kvs) ∧ H' M = some (Lr lf) ∧ JoI n (ties n) (some (hh, i)) kvs lf ∧ 2 * (n.length - kvs.length) + lf.length < m ∧ σ = [some (.ref R), some (.ref dA), u2, u3, some (.ref d), some (.ref M), u6]) ⟨kvs, lf', _, _, sA, edA, eMA, I1, by omega, rfl⟩ ?_ ?_ ?_
    · rintro i σ H' _ ⟨_, _, _, _, sm, _⟩
      exact SqL.of (sm _ _ el1)
    · rintro i x σ HB hx ⟨kvs, lf, u3, u6, sB, ed, eM, I, hlt, rfl⟩
      rw [List.getElem?_map, Option.map_eq_some_iff] at hx
      obtain ⟨z, hz, rfl⟩ := hx
      have hz : tieAt n (hh, i) = some z := hz
      have hzt := tie_mem hz
      obtain ⟨la, w1, w2⟩ := atz z hzt
      obtain ⟨pa, pb, hp, hab, hor⟩ := pos_two hT hz
      have hoth : (pos n z).map (·.1) = [hh, (other n (hh, i)).1] ∨ (pos n z).map (·.1) = [(other n (hh, i)).1, hh] := by
        rcases hor with k | k
        · left
          rw [hp, show other n (hh, i) = pb from ?_, ← k]
          · rfl
          · unfold other
            rw [hz]
            simp only [hp]
            rw [k]
            simp
        · right
          rw [hp, show other n (hh, i) = pa from ?_, ← k]
          · rfl
          · unfold other
            rw [hz]
            simp only [hp]
            rw [k]
            simp [Ne.symm hab, hab]
      generalize hl : (pos n z).map (·.1) = l at w2 hoth
      have ml : ∀ x ∈ l, x = hh ∨ x = (other n (hh, i)).1 := fun x hx => by
        rcases hoth with k | k <;> (rw [k] at hx; simp at hx; omega)
      have mo : (other n (hh, i)).1 ∈ l := by rcases hoth with k | k <;> (rw [k]; simp)
      refine eg_name 3 nd ?_
      refine run_forL (ev_dget hu1 (ev_v 1 (ev_v 3 ⟨dA, .ref la, rfl, by rw [← w1]; exact DGet.k (k := Sum.inr z) (sB _ _ S.dict), la, rfl, ⟨_, SqL.of (sB _ _ w2)⟩, ?_⟩)))
      refine loop_list (xs := l.map fun (r : Nat) => V.int (r : Int)) (fun j σ H' => ∃ (kvs : List (Key × V)) (lf : List Nat) (u6 : Option V), Same H1 H' ∧ H' d = some (.dK kvs) ∧ H' M = some (Lr lf) ∧ JoI n (ties n) (some (hh, i)) kvs lf ∧ ((other n (hh, i)).1 ∈ l.take j → hasN kvs (other n (hh, i)).1) ∧ 2 * (n.length - kvs.length) + lf.length < m ∧ σ = [some (.ref R), some (.ref dA), u2, some (.str z), some (.ref d), some (.ref M), u6]) ⟨kvs, lf, _, sB, ed, eM, I, fun h => (by simp at h), hlt, rfl⟩ ?_ ?_ ?_
      · rintro j σ H' _ ⟨_, _, _, sm, _⟩
        exact SqL.of (sm _ _ w2)
      · rintro j x σ HC hx ⟨kvs, lf, u6, sC, ed, eM, I, ho, hlt, rfl⟩
        rw [List.getElem?_map, Option.map_eq_some_iff] at hx
        obtain ⟨x, hx, rfl⟩ := hx
        have tk : l.take (j + 1) = l.take j ++ [x] := by rw [List.take_add_one, hx]; rfl
        refine eg_name 6 nd ?_
        refine run_if (et_dnotin hu1 (ev_v 6 (ev_v 4 ⟨d, _, rfl, DGet.k (k := Sum.inl (x : Int)) ed, ?_⟩)))
        cases hg : valV kvs (Sum.inl (x : Int)) with
        | some v =>
          refine iteF (run_nil (run_nil ⟨kvs, lf, _, sC, ed, eM, I, fun h => ?_, hlt, rfl⟩))
          rw [tk] at h
          rcases List.mem_append.mp h with k | k
          · exact ho k
          · have e := (I.val x v hg).1
            rw [List.mem_singleton.mp k]
            rw [e] at hg
            exact hg
        | none =>
          have hxo : x = (other n (hh, i)).1 := by
            rcases ml x (List.mem_of_getElem? hx) with k | k
            · have := I.hrh hh i rfl
              rw [k] at hg
              exact absurd (hg.symm.trans this) (by simp)
            · exact k
          subst hxo
          refine iteT ?_
          have I' := I.new hT hz hzt hg
          have lk := I.len
          have lk' := I'.len
          have hkl : (putK kvs (Sum.inl ((other n (hh, i)).1 : Int)) (.bl true)).length = kvs.length + 1 := by
            have := congrArg List.length (keysP kvs (Sum.inl ((other n (hh, i)).1 : Int)) (.bl true))
            rw [if_neg (val_none hg), List.length_append, List.length_map, List.length_map] at this
            exact this
          refine run_dput hu1 (ev_bl (ev_v 4 (ev_v 6 ⟨d, _, rfl, DPut.k (k := Sum.inl ((other n (hh, i)).1 : Int)) ed (small' (by omega)), ?_⟩)))
          have eM' : (upd HC d (.dK (putK kvs (Sum.inl ((other n (hh, i)).1 : Int)) (.bl true)))) M = some (Lr lf) := by rw [upd_ne nMd]; exact eM
          refine run_expr (ev_append (ev_v 5 ⟨M, rfl, ⟨_, eM'⟩, ev_v 6 ⟨_, eM', by rw [List.length_map]; exact small' (by omega), ?_⟩⟩))
          refine run_nil (run_nil ⟨_, lf ++ [(other n (hh, i)).1], _, same_mut (same_mut sC hd) hM1, ?_, ?_, I'.back, fun _ => ?_, ?_, rfl⟩)
          · rw [upd_ne (Ne.symm nMd)]
            exact upd_same
          · rw [upd_same]
            show some (HO.lst ((lf.map fun (r : Nat) => V.int (r : Int)) ++ [.int ((other n (hh, i)).1 : Int)])) = some (HO.lst ((lf ++ [(other n (hh, i)).1]).map fun (r : Nat) => V.int (r : Int)))
            rw [List.map_append]
            rfl
          · show valV _ _ = _
            rw [valV_put, if_pos rfl]
          · rw [hkl, List.length_append]
            rw [hkl] at lk'
            show _ + (lf.length + 1) < m
            omega
      · rintro σ HC ⟨kvs, lf, u6, sC, ed, eM, I, ho, hlt, rfl⟩
        rw [List.length_map, List.take_length] at ho
        exact run_nil ⟨kvs, lf, _, _, sC, ed, eM, I.step hz fun _ => ho mo, hlt, rfl⟩
    · rintro σ HB ⟨kvs, lf, u3, u6, sB, ed, eM, I, hlt, rfl⟩
      rw [List.length_map] at I
      exact run_nil ⟨_, hlt, by omega, kvs, lf, _, _, sB, ed, eM, I.close (Nat.le_refl _), rfl, rfl⟩
noncomputable abbrev NK : List Str := ["_law_rows", "_law_tie", "_law_held", "_law_far", "_law_at", "_law_ring", "_law_made", "_law_r", "_law_near", "_law_place"]
noncomputable abbrev NK' : List Str := ["_law_rows", "_law_tie", "_law_held", "_law_far", "_law_at", "_law_ring", "_law_made", "?", "_law_near", "_law_place", "_law_r"]
theorem scK : FnScope NK ["_law_rows", "_law_tie"] (defScope s_l_shrink) := ⟨rfl, rfl, rfl, by decide +kernel, rfl, by decide +kernel, by decide +kernel⟩
theorem nd_k' : NK'.Nodup := by decide +kernel
noncomputable abbrev ixs (l : List Nat) : List V := l.map fun (r : Nat) => V.int (r : Int)
theorem ok_lshr {f : Addr} {fd : FuncData} (F : Fun K "_law_shrink" "_law_shrink" s_l_shrink f fd) (T : Txt mg) : FnOk P w K mg base CX0 1 f fd ["_law_rows", "_law_tie"] spShrL := by
  refine F.gb scK (fun vs H Q E h => ?_) (fun b0 H vs Q E hr h => ?_)
  · obtain ⟨R, as, n, z, r0, r1, rfl, _⟩ := h
    rfl
  obtain ⟨R, as, n, z, r0, r1, rfl, hR, hn, ht, h2, q⟩ := h
  have nd := scK.nd
  have hal := hR.len
  have tw := two_of h2
  show Run _ _ _ [some (.ref R), some (.str z), none, none, none, none, none, none, none, none] H
  refine run_setC 2 (defScope s_l_shrink) NK NK' 1 nd (pi_range1 rfl T.range pa_ea) (ea_cons (ev_blt call_len_seq T.len boot_len (ea_cons (ev_v 0 (ea_nil ⟨R, _, rfl, .inl (SqL.of hR.lst), ea_nil ⟨_, rfl, ?_, ?_, fun D hD => ?_⟩⟩)))))
  · rw [List.length_map]; omega
  · rw [List.length_map]; omega
  rw [List.length_map, Int.toNat_natCast, hal]
  refine comp_rng (fun i σ' H' => (∃ v, σ' = [some (.ref R), some (.str z), none, none, none, none, none, none, none, none] ++ [v]) ∧ Same H H' ∧ H' D = some (.lst (ixs (hldK n z i)))) ⟨⟨_, rfl⟩, same_new hD _, upd_same⟩ ?_ ?_
  · rintro i σ' H' hi ⟨⟨v, rfl⟩, sm, eD⟩
    obtain ⟨a, ea, eat, et, el, er⟩ := (hR.same sm).at hi
    rw [Int.zero_add]
    intro cl' C' s₀ H₀ ex
    refine eg_name 10 nd_k' ?_
    intro cl' C' s₀ H₀ ex
    refine ei_one (et_cmp op_in_seq (ev_v 1 (ev_ix ix_tup (ev_ix ix_list (ev_v 0 (ev_v 10 ⟨R, _, _, .ref a.1, rfl, rfl, SqL.of (sm _ _ hR.lst), eat, ev_int ⟨a.1, _, _, .ref a.2, rfl, rfl, SqT.of et, rfl, a.2, _, rfl, .inl (SqL.of el), rfl, flat_strs _, _, rfl, ?_⟩⟩))))))
    rw [if_neg Bool.false_ne_true, inV_strs, contains_dec]
    refine ite2 (fun k => ?_) (fun k => ⟨⟨_, rfl⟩, sm, ?_⟩)
    · intro cl' C' s₀ H₀ ex
      have := mem_hl (n := n) (z := z) (i := i)
      rw [List.length_map] at this
      refine ev_v 10 ⟨_, eD, small' (by rw [List.length_map]; omega), ⟨_, rfl⟩, same_mut sm hD, ?_⟩
      rw [hldK_succ, if_pos (of_decide_eq_true k), upd_same]
      show _ = some (HO.lst (List.map _ (_ ++ _)))
      rw [List.map_append]
      rfl
    · rw [hldK_succ, if_neg (fun y => k (decide_eq_true y)), List.append_nil]
      exact eD
  rintro σ' H2 ⟨_, s2, eD⟩
  rw [show hldK n z n.length = [r0, r1] from h2] at eD
  have hR2 := hR.same s2
  have l0 := rowLe tw.l0
  have l1 := rowLe tw.l1
  obtain ⟨a1, ea1, eat1, et1, el1, er1⟩ := hR2.at tw.l1
  show Run _ _ _ [some (.ref R), some (.str z), some (.ref D), none, none, none, none, none, none, none] H2
  refine run_set 3 nd (ev_ix ix_tup (ev_ix ix_list (ev_v 0 (ev_ix ix_list (ev_v 2 (ev_int ⟨D, _, _, .int (r1 : Int), rfl, rfl, SqL.of eD, rfl, R, _, _, .ref a1.1, rfl, rfl, SqL.of hR2.lst, eat1, ev_int ⟨a1.1, _, _, .ref a1.2, rfl, rfl, SqT.of et1, rfl, ?_⟩⟩))))))
  show Run _ _ _ [some (.ref R), some (.str z), some (.ref D), some (.ref a1.2), none, none, none, none, none, none] H2
  refine run_set 4 nd (ev_index el1 tw.m1 (by omega) (fun R h => ev_v 3 h) (fun R h => ev_v 1 h) ?_)
  show Run _ _ _ [some (.ref R), some (.str z), some (.ref D), some (.ref a1.2), some (.int (ixOf (row n r1) z : Int)), none, none, none, none, none] H2
  refine run_set 5 nd (ev_op op_cat (ev_frm el1 (fun R h => ev_v 3 h) (fun R h => ev_v 4 h) fun p1 h1 => ?_))
  have s3 := same_new h1 (Ls ((row n r1).drop (ixOf (row n r1) z + 1)))
  refine ev_to (s3 _ _ el1) (fun R h => ev_v 3 h) (fun R h => ev_v 4 h) fun p2 hp2 => ?_
  have s4 := same_new hp2 (Ls ((row n r1).take (ixOf (row n r1) z)))
  refine cat_strs (s4 _ _ upd_same) upd_same (by simp only [List.length_take, List.length_drop]; omega) fun rg hrg => ?_
  generalize hyy : (row n r1).drop (ixOf (row n r1) z + 1) ++ (row n r1).take (ixOf (row n r1) z) = yy
  have lyy : yy.length ≤ 900 := by rw [← hyy]; simp only [List.length_append, List.length_take, List.length_drop]; omega
  have s5 := same_new hrg (Ls yy)
  have s25 := s3.trans (s4.trans s5)
  have erg : (upd (upd (upd H2 p1 (Ls ((row n r1).drop (ixOf (row n r1) z + 1)))) p2 (Ls ((row n r1).take (ixOf (row n r1) z)))) rg (Ls yy)) rg = some (Ls yy) := upd_same
  generalize upd (upd (upd H2 p1 (Ls ((row n r1).drop (ixOf (row n r1) z + 1)))) p2 (Ls ((row n r1).take (ixOf (row n r1) z)))) rg (Ls yy) = H5 at s25 erg
  have sA := s2.trans s25
  refine run_set 6 nd (ev_lst (ea_nil ⟨(by show 0 ≤ sizeLine; decide), fun M hM => ?_⟩))
  have nM0 := free_back sA hM
  have s6 := same_new hM (.lst [])
  have hR6 := hR.same (sA.trans s6)
  have eD6 := (s25.trans s6) _ _ eD
  show Run _ _ _ [some (.ref R), some (.str z), some (.ref D), some (.ref a1.2), some (.int (ixOf (row n r1) z : Int)), some (.ref rg), some (.ref M), none, none, none] _
  refine run_forR1 T.range (ev_blt call_len_seq T.len boot_len (ea_cons (ev_v 0 (ea_nil ⟨R, _, rfl, .inl (SqL.of hR6.lst), ?_⟩))))
  rw [List.length_map, hal]
  refine ⟨(n.length : Int), rfl, by omega, by omega, loop_range (n := n.length) (fun i σ' H' => (∃ v7 v8 v9, σ' = [some (.ref R), some (.str z), some (.ref D), some (.ref a1.2), some (.int (ixOf (row n r1) z : Int)), some (.ref rg), some (.ref M), v7, v8, v9]) ∧ Same H5 H' ∧ ∃ bs, Bld H H' M bs (shrK n z r0 r1 i)) ⟨⟨_, _, _, rfl⟩, s6, [], Bld.nil upd_same⟩ ?_ ?_⟩
  · rintro i σ' H' hi ⟨⟨v7, v8, v9, rfl⟩, sm, bs, hB⟩
    have e0 : (0 : Int) + (i : Int) = (i : Int) := Int.zero_add _
    have sB := sA.trans sm
    have hRB := hR.same sB
    have eDB := (s25.trans sm) _ _ eD
    have ergB := sm _ _ erg
    obtain ⟨a, ea, eat, et, el, er⟩ := hRB.at hi
    rw [← nmA_eq hi] at et
    have li := rowLe hi
    have bl := hB.rows.len
    have kl := shrK_len (n := n) (z := z) (r0 := r0) (r1 := r1) (k := i)
    refine eg_name 7 nd ?_
    rw [e0]
    refine run_set 8 nd (ev_ix ix_tup (ev_ix ix_list (ev_v 0 (ev_v 7 ⟨R, _, _, .ref a.1, rfl, rfl, SqL.of hRB.lst, eat, ev_int ⟨a.1, _, _, .ref a.2, rfl, rfl, SqT.of et, rfl, ?_⟩⟩))))
    show Run _ _ _ [some (.ref R), some (.str z), some (.ref D), some (.ref a1.2), some (.int (ixOf (row n r1) z : Int)), some (.ref rg), some (.ref M), some (.int (i : Int)), some (.ref a.2), v9] H'
    refine run_if (et_cmp op_eq (ev_v 7 (ev_ix ix_list (ev_v 2 (ev_int ⟨D, _, _, .int (r0 : Int), rfl, rfl, SqL.of eDB, rfl, rfl, _, rfl, ?_⟩)))))
    by_cases c0 : i = r0
    · subst c0
      rw [decide_eq_true (rfl : V.int (i : Int) = V.int (i : Int))]
      refine iteT (run_set 9 nd (ev_index el tw.m0 (by omega) (fun R h => ev_v 8 h) (fun R h => ev_v 1 h) ?_))
      show Run _ _ _ [some (.ref R), some (.str z), some (.ref D), some (.ref a1.2), some (.int (ixOf (row n r1) z : Int)), some (.ref rg), some (.ref M), some (.int (i : Int)), some (.ref a.2), some (.int (ixOf (row n i) z : Int))] H'
      refine run_expr (ev_append (ev_v 6 ⟨M, rfl, ⟨_, hB.rows.lst⟩, ev_tup (ea_cons (ev_ix ix_tup (ev_ix ix_list (ev_v 0 (ev_v 7 ⟨R, _, _, .ref a.1, rfl, rfl, SqL.of hRB.lst, eat, ev_int ⟨a.1, _, _, .str (nmA n i), rfl, rfl, SqT.of et, rfl, ?_⟩⟩)))))⟩))
      refine ea_cons (ev_op op_cat (ev_op op_cat (ev_to el (fun R h => ev_v 8 h) (fun R h => ev_v 9 h) fun p3 h3 => ev_v 5 ?_)))
      have t1 := same_new h3 (Ls ((row n i).take (ixOf (row n i) z)))
      refine cat_strs upd_same (t1 _ _ ergB) (by simp only [List.length_take]; omega) fun p4 h4 => ?_
      have t2 := same_new h4 (Ls ((row n i).take (ixOf (row n i) z) ++ yy))
      refine ev_frm (t2 _ _ (t1 _ _ el)) (fun R h => ev_v 8 h) (fun R h => ev_v 9 h) fun p5 h5 => ?_
      have t3 := same_new h5 (Ls ((row n i).drop (ixOf (row n i) z + 1)))
      refine cat_strs (t3 _ _ upd_same) upd_same (by simp only [List.length_append, List.length_take, List.length_drop]; omega) fun p6 h6 => ?_
      have t4 := same_new h6 (Ls ((row n i).take (ixOf (row n i) z) ++ yy ++ (row n i).drop (ixOf (row n i) z + 1)))
      have tA := t1.trans (t2.trans t3)
      have hp60 : H' p6 = none := free_back tA h6
      have hj : (row n i).take (ixOf (row n i) z) ++ yy ++ (row n i).drop (ixOf (row n i) z + 1) = joinL (row n i) (row n r1) z := by rw [← hyy]; rfl
      have tB := tA.trans t4
      rw [hj] at tB ⊢
      refine ea_nil ⟨(by show 2 ≤ sizeLine; decide), fun t ht => ?_⟩
      have hB4 := hB.same tB
      refine ⟨bs.map fun a => V.ref a.1, ?_, ?_, run_nil (run_nil ⟨⟨_, _, _, rfl⟩, ?_, bs ++ [(t, p6)], ?_⟩)⟩
      · rw [upd_ne (fun e => by rw [← e, hB4.rows.lst] at ht; cases ht)]
        exact hB4.rows.lst
      · rw [List.length_map]
        exact small' (by omega)
      · exact same_mut (sm.trans (tB.trans (same_new ht _))) hM
      · rw [shrK_succ, if_neg tw.ne]
        have := hB4.add (p := nmA n i) (l := p6) (t := t) (zs := joinL (row n i) (row n r1) z) upd_same (free_back (sB.trans tA) h6) (fun k => by
          obtain ⟨a', ha', e'⟩ := List.mem_map.mp k
          have := (hB.in_heap ha').2
          rw [e', hp60] at this
          exact this rfl) (fun e => by rw [e, hB.rows.lst] at hp60; cases hp60) ht (free_back (sB.trans tB) ht)
        unfold shrR
        rw [if_pos rfl]
        exact this
    · rw [decide_eq_false (fun k : V.int (i : Int) = V.int (r0 : Int) => c0 (by have := V.int.inj k; omega))]
      refine iteF (run_if (et_cmp op_ne (ev_v 7 (ev_ix ix_list (ev_v 2 (ev_int ⟨D, _, _, .int (r1 : Int), rfl, rfl, SqL.of eDB, rfl, rfl, _, rfl, ?_⟩))))))
      by_cases c1 : i = r1
      · subst c1
        rw [decide_eq_true (rfl : V.int (i : Int) = V.int (i : Int))]
        refine iteF (run_nil (run_nil (run_nil ⟨⟨_, _, _, rfl⟩, sm, bs, ?_⟩)))
        rw [shrK_succ, if_pos rfl, List.append_nil]
        exact hB
      rw [decide_eq_false (fun k : V.int (i : Int) = V.int (r1 : Int) => c1 (by have := V.int.inj k; omega))]
      refine iteT (run_expr (ev_append (ev_v 6 ⟨M, rfl, ⟨_, hB.rows.lst⟩, ev_tup (ea_cons (ev_ix ix_tup (ev_ix ix_list (ev_v 0 (ev_v 7 ⟨R, _, _, .ref a.1, rfl, rfl, SqL.of hRB.lst, eat, ev_int ⟨a.1, _, _, .str (nmA n i), rfl, rfl, SqT.of et, rfl, ?_⟩⟩)))))⟩)))
      refine ea_cons (ev_typ call_list_of T.tlist PyProof.Rows.boot_list (ea_cons (ev_v 8 (ea_nil ⟨a.2, _, rfl, .inl (SqL.of el), fun l hl => ea_nil ⟨(by show 2 ≤ sizeLine; decide), fun t ht => ?_⟩⟩))))
      have s7 := same_new hl (Ls (row n i))
      have hB5 := hB.same s7
      refine ⟨bs.map fun a => V.ref a.1, ?_, ?_, run_nil (run_nil (run_nil ⟨⟨_, _, _, rfl⟩, ?_, bs ++ [(t, l)], ?_⟩))⟩
      · rw [upd_ne (fun e => by rw [← e, hB5.rows.lst] at ht; cases ht)]
        exact hB5.rows.lst
      · rw [List.length_map]
        exact small' (by omega)
      · exact same_mut (sm.trans (s7.trans (same_new ht _))) hM
      · rw [shrK_succ, if_neg c1]
        have := hB5.add (p := nmA n i) (l := l) (t := t) (zs := row n i) upd_same (free_back sB hl) (fun k => by
          obtain ⟨a', ha', e'⟩ := List.mem_map.mp k
          have := (hB.in_heap ha').2
          rw [e', hl] at this
          exact this rfl) (fun e => by rw [e, hB.rows.lst] at hl; cases hl) ht (free_back (sB.trans s7) ht)
        unfold shrR
        rw [if_neg c0]
        exact this
  · rintro σ' H' ⟨⟨v7, v8, v9, rfl⟩, sm, bs, hB⟩
    exact run_ret (ev_v 6 (q M bs H' (sA.trans sm) nM0 hB.new hB.rows))
end
end V2
namespace Dt
variable {κ μ : Type}
theorem X_map (g : κ → μ) (r : μ → Int) : ∀ (cs : List κ) (f : List μ → Int), X r f (cs.map g) = X (fun c => r (g c)) (fun l => f (l.map g)) cs
  | [], _ => rfl
  | c :: cs, f => by
    show r (g c) * f (cs.map g) - X r (fun l => f (g c :: l)) (cs.map g) = _
    rw [X_map g r cs]
    rfl
theorem dt_map (g : κ → μ) : ∀ (rs : List (μ → Int)) (cs : List κ), dt rs (cs.map g) = dt (rs.map fun r c => r (g c)) cs
  | [], cs => by cases cs <;> rfl
  | r :: rs, cs => by
    show X r (dt rs) (cs.map g) = X (fun c => r (g c)) (dt (rs.map fun r c => r (g c))) cs
    rw [X_map]
    congr 1
    funext l
    exact dt_map g rs l
theorem mm_map (g : κ → μ) (l : μ → μ → Int) (C : List κ) : mm l (C.map g) = mm (fun x j => l (g x) (g j)) C := by
  show dt ((C.map g).map l) (C.map g) = dt (C.map fun x j => l (g x) (g j)) C
  rw [dt_map, List.map_map, List.map_map]
  rfl
variable [DecidableEq κ] [DecidableEq μ]
theorem Lp_ed {E : List (κ × κ)} {E' : List (μ × μ)} {x j : κ} {x' j' : μ} (F : κ × κ → μ × μ) (hE : E' = E.map F) (h : ∀ e ∈ E, ed (F e) x' * ed (F e) j' = ed e x * ed e j) : Lp (E'.map ed) x' j' = Lp (E.map ed) x j := by
  unfold Lp
  rw [hE, List.map_map, List.map_map, List.map_map]
  congr 1
  exact List.map_congr_left h
theorem De_ren (g : κ → μ) {C : List κ} {E : List (κ × κ)} (h : ∀ x ∈ C, ∀ e ∈ E, (g x = g e.1 → x = e.1) ∧ (g x = g e.2 → x = e.2)) : De (C.map g) (E.map fun e => (g e.1, g e.2)) = De C E := by
  show mm _ (C.map g) = mm _ C
  rw [mm_map]
  refine mm_congr fun x hx j hj => Lp_ed (fun e => (g e.1, g e.2)) rfl fun e he => ?_
  have k : ∀ y ∈ C, ed (g e.1, g e.2) (g y) = ed e y := fun y hy => by
    unfold ed
    have q1 : (g y = g e.1) = (y = e.1) := propext ⟨(h y hy e he).1, fun z => by rw [z]⟩
    have q2 : (g y = g e.2) = (y = e.2) := propext ⟨(h y hy e he).2, fun z => by rw [z]⟩
    show (if g y = g e.1 then (1 : Int) else 0) - (if g y = g e.2 then 1 else 0) = _
    simp only [q1, q2]
  rw [k x hx, k j hj]
theorem De_flip {τ : Type} {C : List κ} {ss : List τ} {f g : τ → κ × κ} (h : ∀ z ∈ ss, f z = g z ∨ f z = ((g z).2, (g z).1)) : De C (ss.map f) = De C (ss.map g) := mm_congr fun x _ j _ => by
  unfold Lp
  rw [List.map_map, List.map_map, List.map_map, List.map_map]
  congr 1
  refine List.map_congr_left fun z hz => ?_
  show ed (f z) x * ed (f z) j = ed (g z) x * ed (g z) j
  rcases h z hz with e | e
  · rw [e]
  · have k : ∀ y, ed ((g z).2, (g z).1) y = - ed (g z) y := fun y => by
      unfold ed
      show (if y = (g z).2 then (1 : Int) else 0) - (if y = (g z).1 then 1 else 0) = _
      omega
    rw [e, k, k]
    grind
theorem De_zero : ∀ (n : Nat) (E : List (κ × κ)), E.length = n → ∀ (C : List κ), C.Nodup → ∀ S : κ → Prop, (∃ x, S x) → (∀ x, S x → x ∈ C) → (∀ e ∈ E, S e.1 ↔ S e.2) → De C E = 0
  | _, [], _, C, _, S, ⟨x, hx⟩, hS, _ => by
    cases C with
    | nil => exact nomatch hS x hx
    | cons a C => exact De_none a C
  | 0, e :: E, hn, _, _, _, _, _, _ => nomatch hn
  | n + 1, (p, q) :: E, hn, C, hC, S, ⟨x, hx⟩, hS, hE => by
    have hl : E.length = n := by simpa using hn
    have hpq : S p ↔ S q := hE _ (List.mem_cons_self ..)
    have hE' : ∀ e ∈ E, S e.1 ↔ S e.2 := fun e he => hE e (List.mem_cons_of_mem _ he)
    rw [De_step hC, De_zero n E hl C hC S ⟨x, hx⟩ hS hE']
    have keep : ∀ a, ¬ S a → ∀ y, S y → y ∈ C.erase a := fun a ha y hy => (hC.mem_erase_iff).mpr ⟨fun z => ha (z ▸ hy), hS y hy⟩
    have : mg C p q E = 0 := by
      unfold mg
      by_cases h : p = q ∨ (p ∉ C ∧ q ∉ C)
      · rw [if_pos h]
      rw [if_neg h]
      have npq : p ≠ q := fun z => h (.inl z)
      by_cases hq : q ∉ C
      · rw [if_pos hq]
        exact De_zero n E hl _ (hC.erase p) S ⟨x, hx⟩ (keep p fun z => hq (hS q (hpq.mp z))) hE'
      rw [if_neg hq]
      by_cases hp : p ∉ C
      · rw [if_pos hp]
        exact De_zero n E hl _ (hC.erase q) S ⟨x, hx⟩ (keep q fun z => hp (hS p (hpq.mpr z))) hE'
      rw [if_neg hp]
      have lab : ∀ u, (S (if u = q then p else u) ∧ (if u = q then p else u) ≠ q) ↔ S u := fun u => by
        by_cases e : u = q
        · rw [if_pos e, e]
          exact ⟨fun k => hpq.mp k.1, fun k => ⟨hpq.mpr k, npq⟩⟩
        · rw [if_neg e]
          exact ⟨fun k => k.1, fun k => ⟨k, e⟩⟩
      refine De_zero n (E.map (rl q p)) (by rw [List.length_map]; exact hl) _ (hC.erase q) (fun y => S y ∧ y ≠ q) ⟨_, (lab x).mpr hx⟩ (fun y hy => (hC.mem_erase_iff).mpr ⟨hy.2, hS y hy.1⟩) fun e he => ?_
      obtain ⟨d, hd, rfl⟩ := List.mem_map.mp he
      show (S (if d.1 = q then p else d.1) ∧ (if d.1 = q then p else d.1) ≠ q) ↔ (S (if d.2 = q then p else d.2) ∧ (if d.2 = q then p else d.2) ≠ q)
      rw [lab, lab]
      exact hE' d hd
    rw [this]
    rfl
end Dt
namespace Nt
open PySem L2
theorem row_none (z : Str) (k : Nat) : ∀ (m : Net) (j : Nat), k < j → (posIn (seatsFrom j m) z).filter (fun e => decide (e.1 = k + 0)) = []
  | [], j, _ => rfl
  | y :: m, j, hj => by
    have e : seatsFrom j (y :: m) = rowSeats j y.2 0 ++ seatsFrom (j + 1) m := rfl
    rw [e, posIn_app, List.filter_append, row_none z k m (j + 1) (by omega), List.append_nil]
    exact List.filter_eq_nil_iff.mpr fun e he q => by
      have := rowSeats_fst he
      have := of_decide_eq_true q
      omega
theorem row_cnt (z : Str) : ∀ (m : Net) (k r : Nat), ((posIn (seatsFrom k m) z).filter fun e => decide (e.1 = k + r)).length = (row m r).count z
  | [], k, r => by
    unfold row
    rfl
  | x :: m, k, r => by
    have e : seatsFrom k (x :: m) = rowSeats k x.2 0 ++ seatsFrom (k + 1) m := rfl
    rw [e, posIn_app, List.filter_append, List.length_append]
    cases r with
    | zero =>
      have h1 : (posIn (rowSeats k x.2 0) z).filter (fun e => decide (e.1 = k + 0)) = posIn (rowSeats k x.2 0) z := List.filter_eq_self.mpr fun e he => decide_eq_true (rowSeats_fst he)
      rw [h1, row_none z k m (k + 1) (by omega), rowSeats_pos]
      rfl
    | succ r =>
      have h1 : (posIn (rowSeats k x.2 0) z).filter (fun e => decide (e.1 = k + (r + 1))) = [] := List.filter_eq_nil_iff.mpr fun e he q => by
        have := rowSeats_fst he
        have := of_decide_eq_true q
        omega
      have ih := row_cnt z m (k + 1) r
      rw [show k + 1 + r = k + (r + 1) by omega] at ih
      rw [h1, ih]
      show 0 + _ = (row m r).count z
      omega
noncomputable def Ends2 (n : Net) (z : Str) (p : Nat × Nat) : Prop := ∀ r, (row n r).count z = (if r = p.1 then 1 else 0) + (if r = p.2 then 1 else 0)
theorem ends2_of {n : Net} (T : Twice n) {z : Str} (hz : z ∈ ties n) : Ends2 n z (prE n z) := fun r => by
  obtain ⟨a, b, hp⟩ := tie_pos T hz
  have := row_cnt z n 0 r
  rw [show posIn (seatsFrom 0 n) z = pos n z from rfl, hp] at this
  rw [← this, prE_eq hp]
  simp only [List.filter_cons, List.filter_nil, Nat.zero_add]
  by_cases h1 : a.1 = r <;> by_cases h2 : b.1 = r <;> simp [h1, h2, @eq_comm Nat r]
theorem ends2_same {n m : Net} {z : Str} {p q : Nat × Nat} (hp : ∀ r, (row n r).count z = (if r = p.1 then 1 else 0) + (if r = p.2 then 1 else 0)) (hq : ∀ r, (row n r).count z = (if r = q.1 then 1 else 0) + (if r = q.2 then 1 else 0)) : p = q ∨ p = (q.2, q.1) := by
  obtain ⟨a, b⟩ := p
  obtain ⟨c, d⟩ := q
  have h1 := hp a
  have h2 := hq a
  have h3 := hp b
  have h4 := hq b
  have h5 := hp c
  have h6 := hq c
  simp only [if_true] at h1 h2 h3 h4 h5 h6
  by_cases e1 : a = c
  · left
    subst e1
    by_cases e2 : b = d
    · rw [e2]
    · exfalso
      by_cases e3 : b = a <;> by_cases e4 : a = d <;> simp_all <;> omega
  · right
    have e2 : a = d := by
      by_cases e2 : a = d
      · exact e2
      · exfalso
        rw [if_neg e1, if_neg e2] at h2
        omega
    subst e2
    by_cases e3 : b = c
    · rw [e3]
    · exfalso
      have e1' : ¬ c = a := fun z => e1 z.symm
      have e3' : ¬ c = b := fun z => e3 z.symm
      rw [if_neg e1', if_neg e3'] at h5
      rw [h5] at h6
      omega
noncomputable def nTr (n : Net) (ss : List Str) : Int := Dt.De ((List.range (n.length - 1)).map (· + 1)) (ss.map (prE n))
theorem outN_row (n : Net) (z : Str) (r : Nat) : row (outN n z) r = (row n r).filter fun y => decide (y ≠ z) := by
  unfold row outN
  rw [List.getElem?_map]
  cases n[r]? <;> rfl
theorem outN_mem {n : Net} {z w : Str} : w ∈ ties (outN n z) ↔ w ∈ ties n ∧ w ≠ z := by
  rw [outN_ties, List.mem_filter, decide_eq_true_eq]
theorem outN_pr {n : Net} (T : Twice n) {z w : Str} (hw : w ∈ ties n) (hz : w ≠ z) : prE (outN n z) w = prE n w ∨ prE (outN n z) w = ((prE n w).2, (prE n w).1) := by
  refine ends2_same (n := n) (m := n) (z := w) (fun r => ?_) (ends2_of T hw)
  have := ends2_of (outN_twice T) (outN_mem.mpr ⟨hw, hz⟩) r
  rw [outN_row, List.count_filter (p := fun y => decide (y ≠ z)) (decide_eq_true hz)] at this
  exact this
theorem nTr_out {n : Net} (T : Twice n) {z : Str} {ss : List Str} (h : ∀ w ∈ ss, w ∈ ties n ∧ w ≠ z) : nTr (outN n z) ss = Dt.De ((List.range (n.length - 1)).map (· + 1)) (ss.map (prE n)) := by
  unfold nTr
  rw [outN_len]
  exact Dt.De_flip fun w hw => outN_pr T (h w hw).1 (h w hw).2
theorem two_lt {n : Net} {z : Str} {r0 r1 : Nat} (h : hld n z = [r0, r1]) : r0 < r1 := by
  have p : (hld n z).Pairwise (· < ·) := List.Pairwise.filter _ List.pairwise_lt_range
  rw [h] at p
  exact (List.pairwise_cons.mp p).1 r1 (List.mem_singleton.mpr rfl)
theorem join_cnt {a b : List Str} {z w : Str} (ha : z ∈ a) (hb : z ∈ b) : (joinL a b z).count w + (if w = z then 2 else 0) = a.count w + b.count w := by
  have q : ∀ {l : List Str}, z ∈ l → (l.take (ixOf l z)).count w + (l.drop (ixOf l z + 1)).count w + (if w = z then 1 else 0) = l.count w := fun {l} hl => by
    obtain ⟨h1, _⟩ := ixOf_at hl
    obtain ⟨hi, e⟩ := List.getElem?_eq_some_iff.mp h1
    have s : l = l.take (ixOf l z) ++ l[ixOf l z] :: l.drop (ixOf l z + 1) := by rw [← List.drop_eq_getElem_cons hi, List.take_append_drop]
    rw [e] at s
    have c := congrArg (List.count w) s
    rw [List.count_append, List.count_cons] at c
    by_cases k : w = z
    · rw [if_pos k]
      rw [if_pos (by simpa using k.symm)] at c
      omega
    · rw [if_neg k]
      rw [if_neg (by simpa using fun x => k (Eq.symm x))] at c
      omega
  have q1 := q ha
  have q2 := q hb
  unfold joinL
  simp only [List.count_append]
  by_cases k : w = z
  · rw [if_pos k] at q1 q2 ⊢
    omega
  · rw [if_neg k] at q1 q2 ⊢
    omega
section
variable {n : Net} {z : Str} {r0 r1 : Nat}
theorem shr_at (tw : Two n z r0 r1) (i : Nat) : (shr n z r0 r1)[i]? = if i < n.length - 1 then some (shrR n z r0 r1 (if i < r1 then i else i + 1)) else none := by
  have l1 := tw.l1
  have e : (List.range n.length).filter (fun r => decide (r ≠ r1)) = (List.range n.length).eraseIdx r1 := by
    have h := (List.nodup_range (n := n.length)).erase_eq_filter r1
    rw [show (List.range n.length).filter (fun r => decide (r ≠ r1)) = (List.range n.length).filter (fun x => x != r1) by
      refine List.filter_congr fun x _ => ?_
      by_cases k : x = r1 <;> simp [k], ← h, List.erase_eq_eraseIdx]
    have : List.idxOf? r1 (List.range n.length) = some r1 := by
      rw [List.idxOf?_eq_some_iff]
      refine ⟨by rw [List.length_range]; exact l1, by simp, fun j hj => by simp; omega⟩
    rw [this]
  show (((List.range n.length).filter fun r => decide (r ≠ r1)).map (shrR n z r0 r1))[i]? = _
  rw [e, List.getElem?_map, List.getElem?_eraseIdx]
  by_cases h1 : i < r1
  · rw [if_pos h1, if_pos (by omega), if_pos h1, List.getElem?_range (by omega)]
    rfl
  · rw [if_neg h1, if_neg h1]
    by_cases h2 : i < n.length - 1
    · rw [if_pos h2, List.getElem?_range (by omega)]
      rfl
    · rw [if_neg h2, List.getElem?_eq_none (by rw [List.length_range]; omega)]
      rfl
theorem shr_len (tw : Two n z r0 r1) : (shr n z r0 r1).length = n.length - 1 := by
  have h := shr_at tw
  refine Nat.le_antisymm ?_ ?_
  · refine Nat.le_of_not_lt fun k => ?_
    have := h (n.length - 1)
    rw [if_neg (by omega), List.getElem?_eq_none_iff] at this
    omega
  · refine Nat.le_of_not_lt fun k => ?_
    have := h (shr n z r0 r1).length
    rw [if_pos k, List.getElem?_eq_none (Nat.le_refl _)] at this
    cases this
theorem shr_row (tw : Two n z r0 r1) (i : Nat) : row (shr n z r0 r1) i = if i < n.length - 1 then (if (if i < r1 then i else i + 1) = r0 then joinL (row n r0) (row n r1) z else row n (if i < r1 then i else i + 1)) else [] := by
  unfold row
  rw [shr_at tw]
  by_cases h : i < n.length - 1
  · rw [if_pos h, if_pos h]
    rfl
  · rw [if_neg h, if_neg h]
    rfl
theorem row_over {n : Net} {i : Nat} (h : n.length ≤ i) : row n i = [] := by
  unfold row
  rw [List.getElem?_eq_none h]
  rfl
theorem pos_le {n : Net} {z : Str} {a b : End} (h : pos n z = [a, b]) : a.1 ≤ b.1 := by
  have p : ∀ (m : Net) (k : Nat), (seatsFrom k m).Pairwise (fun x y => x.2.1 ≤ y.2.1) ∧ ∀ x ∈ seatsFrom k m, k ≤ x.2.1 := fun m => by
    induction m with
    | nil => exact fun k => ⟨List.Pairwise.nil, fun x hx => nomatch hx⟩
    | cons y m ih =>
      intro k
      obtain ⟨i1, i2⟩ := ih (k + 1)
      have e : seatsFrom k (y :: m) = rowSeats k y.2 0 ++ seatsFrom (k + 1) m := rfl
      have f : ∀ x ∈ rowSeats k y.2 0, x.2.1 = k := fun x hx => by
        obtain ⟨w, e⟩ := x
        exact (mem_rowSeats.mp hx).1
      rw [e]
      refine ⟨List.pairwise_append.mpr ⟨?_, i1, fun a ha b hb => ?_⟩, fun x hx => ?_⟩
      · exact List.Pairwise.imp_of_mem (R := fun _ _ => True) (fun {a b} ha hb _ => by rw [f a ha, f b hb]; exact Nat.le_refl _) (List.pairwise_of_forall fun _ _ => trivial)
      · have := f a ha
        have := i2 b hb
        omega
      · rcases List.mem_append.mp hx with q | q
        · rw [f x q]; exact Nat.le_refl _
        · have := i2 x q
          omega
  have q : (pos n z).Pairwise fun x y => x.1 ≤ y.1 := List.Pairwise.map _ (R := fun x y : Str × End => x.2.1 ≤ y.2.1) (fun a b h => h) (List.Pairwise.filter _ (p n 0).1)
  rw [h] at q
  exact (List.pairwise_cons.mp q).1 b (List.mem_singleton.mpr rfl)
noncomputable def dn (r0 r1 r : Nat) : Nat := if r = r1 then r0 else if r1 < r then r - 1 else r
theorem shr_cnt (tw : Two n z r0 r1) (lt : r0 < r1) {w : Str} (hw : w ≠ z) {p : Nat × Nat} (hp : Ends2 n w p) : Ends2 (shr n z r0 r1) w (dn r0 r1 p.1, dn r0 r1 p.2) := fun i => by
  have l1 := tw.l1
  have big : ∀ r, n.length ≤ r → (row n r).count w = 0 := fun r hr => by rw [row_over hr]; rfl
  have j := join_cnt (w := w) tw.m0 tw.m1
  rw [if_neg hw] at j
  rw [shr_row tw]
  have p1 : p.1 < n.length := Nat.lt_of_not_le fun k => by
    have := hp p.1
    rw [big _ k, if_pos rfl] at this
    omega
  have p2 : p.2 < n.length := Nat.lt_of_not_le fun k => by
    have := hp p.2
    rw [big _ k, if_pos rfl] at this
    omega
  have h0 := hp r0
  have h1 := hp r1
  show _ = (if i = dn r0 r1 p.1 then 1 else 0) + (if i = dn r0 r1 p.2 then 1 else 0)
  have d : ∀ x, (if i = dn r0 r1 x then (1 : Nat) else 0) = if i < r1 then (if i = r0 then (if r0 = x then 1 else 0) + (if r1 = x then 1 else 0) else if i = x then 1 else 0) else if i + 1 = x then 1 else 0 := fun x => by
    unfold dn
    by_cases c1 : i < r1 <;> by_cases c2 : i = r0 <;> by_cases c3 : x = r1 <;> by_cases c4 : r1 < x <;> simp only [c1, c2, c3, c4, if_true, if_false] <;> (repeat' split) <;> omega
  rw [d, d]
  by_cases h : i < n.length - 1
  · rw [if_pos h]
    by_cases c1 : i < r1
    · simp only [c1, if_true]
      by_cases c2 : i = r0
      · rw [if_pos c2, if_pos c2, if_pos c2]
        omega
      · rw [if_neg c2, if_neg c2, if_neg c2]
        exact hp i
    · simp only [c1, if_false]
      rw [if_neg (show ¬ i + 1 = r0 by omega)]
      exact hp (i + 1)
  · rw [if_neg h]
    have c1 : ¬ i < r1 := by omega
    simp only [c1, if_false]
    have := hp (i + 1)
    rw [big _ (by omega)] at this
    exact this
theorem cnt_sum (m : Net) (w : Str) : (ties m).count w = ((List.range m.length).map fun r => (row m r).count w).sum := by
  induction m with
  | nil => rfl
  | cons x m ih =>
    have e : ties (x :: m) = x.2 ++ ties m := rfl
    rw [e, List.count_append, ih, List.length_cons, List.range_succ_eq_map, List.map_cons, List.sum_cons, List.map_map]
    rfl
theorem sum_two {m p q : Nat} (hp : p < m) (hq : q < m) : ((List.range m).map fun r => (if r = p then 1 else 0) + (if r = q then 1 else 0)).sum = 2 := by
  have one : ∀ (m p : Nat), ((List.range m).map fun r => if r = p then 1 else 0).sum = if p < m then 1 else 0 := fun m p => by
    induction m with
    | zero => rfl
    | succ m ih =>
      rw [List.range_succ, List.map_append, List.sum_append, ih]
      simp only [List.map_cons, List.map_nil, List.sum_cons, List.sum_nil]
      by_cases h : m = p
      · rw [if_pos h, if_neg (by omega), if_pos (by omega)]; rfl
      · rw [if_neg h]
        by_cases k : p < m
        · rw [if_pos k, if_pos (by omega)]; rfl
        · rw [if_neg k, if_neg (by omega)]; rfl
  have add : ∀ (l : List Nat) (f g : Nat → Nat), (l.map fun r => f r + g r).sum = (l.map f).sum + (l.map g).sum := fun l f g => by
    induction l with
    | nil => rfl
    | cons a l ih => simp only [List.map_cons, List.sum_cons, ih]; omega
  rw [add, one, one, if_pos hp, if_pos hq]
theorem shr_noz (T : Twice n) (hz : z ∈ ties n) (tw : Two n z r0 r1) (lt : r0 < r1) : z ∉ ties (shr n z r0 r1) := fun h => by
  obtain ⟨i, hi, hm⟩ := in_row h
  have l1 := tw.l1
  rw [shr_len tw] at hi
  rw [shr_row tw, if_pos hi] at hm
  have hp := ends2_of T hz
  have a0 := hp r0
  have a1 := hp r1
  have c0 := List.count_pos_iff.mpr tw.m0
  have c1 := List.count_pos_iff.mpr tw.m1
  have j := join_cnt (w := z) tw.m0 tw.m1
  rw [if_pos rfl] at j
  have ne := tw.ne
  by_cases c : (if i < r1 then i else i + 1) = r0
  · rw [if_pos c] at hm
    have := List.count_pos_iff.mpr hm
    have e1 : (if r0 = (prE n z).1 then (1 : Nat) else 0) + (if r1 = (prE n z).1 then 1 else 0) ≤ 1 := by split <;> split <;> omega
    have e2 : (if r0 = (prE n z).2 then (1 : Nat) else 0) + (if r1 = (prE n z).2 then 1 else 0) ≤ 1 := by split <;> split <;> omega
    omega
  · rw [if_neg c] at hm
    rcases tw.only _ (by split <;> omega) hm with e | e
    · exact c e
    · split at e <;> omega
theorem shr_mem (T : Twice n) (hz : z ∈ ties n) (tw : Two n z r0 r1) (lt : r0 < r1) {w : Str} : w ∈ ties (shr n z r0 r1) ↔ w ∈ ties n ∧ w ≠ z := by
  have l1 := tw.l1
  constructor
  · intro h
    have nz : w ≠ z := fun e => shr_noz T hz tw lt (e ▸ h)
    refine ⟨?_, nz⟩
    obtain ⟨i, hi, hm⟩ := in_row h
    rw [shr_len tw] at hi
    rw [shr_row tw, if_pos hi] at hm
    have j := join_cnt (w := w) tw.m0 tw.m1
    rw [if_neg nz] at j
    by_cases c : (if i < r1 then i else i + 1) = r0
    · rw [if_pos c] at hm
      have := List.count_pos_iff.mpr hm
      by_cases k : 0 < (row n r0).count w
      · exact row_in tw.l0 (List.count_pos_iff.mp k)
      · exact row_in tw.l1 (List.count_pos_iff.mp (by omega))
    · rw [if_neg c] at hm
      exact row_in (by split <;> omega) hm
  · rintro ⟨h, nz⟩
    obtain ⟨r, hr, hm⟩ := in_row h
    have hp := ends2_of T h
    have := shr_cnt tw lt nz hp (dn r0 r1 (prE n w).1)
    have pl := (pr_lt T h).1
    have : 0 < (row (shr n z r0 r1) (dn r0 r1 (prE n w).1)).count w := by
      rw [this, if_pos rfl]
      omega
    refine row_in ?_ (List.count_pos_iff.mp this)
    rw [shr_len tw]
    unfold dn
    split
    · omega
    · split <;> omega
theorem shr_twice (T : Twice n) (hz : z ∈ ties n) (tw : Two n z r0 r1) (lt : r0 < r1) : Twice (shr n z r0 r1) := fun w hw => by
  obtain ⟨h, nz⟩ := (shr_mem T hz tw lt).mp hw
  have l1 := tw.l1
  have hp := shr_cnt tw lt nz (ends2_of T h)
  obtain ⟨p1, p2⟩ := pr_lt T h
  rw [cnt_sum, show (fun r => (row (shr n z r0 r1) r).count w) = fun r => (if r = dn r0 r1 (prE n w).1 then 1 else 0) + (if r = dn r0 r1 (prE n w).2 then 1 else 0) from funext hp]
  have d : ∀ x, x < n.length → dn r0 r1 x < (shr n z r0 r1).length := fun x hx => by
    rw [shr_len tw]
    unfold dn
    split
    · omega
    · split <;> omega
  exact sum_two (d _ p1) (d _ p2)
theorem shr_names (tw : Two n z r0 r1) (hN : (n.map (·.1)).Nodup) : ((shr n z r0 r1).map (·.1)).Nodup := by
  have e : n.map (·.1) = (List.range n.length).map (nmA n) := by
    refine List.ext_getElem? fun i => ?_
    rw [List.getElem?_map, List.getElem?_map]
    by_cases h : i < n.length
    · rw [List.getElem?_range h, List.getElem?_eq_getElem h]
      show some _ = some (nmA n i)
      rw [nmA_eq h]
    · rw [List.getElem?_eq_none (by omega), List.getElem?_eq_none (by rw [List.length_range]; omega)]
      rfl
  show ((((List.range n.length).filter fun r => decide (r ≠ r1)).map (shrR n z r0 r1)).map (·.1)).Nodup
  rw [List.map_map]
  rw [e] at hN
  exact hN.sublist (List.filter_sublist.map _)
theorem nTr_shr (T : Twice n) (hz : z ∈ ties n) (tw : Two n z r0 r1) (lt : r0 < r1) {ss : List Str} (h : ∀ w ∈ ss, w ∈ ties n ∧ w ≠ z) : nTr (shr n z r0 r1) ss = Dt.De (((List.range (n.length - 1)).map (· + 1)).erase r1) ((ss.map (prE n)).map (Dt.rl r1 r0)) := by
  have l1 := tw.l1
  have nd := range1_nodup (n.length - 1)
  have e1 : nTr (shr n z r0 r1) ss = Dt.De ((List.range (n.length - 1 - 1)).map (· + 1)) (ss.map fun w => (dn r0 r1 (prE n w).1, dn r0 r1 (prE n w).2)) := by
    unfold nTr
    rw [shr_len tw]
    exact Dt.De_flip fun w hw => ends2_same (n := shr n z r0 r1) (m := n) (z := w) (ends2_of (shr_twice T hz tw lt) ((shr_mem T hz tw lt).mpr (h w hw))) (shr_cnt tw lt (h w hw).2 (ends2_of T (h w hw).1))
  have e2 : (ss.map fun w => (dn r0 r1 (prE n w).1, dn r0 r1 (prE n w).2)) = ((ss.map (prE n)).map (Dt.rl r1 r0)).map fun e => ((fun r => if r1 < r then r - 1 else r) e.1, (fun r => if r1 < r then r - 1 else r) e.2) := by
    rw [List.map_map, List.map_map]
    refine List.map_congr_left fun w _ => ?_
    show (dn r0 r1 (prE n w).1, dn r0 r1 (prE n w).2) = ((if r1 < (if (prE n w).1 = r1 then r0 else (prE n w).1) then (if (prE n w).1 = r1 then r0 else (prE n w).1) - 1 else (if (prE n w).1 = r1 then r0 else (prE n w).1)), (if r1 < (if (prE n w).2 = r1 then r0 else (prE n w).2) then (if (prE n w).2 = r1 then r0 else (prE n w).2) - 1 else (if (prE n w).2 = r1 then r0 else (prE n w).2)))
    have k : ∀ x, dn r0 r1 x = if r1 < (if x = r1 then r0 else x) then (if x = r1 then r0 else x) - 1 else (if x = r1 then r0 else x) := fun x => by
      unfold dn
      by_cases c : x = r1
      · simp only [c, if_true]
        rw [if_neg (by omega)]
      · simp only [c, if_false]
    rw [← k, ← k]
  rw [e1, e2, ← Dt.De_ren (fun r => if r1 < r then r - 1 else r) (C := ((List.range (n.length - 1)).map (· + 1)).erase r1) (E := (ss.map (prE n)).map (Dt.rl r1 r0)) fun x hx e he => ?_]
  · refine Dt.De_perm ?_ (List.Perm.refl _)
    rw [List.perm_ext_iff_of_nodup (range1_nodup _) ?_]
    · intro a
      rw [range1_mem, List.mem_map]
      constructor
      · rintro ⟨h1, h2⟩
        by_cases c : a < r1
        · exact ⟨a, (nd.mem_erase_iff).mpr ⟨by omega, range1_mem.mpr (by omega)⟩, by rw [if_neg (by omega)]⟩
        · exact ⟨a + 1, (nd.mem_erase_iff).mpr ⟨by omega, range1_mem.mpr (by omega)⟩, by rw [if_pos (by omega)]; rfl⟩
      · rintro ⟨b, hb, e⟩
        obtain ⟨h1, h2⟩ := (nd.mem_erase_iff).mp hb
        have h2 := range1_mem.mp h2
        split at e <;> omega
    · refine List.Pairwise.map _ (R := fun a b => a ≠ b ∧ a ≠ r1 ∧ b ≠ r1) (fun a b h e => ?_) ?_
      · obtain ⟨h1, h2, h3⟩ := h
        apply h1
        split at e <;> split at e <;> omega
      · refine List.Pairwise.imp_of_mem ?_ (nd.erase r1)
        intro a b ha hb hab
        exact ⟨hab, ((nd.mem_erase_iff).mp ha).1, ((nd.mem_erase_iff).mp hb).1⟩
  · have hx' := ((nd.mem_erase_iff).mp hx).1
    obtain ⟨d, hd, rfl⟩ := List.mem_map.mp he
    have k : ∀ y, y ≠ r1 → (if r1 < x then x - 1 else x) = (if r1 < y then y - 1 else y) → x = y := fun y hy e => by split at e <;> split at e <;> omega
    have l : ∀ u, (if u = r1 then r0 else u) ≠ r1 := fun u => by split <;> omega
    exact ⟨k _ (l d.1), k _ (l d.2)⟩
theorem filt_mem {ss : List Str} (hm : ∀ w, w ∈ ss ↔ w ∈ ties n) : ∀ w ∈ ss.filter (fun y => decide (y ≠ z)), w ∈ ties n ∧ w ≠ z := fun w hw => by
  rw [List.mem_filter, decide_eq_true_eq] at hw
  exact ⟨(hm w).mp hw.1, hw.2⟩
theorem ss_perm {ss : List Str} (hs : ss.Nodup) (hz : z ∈ ss) : ss.Perm (z :: ss.filter fun y => decide (y ≠ z)) := by
  have h := List.perm_cons_erase hz
  rw [hs.erase_eq_filter] at h
  rw [show (ss.filter fun y => decide (y ≠ z)) = ss.filter fun x => x != z by
    refine List.filter_congr fun x _ => ?_
    by_cases k : x = z <;> simp [k]]
  exact h
theorem nTr_head {ss : List Str} (hs : ss.Nodup) (hz : z ∈ ss) : nTr n ss = Dt.De ((List.range (n.length - 1)).map (· + 1)) (prE n z :: (ss.filter fun y => decide (y ≠ z)).map (prE n)) := by
  unfold nTr
  rw [← List.map_cons]
  exact Dt.De_perm (List.Perm.refl _) ((ss_perm hs hz).map _)
theorem nTr_loop (T : Twice n) {r : Nat} (h : hld n z = [r]) {ss : List Str} (hs : ss.Nodup) (hm : ∀ w, w ∈ ss ↔ w ∈ ties n) : nTr n ss = nTr (outN n z) (ss.filter fun y => decide (y ≠ z)) := by
  have hr : r ∈ hld n z := by rw [h]; exact List.mem_singleton.mpr rfl
  obtain ⟨hl, hz⟩ := hld_mem.mp hr
  have hz' := row_in hl hz
  rw [nTr_head hs ((hm z).mpr hz'), nTr_out T (filt_mem hm)]
  refine Dt.De_idle (.inl ?_)
  obtain ⟨a, b, hp⟩ := tie_pos T hz'
  rw [prE_eq hp]
  have q : ∀ e ∈ pos n z, e.1 = r := fun e he => by
    have := pos_row he
    have : e.1 ∈ hld n z := hld_mem.mpr this
    rw [h] at this
    exact List.mem_singleton.mp this
  show a.1 = b.1
  rw [q a (by rw [hp]; simp), q b (by rw [hp]; simp)]
theorem nTr_sum (T : Twice n) (h : hld n z = [r0, r1]) {ss : List Str} (hs : ss.Nodup) (hm : ∀ w, w ∈ ss ↔ w ∈ ties n) : nTr n ss = nTr (outN n z) (ss.filter fun y => decide (y ≠ z)) + nTr (shr n z r0 r1) (ss.filter fun y => decide (y ≠ z)) := by
  have tw := two_of h
  have lt := two_lt h
  have l1 := tw.l1
  have hz := row_in tw.l0 tw.m0
  have nd := range1_nodup (n.length - 1)
  rw [nTr_head hs ((hm z).mpr hz), nTr_out T (filt_mem hm), nTr_shr T hz tw lt (filt_mem hm)]
  generalize (ss.filter fun y => decide (y ≠ z)).map (prE n) = E
  have hp : prE n z = (r0, r1) := by
    obtain ⟨a, b, hp⟩ := tie_pos T hz
    have c0 := ends2_of T hz r0
    have c1 := ends2_of T hz r1
    have k0 := List.count_pos_iff.mpr tw.m0
    have k1 := List.count_pos_iff.mpr tw.m1
    rw [prE_eq hp] at c0 c1 ⊢
    have so : a.1 ≤ b.1 := pos_le hp
    have c0 : _ = (if r0 = a.1 then 1 else 0) + (if r0 = b.1 then 1 else 0) := c0
    have c1 : _ = (if r1 = a.1 then 1 else 0) + (if r1 = b.1 then 1 else 0) := c1
    have e0 : r0 = a.1 ∨ r0 = b.1 := by
      by_cases e : r0 = a.1
      · exact .inl e
      · by_cases e' : r0 = b.1
        · exact .inr e'
        · rw [if_neg e, if_neg e'] at c0; omega
    have e1 : r1 = a.1 ∨ r1 = b.1 := by
      by_cases e : r1 = a.1
      · exact .inl e
      · by_cases e' : r1 = b.1
        · exact .inr e'
        · rw [if_neg e, if_neg e'] at c1; omega
    have : a.1 = r0 ∧ b.1 = r1 := by omega
    rw [this.1, this.2]
  rw [hp, Dt.De_step nd]
  congr 1
  unfold Dt.mg
  have m1 : r1 ∈ (List.range (n.length - 1)).map (· + 1) := range1_mem.mpr (by omega)
  rw [if_neg (fun k => by rcases k with k | k; exact tw.ne k; exact k.2 m1), if_neg (fun k => k m1)]
  by_cases m0 : r0 ∉ (List.range (n.length - 1)).map (· + 1)
  · rw [if_pos m0]
    exact (Dt.De_rl (fun k => m0 (List.mem_of_mem_erase k)) (fun k => ((nd.mem_erase_iff).mp k).1 rfl) E).symm
  · rw [if_neg m0]
theorem nTr_bridge (T : Twice n) (h0 : 0 < n.length) (hN : (n.map (·.1)).Nodup) (hw : ¬ Whl n) {ss : List Str} (hm : ∀ w, w ∈ ss ↔ w ∈ ties n) : nTr n ss = 0 := by
  unfold nTr
  refine Dt.De_zero _ _ rfl _ (range1_nodup _) (fun r => r < n.length ∧ ¬ Rt n (ties n) (fstN n) (nmA n r)) ?_ (fun x hx => ?_) fun e he => ?_
  · refine Classical.byContradiction fun k => hw fun x hx => Classical.byContradiction fun q => ?_
    obtain ⟨y, hy, rfl⟩ := List.mem_map.mp hx
    obtain ⟨i, hi, e⟩ := List.mem_iff_getElem.mp hy
    refine k ⟨i, hi, ?_⟩
    rw [nmA_eq hi, e]
    exact q
  · refine range1_mem.mpr ⟨?_, by omega⟩
    refine Nat.pos_of_ne_zero fun k => hx.2 ?_
    rw [k]
    exact Rt.refl ..
  · obtain ⟨w, hw, rfl⟩ := List.mem_map.mp he
    have ht := (hm w).mp hw
    obtain ⟨a, b, hp⟩ := tie_pos T ht
    obtain ⟨p1, p2⟩ := pr_lt T ht
    rw [prE_eq hp] at p1 p2 ⊢
    have ta : tieAt n a = some w := mem_pos.mp (by rw [hp]; simp)
    have tb : tieAt n b = some w := mem_pos.mp (by rw [hp]; simp)
    have ob : other n a = b := by unfold other; simp only [ta, hp]; simp
    have s1 := Rt.step ta ht
    rw [ob] at s1
    show (a.1 < n.length ∧ _) ↔ (b.1 < n.length ∧ _)
    exact ⟨fun k => ⟨p2, fun q => k.2 (q.trans s1.symm)⟩, fun k => ⟨p1, fun q => k.2 (q.trans s1)⟩⟩
theorem whl_hang (T : Twice n) (h : Whl n) : Hang n := fun P ⟨r, hr, pr⟩ hc x hx => by
  have one : ∀ y ∈ n, P (fstN n) ↔ P y.1 := fun y hy => by
    refine (h y.1 (List.mem_map.mpr ⟨y, hy, rfl⟩)).ind T (P := fun q => P (fstN n) ↔ P q) Iff.rfl fun e w he hw ih => ih.trans ?_
    have l1 := (pos_row (mem_pos.mpr he)).1
    have ho := (other_spec T he).1
    have l2 := (pos_row (mem_pos.mpr ho)).1
    have m1 : w ∈ (n[e.1]'l1).2 := by rw [← row_is l1]; exact List.mem_of_getElem? he
    have m2 : w ∈ (n[(other n e).1]'l2).2 := by rw [← row_is l2]; exact List.mem_of_getElem? ho
    rw [nmA_eq l1, nmA_eq l2]
    exact ⟨hc _ (List.getElem_mem l1) _ (List.getElem_mem l2) w m1 m2, hc _ (List.getElem_mem l2) _ (List.getElem_mem l1) w m2 m1⟩
  exact (one x hx).mp ((one r hr).mpr pr)
theorem loop_hang {r : Nat} (h : hld n z = [r]) (hg : Hang n) : Hang (outN n z) := fun P ⟨x, hx, px⟩ hc y hy => by
  have mp : ∀ s ∈ n, ∃ t ∈ outN n z, t.1 = s.1 ∧ ∀ u ∈ s.2, u ≠ z → u ∈ t.2 := fun s hs => ⟨_, List.mem_map.mpr ⟨s, hs, rfl⟩, rfl, fun u hu nz => List.mem_filter.mpr ⟨hu, decide_eq_true nz⟩⟩
  have bk : ∀ t ∈ outN n z, ∃ s ∈ n, s.1 = t.1 := fun t ht => by
    obtain ⟨s, hs, rfl⟩ := List.mem_map.mp ht
    exact ⟨s, hs, rfl⟩
  obtain ⟨x', hx', ex⟩ := bk x hx
  obtain ⟨y', hy', ey⟩ := bk y hy
  rw [← ey]
  refine hg P ⟨x', hx', by rw [ex]; exact px⟩ (fun a ha b hb t h1 h2 pa => ?_) y' hy'
  by_cases e : t = z
  · subst e
    obtain ⟨i, hi, rfl⟩ := List.mem_iff_getElem.mp ha
    obtain ⟨j, hj, rfl⟩ := List.mem_iff_getElem.mp hb
    have ii : i ∈ hld n t := hld_mem.mpr ⟨hi, by rw [row_is hi]; exact h1⟩
    have jj : j ∈ hld n t := hld_mem.mpr ⟨hj, by rw [row_is hj]; exact h2⟩
    rw [h] at ii jj
    have : i = j := (List.mem_singleton.mp ii).trans (List.mem_singleton.mp jj).symm
    subst this
    exact pa
  · obtain ⟨a', ha', ea, ia⟩ := mp a ha
    obtain ⟨b', hb', eb, ib⟩ := mp b hb
    rw [← eb]
    exact hc a' ha' b' hb' t (ia t h1 e) (ib t h2 e) (by rw [ea]; exact pa)
theorem shr_hang (T : Twice n) (tw : Two n z r0 r1) (lt : r0 < r1) (hN : (n.map (·.1)).Nodup) (hg : Hang n) : Hang (shr n z r0 r1) := fun P ⟨x, hx, px⟩ hc y hy => by
  have l0 := tw.l0
  have l1 := tw.l1
  have im : ∀ i, i < n.length → ∃ t ∈ shr n z r0 r1, t.1 = nmA n (if i = r1 then r0 else i) ∧ ∀ u ∈ row n i, u ≠ z → u ∈ t.2 := fun i hi => by
    have hj : dn r0 r1 i < n.length - 1 := by
      unfold dn
      split
      · omega
      · split <;> omega
    have hk : (if dn r0 r1 i < r1 then dn r0 r1 i else dn r0 r1 i + 1) = if i = r1 then r0 else i := by
      unfold dn
      by_cases c : i = r1
      · rw [if_pos c, if_pos c, if_pos lt]
      · rw [if_neg c, if_neg c]
        by_cases d : r1 < i
        · rw [if_pos d, if_neg (by omega)]
          omega
        · rw [if_neg d, if_pos (by omega)]
    have at' := shr_at tw (dn r0 r1 i)
    rw [if_pos hj, hk] at at'
    refine ⟨_, List.mem_of_getElem? at', rfl, fun u hu nz => ?_⟩
    show u ∈ if (if i = r1 then r0 else i) = r0 then joinL (row n r0) (row n r1) z else row n (if i = r1 then r0 else i)
    have j := join_cnt (w := u) tw.m0 tw.m1
    rw [if_neg nz] at j
    by_cases c : i = r1
    · rw [if_pos c, if_pos rfl]
      rw [c] at hu
      have := List.count_pos_iff.mpr hu
      exact List.count_pos_iff.mp (by omega)
    · rw [if_neg c]
      by_cases d : i = r0
      · rw [if_pos d]
        rw [d] at hu
        have := List.count_pos_iff.mpr hu
        exact List.count_pos_iff.mp (by omega)
      · rw [if_neg d]
        exact hu
  have bk : ∀ t ∈ shr n z r0 r1, ∃ i, i < n.length ∧ i ≠ r1 ∧ t.1 = nmA n i := fun t ht => by
    obtain ⟨i, hi, rfl⟩ := List.mem_map.mp ht
    rw [List.mem_filter, decide_eq_true_eq, List.mem_range] at hi
    exact ⟨i, hi.1, hi.2, rfl⟩
  have key := hg (fun p => P (nmA n (if rn n p = r1 then r0 else rn n p)))
  obtain ⟨i, hi, ni, ei⟩ := bk x hx
  obtain ⟨j, hj, nj, ej⟩ := bk y hy
  have rnm : ∀ k (hk : k < n.length), rn n n[k].1 = k := fun k hk => by
    have := rn_nmA hN hk
    rw [nmA_eq hk] at this
    exact this
  have := key ⟨n[i], List.getElem_mem hi, by
    show P (nmA n (if rn n n[i].1 = r1 then r0 else rn n n[i].1))
    rw [rnm i hi, if_neg ni, ← ei]
    exact px⟩ (fun a ha b hb t h1 h2 pa => by
      obtain ⟨k, hk, rfl⟩ := List.mem_iff_getElem.mp ha
      obtain ⟨m, hm, rfl⟩ := List.mem_iff_getElem.mp hb
      have pa : P (nmA n (if rn n n[k].1 = r1 then r0 else rn n n[k].1)) := pa
      show P (nmA n (if rn n n[m].1 = r1 then r0 else rn n n[m].1))
      rw [rnm k hk] at pa
      rw [rnm m hm]
      by_cases e : t = z
      · subst e
        have ek := tw.only k hk (by rw [row_is hk]; exact h1)
        have em := tw.only m hm (by rw [row_is hm]; exact h2)
        have a1 : (if k = r1 then r0 else k) = r0 := by split <;> omega
        have a2 : (if m = r1 then r0 else m) = r0 := by split <;> omega
        rw [a2]
        rw [a1] at pa
        exact pa
      · obtain ⟨a', ha', ea, ia⟩ := im k hk
        obtain ⟨b', hb', eb, ib⟩ := im m hm
        rw [← eb]
        exact hc a' ha' b' hb' t (ia t (by rw [row_is hk]; exact h1) e) (ib t (by rw [row_is hm]; exact h2) e) (by rw [ea]; exact pa)) n[j] (List.getElem_mem hj)
  have this : P (nmA n (if rn n n[j].1 = r1 then r0 else rn n n[j].1)) := this
  rw [rnm j hj, if_neg nj, ← ej] at this
  exact this
end
end Nt
namespace V2
open PySem L2 Nt Sort2 SetT
open PyProof.Rows (sortedS)
open Classical
theorem k_ii (K : PySem.W.Frag) : PySem.W.kitOne K (.type "int") (.type "int") = some true := by rfl
theorem k_ib (K : PySem.W.Frag) : PySem.W.kitOne K (.type "int") (.type "bool") = some false := by rfl
noncomputable def spWhole : Sp := fun vs H Q _ => ∃ i : Int, vs = [.int i] ∧ Q (.bl true) H
noncomputable def knd (n : Net) (z : Str) : Str := if (hld n z).length = 1 then "loop" else if Whl (outN n z) then "free" else "bridge"
noncomputable def spSort : Sp := fun vs H Q _ => ∃ (R : Addr) (as : List (Addr × Addr)) (n : Net) (z : Str), vs = [.ref R, .str z] ∧ RowsAt H R as n ∧ Twice n ∧ (n.map (·.1)).Nodup ∧ 0 < n.length ∧ n.length ≤ 60 ∧ (ties n).length ≤ 58 ∧ z ∈ ties n ∧ ∀ H', Same H H' → Q (.str (knd n z)) H'
noncomputable def spLaw (K : PySem.W.Frag) : Sp := fun vs H Q _ => ∃ (a : Addr) (ns : List Int), vs = [.ref a] ∧ SqL K H a (ns.map V.int) ∧ ns.length ≤ 63 ∧ ∀ H', Q (.bl true) H'
theorem cnt_len : ∀ (a b : List Str), (∀ y, a.count y ≤ b.count y) → a.length ≤ b.length
  | [], b, _ => Nat.zero_le _
  | x :: a, b, h => by
    have hx : x ∈ b := List.count_pos_iff.mp (by have := h x; rw [List.count_cons_self] at this; omega)
    have ih := cnt_len a (b.erase x) fun y => by
      have := h y
      by_cases e : y = x
      · subst e
        rw [List.count_cons_self] at this
        rw [List.count_erase_self]
        omega
      · rw [List.count_erase_of_ne e]
        rw [List.count_cons_of_ne (Ne.symm e)] at this
        exact this
    rw [List.length_erase_of_mem hx] at ih
    have := List.length_pos_of_mem hx
    rw [List.length_cons]
    omega
theorem loop_iff {n : Net} {z : Str} (T : Twice n) (hz : z ∈ ties n) : (hld n z).length = 1 ↔ ∃ r, r < n.length ∧ (row n r).count z = 2 := by
  have hp := ends2_of T hz
  obtain ⟨p1, p2⟩ := pr_lt T hz
  constructor
  · intro h
    match hh : hld n z, h with
    | [r], _ =>
      have q : ∀ x, x < n.length → 0 < (row n x).count z → x = r := fun x hx hc => by
        have : x ∈ hld n z := hld_mem.mpr ⟨hx, List.count_pos_iff.mp hc⟩
        rw [hh] at this
        exact List.mem_singleton.mp this
      have e1 : (prE n z).1 = r := q _ p1 (by rw [hp, if_pos rfl]; omega)
      have e2 : (prE n z).2 = r := q _ p2 (by rw [hp, if_pos rfl]; omega)
      exact ⟨r, by rw [← e1]; exact p1, by rw [hp r, if_pos e1.symm, if_pos e2.symm]⟩
  · rintro ⟨r, hr, hc⟩
    rw [hp r] at hc
    have e1 : r = (prE n z).1 := Classical.byContradiction fun k => by rw [if_neg k] at hc; split at hc <;> omega
    have e2 : r = (prE n z).2 := Classical.byContradiction fun k => by rw [if_neg k] at hc; split at hc <;> omega
    rcases hld_cases T hz with ⟨x, h⟩ | ⟨r0, r1, h⟩
    · rw [h]; rfl
    · exfalso
      have tw := two_of h
      have c0 := List.count_pos_iff.mpr tw.m0
      have c1 := List.count_pos_iff.mpr tw.m1
      rw [hp r0, ← e1, ← e2] at c0
      rw [hp r1, ← e1, ← e2] at c1
      have k0 : r0 = r := Classical.byContradiction fun k => by rw [if_neg k] at c0; omega
      have k1 : r1 = r := Classical.byContradiction fun k => by rw [if_neg k] at c1; omega
      exact tw.ne (k0.trans k1.symm)
section
variable {P : Program} {w : World} {K : PySem.W.Frag} {mg : Str → Option Value} {base : Heap}
theorem scWh : FnScope ["_law_found"] ["_law_found"] (defScope s_l_whole) := ⟨rfl, rfl, rfl, by decide +kernel, rfl, by decide +kernel, by decide +kernel⟩
theorem ok_whole {f : Addr} {fd : FuncData} (F : Fun K "_law_whole" "_law_whole" s_l_whole f fd) (T : Txt mg) : FnOk P w K mg base CX0 1 f fd ["_law_found"] spWhole := by
  refine F.gb scWh (fun vs H Q E h => ?_) (fun b0 H vs Q E hr h => ?_)
  · obtain ⟨i, rfl, _⟩ := h
    rfl
  obtain ⟨i, rfl, q⟩ := h
  show Run _ _ _ [some (.int i)] H
  refine run_ret (ev_and (ev_blt call_isi T.isi PyProof.Rows.boot_isinstance (ea_cons (ev_v 0 (ea_cons (ev_bltn (.ty "int") T.tint PyProof.Rows.boot_int rfl (ea_nil ⟨_, _, _, true, rfl, .int i, k_ii K, true, rfl, ?_⟩)))))))
  exact iteT (ev_last (ev_not (ev_blt call_isi T.isi PyProof.Rows.boot_isinstance (ea_cons (ev_v 0 (ea_cons (ev_bltn (.ty "bool") T.tbool PyProof.Rows.boot_bool rfl (ea_nil ⟨_, _, _, false, rfl, .int i, k_ib K, false, rfl, q⟩))))))))
noncomputable abbrev NSo : List Str := ["_law_rows", "_law_tie", "_law_point", "_law_row"]
theorem scSo : FnScope NSo ["_law_rows", "_law_tie"] (defScope s_l_sort) := ⟨rfl, rfl, rfl, by decide +kernel, rfl, by decide +kernel, by decide +kernel⟩
theorem ok_sort {f : Addr} {fd : FuncData} (F : Fun K "_law_sort" "_law_sort" s_l_sort f fd) (T : Txt mg) (GH : Has P w K mg base 2 "_law_hangs" ["_law_rows"] spHt) (GO : Has P w K mg base 2 "_law_out" ["_law_rows", "_law_tie"] spOut) : FnOk P w K mg base CX0 3 f fd ["_law_rows", "_law_tie"] spSort := by
  refine F.gb scSo (fun vs H Q E h => ?_) (fun b0 H vs Q E hr h => ?_)
  · obtain ⟨R, as, n, z, rfl, _⟩ := h
    rfl
  obtain ⟨R, as, n, z, rfl, hR, hT, hN, h0, hn, ht, hz, q⟩ := h
  have nd := scSo.nd
  have hal := hR.len
  have li := loop_iff hT hz
  show Run _ _ _ [some (.ref R), some (.str z), none, none] H
  refine run_forL (ev_v 0 ⟨R, rfl, ⟨_, SqL.of hR.lst⟩, loop_list (xs := as.map fun a => V.ref a.1) (fun r σ' H' => (∃ v2 v3, σ' = [some (.ref R), some (.str z), v2, v3]) ∧ H' = H ∧ ∀ k, k < r → (row n k).count z ≠ 2) ⟨⟨none, none, rfl⟩, rfl, fun k hk => absurd hk (Nat.not_lt_zero _)⟩ ?_ ?_ ?_⟩)
  · rintro r σ' H' _ ⟨_, rfl, _⟩
    exact SqL.of hR.lst
  · rintro r x σ' H' hx ⟨⟨v2, v3, rfl⟩, rfl, no⟩
    have hi : r < n.length := by
      have := (List.getElem?_eq_some_iff.mp hx).1
      rw [List.length_map] at this
      omega
    obtain ⟨a, ea, eat, et, el, er⟩ := hR.at hi
    rw [List.getElem?_map, ea] at hx
    cases hx
    refine eg_pair rfl (SqT.of et) (eg_name 2 nd (eg_name 3 nd ?_))
    show Run _ _ _ [some (.ref R), some (.str z), some (.str n[r].1), some (.ref a.2)] H'
    refine run_if (et_cmp op_eq (ev_m1 PySem.F.plainAttrs_list PySem.F.slot_list_count PySem.F.type_list_count mt_count (ev_v 3 (v := .ref a.2) ⟨Or.inl ⟨rfl, _, SqL.of el⟩, ev_v 1 ⟨a.2, row n r, z, rfl, rfl, SqL.of el, ev_int ⟨rfl, _, rfl, ?_⟩⟩⟩)))
    refine ite2 (fun c => ?_) (fun c => run_nil (run_nil ⟨⟨_, _, rfl⟩, rfl, fun k hk => ?_⟩))
    · refine run_ret (ev_str ?_)
      have c := V.int.inj (of_decide_eq_true c)
      have := q H' (Same.refl _)
      unfold knd at this
      rw [if_pos (li.mpr ⟨r, hi, by omega⟩)] at this
      exact this
    · rcases Nat.lt_succ_iff_lt_or_eq.mp hk with hk | hk
      · exact no k hk
      · intro e
        rw [hk] at e
        exact c (decide_eq_true (by rw [e]; rfl))
  · rintro σ' H' ⟨⟨v2, v3, rfl⟩, rfl, no⟩
    rw [List.length_map, hal] at no
    have nl : ¬ (hld n z).length = 1 := fun k => by
      obtain ⟨r, hr, hc⟩ := li.mp k
      exact no r hr hc
    refine run_if (et_val (ev_has GH hr (ea_cons (ev_has GO hr (ea_cons (ev_v 0 (ea_cons (ev_v 1 (ea_nil ⟨R, as, n, z, rfl, hR, by omega, by omega, fun L bs H1 s1 n1 f1 hL => ea_nil ⟨L, bs, outN n z, rfl, hL, outN_twice hT, by rw [outN_names]; exact hN, by rw [outN_len]; exact h0, by rw [outN_len]; exact hn, Nat.le_trans outN_le (by omega), fun H2 s2 => ⟨_, rfl, ?_⟩⟩⟩)))))))))
    have qq := q H2 (s1.trans s2)
    unfold knd at qq
    rw [if_neg nl] at qq
    refine ite2 (fun c => run_ret (ev_str ?_)) (fun c => run_nil (run_ret (ev_str ?_)))
    · rw [if_pos (of_decide_eq_true c)] at qq
      exact qq
    · rw [if_neg (fun k => c (decide_eq_true k))] at qq
      exact qq
noncomputable abbrev NW : List Str := ["_law_script", "_law_stem", "_law_rows", "_law_names_here", "_law_tie", "_law_kind", "_law_due", "_law_told"]
theorem scLaw : FnScope NW ["_law_script"] (defScope sLaw) := ⟨rfl, rfl, rfl, by decide +kernel, rfl, by decide +kernel, by decide +kernel⟩
theorem ok_law {f : Addr} {fd : FuncData} (F : Fun K "law" "law" sLaw f fd) (T : Txt mg) (GC : Has P w K mg base 5 "_law_cell_at" ["_law_script", "_law_k"] (spCell K)) (GB : Has P w K mg base 5 "_law_big" ["_law_script", "_law_at"] (spBig K))
    (GN : Has P w K mg base 5 "_law_net_by" ["_law_big_here", "_law_most", "_law_stem"] spNet) (GT : Has P w K mg base 5 "_law_ties" ["_law_rows"] spTs) (GS : Has P w K mg base 5 "_law_sort" ["_law_rows", "_law_tie"] spSort) (GO : Has P w K mg base 5 "_law_out" ["_law_rows", "_law_tie"] spOut) (GK : Has P w K mg base 5 "_law_shrink" ["_law_rows", "_law_tie"] spShrL)
    (GY : Has P w K mg base 5 "tree_count" ["rows"] spCount) (GW : Has P w K mg base 5 "_law_whole" ["_law_found"] spWhole) : FnOk P w K mg base CX0 6 f fd ["_law_script"] (spLaw K) := by
  refine F.gb scLaw (fun vs H Q E h => ?_) (fun b0 H vs Q E hr h => ?_)
  · obtain ⟨a, ns, rfl, _⟩ := h
    rfl
  obtain ⟨a, ns, rfl, hS, h63, q⟩ := h
  have nd := scLaw.nd
  show Run _ _ _ [some (.ref a), none, none, none, none, none, none, none] H
  refine run_set 1 nd (ev_op op_mod (ev_has GC hr (ea_cons (ev_v 0 (ea_cons (ev_int (ea_nil ⟨a, ns, 0, rfl, hS, by decide, fun c0 => ?_⟩)))))))
  refine ev_op op_pow (ev_int (ev_int ⟨_, _, rfl, rfl, ⟨by decide, by decide, by decide⟩, _, _, rfl, rfl, (by show (0 : Int) < 10 ^ (18 : Int).toNat; decide), ?_⟩))
  show Run _ _ _ [some (.ref a), some (.int (c0 % 10 ^ (18 : Int).toNat)), none, none, none, none, none, none] H
  generalize c0 % 10 ^ (18 : Int).toNat = stem
  refine run_set 2 nd (ev_has GN hr (ea_cons (ev_op op_add (ev_op op_add (ev_op op_mul (ev_has GB hr (ea_cons (ev_v 0 (ea_cons (ev_int (ea_nil ⟨a, ns, 1, rfl, hS, by decide, fun b H1 s1 => ev_int ⟨_, _, rfl, rfl, .inr ⟨by decide, by decide⟩, ev_int ⟨_, _, rfl, rfl, ?_⟩⟩⟩)))))))))))
  refine ev_op op_mod (ev_has GC hr (ea_cons (ev_v 0 (ea_cons (ev_int (ea_nil ⟨a, ns, 2, rfl, s1.seq hS, by decide, fun c2 => ev_int ⟨_, _, rfl, rfl, (by show (0 : Int) < 24; decide), _, _, rfl, rfl, ?_⟩⟩))))))
  refine ea_cons (ev_int (ea_cons (ev_v 1 (ea_nil ⟨_, 24, _, rfl, by decide, by decide, fun R as n H2 s2 n2 hR hT hN hF hg hti hmany hnl has => ?_⟩))))
  have e24 : ((24 : Int)).toNat = 24 := rfl
  rw [e24] at hti hnl
  have pos2 : 2 ≤ (ties n).length := by
    have h1 : 0 ≤ c2 % 24 := Int.emod_nonneg _ (by decide)
    have h2 : c2 % 24 < 24 := Int.emod_lt_of_pos _ (by decide)
    have : (b * 25 + 1 + c2 % 24) % (24 + 1) = 1 + c2 % 24 := by omega
    rw [this] at hmany
    omega
  clear hmany
  have h0 : n ≠ [] := hF.some
  have hl0 : 0 < n.length := List.length_pos_iff.mpr h0
  have few : ∀ zs : List Str, zs.Nodup → (∀ z ∈ zs, z ∈ ties n) → zs.length < 64 := fun zs hz hm => by
    have := nodup_le hz hm
    omega
  show Run _ _ _ [some (.ref a), some (.int stem), some (.ref R), none, none, none, none, none] H2
  refine run_set 3 nd (ev_has GT hr (ea_cons (ev_v 2 (ea_nil ⟨R, as, n, rfl, hR, by omega, by omega, few, fun L ss H3 s3 n3 eL ssn sso mem => ?_⟩))))
  have srt := srt_of sso ssn
  have sl : 0 < ss.length := by
    obtain ⟨z, hz⟩ := List.exists_mem_of_length_pos (by omega : 0 < (ties n).length)
    exact List.length_pos_of_mem ((mem z).mpr hz)
  have hR3 := hR.same s3
  show Run _ _ _ [some (.ref a), some (.int stem), some (.ref R), some (.ref L), none, none, none, none] H3
  refine run_set 4 nd (ev_ix ix_list (ev_v 3 (ev_op op_mod (ev_op op_fdiv (ev_has GC hr (ea_cons (ev_v 0 (ea_cons (ev_int (ea_nil ⟨a, ns, 2, rfl, (s1.trans (s2.trans s3)).seq hS, by decide, fun c3 => ev_int ⟨_, _, rfl, rfl, ⟨by decide, by decide⟩, ?_⟩⟩))))))))))
  refine ev_blt call_len_seq T.len boot_len (ea_cons (ev_v 3 (ea_nil ⟨L, _, rfl, .inl (SqL.of eL), _, _, rfl, rfl, ?_, ?_⟩)))
  · rw [List.length_map]
    show (0 : Int) < (ss.length : Int)
    omega
  rw [List.length_map]
  obtain ⟨i, hi, ei⟩ : ∃ i : Nat, i < ss.length ∧ c3 / 24 % (ss.length : Int) = i := by
    have h1 := Int.emod_nonneg (c3 / 24) (show (ss.length : Int) ≠ 0 by omega)
    have h2 := Int.emod_lt_of_pos (c3 / 24) (show (0 : Int) < ss.length by omega)
    exact ⟨(c3 / 24 % (ss.length : Int)).toNat, by omega, by omega⟩
  show rIxL _ (.ref L) (.int (c3 / 24 % (ss.length : Int))) H3 _
  rw [ei]
  obtain ⟨z, hz⟩ : ∃ z, ss[i]? = some z := ⟨_, List.getElem?_eq_getElem hi⟩
  refine ⟨L, _, _, .str z, rfl, rfl, SqL.of eL, at_strs hz, ?_⟩
  have zs := List.mem_of_getElem? hz
  have zt := (mem z).mp zs
  show Run _ _ _ [some (.ref a), some (.int stem), some (.ref R), some (.ref L), some (.str z), none, none, none] H3
  refine run_set 5 nd (ev_has GS hr (ea_cons (ev_v 2 (ea_cons (ev_v 4 (ea_nil ⟨R, as, n, z, rfl, hR3, hT, hN, hl0, by omega, by omega, zt, fun H4 s4 => ?_⟩))))))
  have hR4 := hR3.same s4
  refine run_set 6 nd (ev_int ?_)
  show Run _ _ _ [some (.ref a), some (.int stem), some (.ref R), some (.ref L), some (.str z), some (.str (knd n z)), some (.int 0), none] H4
  have srt' : Srt (ss.filter fun y => decide (y ≠ z)) := List.Pairwise.filter _ srt
  have om : ∀ y, y ∈ (ss.filter fun y => decide (y ≠ z)) ↔ y ∈ ties (outN n z) := fun y => by
    rw [List.mem_filter, decide_eq_true_eq, outN_mem, mem]
  have ol : (ties (outN n z)).length ≤ 58 := Nat.le_trans outN_le (by omega)
  refine run_ifM (knd n z ≠ "bridge") (knd n z = "bridge") (fun σ' H' => Same H4 H' ∧ σ' = [some (.ref a), some (.int stem), some (.ref R), some (.ref L), some (.str z), some (.str (knd n z)), some (.int (if knd n z = "bridge" then 0 else nTr (outN n z) (ss.filter fun y => decide (y ≠ z)))), none]) (fun T' qq => et_cmp op_ne (ev_v 5 (ev_str ⟨rfl, _, rfl, qq _ (fun k => ?_) fun k => ?_⟩))) (fun k => ?_) (fun k => ?_) ?_
  · rw [ne_str] at k
    exact of_decide_eq_true k
  · rw [ne_str] at k
    exact Classical.byContradiction fun y => by rw [decide_eq_true y] at k; cases k
  · have hg' : Hang (outN n z) := by
      by_cases c : (hld n z).length = 1
      · match hh : hld n z, c with
        | [r], _ => exact loop_hang hh hg
      · unfold knd at k
        rw [if_neg c] at k
        refine whl_hang (outN_twice hT) (Classical.byContradiction fun y => ?_)
        rw [if_neg y] at k
        exact k rfl
    refine run_set 6 nd (ev_op op_add (ev_v 6 (ev_has GY hr (ea_cons (ev_has GO hr (ea_cons (ev_v 2 (ea_cons (ev_v 4 (ea_nil ⟨R, as, n, z, rfl, hR4, by omega, by omega, fun M bs H5 s5 n5 f5 hM => ea_nil ⟨M, bs, outN n z, rfl, hM, outN_twice hT, by rw [outN_names]; exact hN, fun y => by rw [← List.length_eq_zero_iff, outN_len] at y; omega, by rw [outN_len]; omega, ol, hg', fun ls H6 s6 so lm => ⟨_, _, rfl, rfl, ?_⟩⟩⟩))))))))))
    refine run_nil ⟨s5.trans s6, ?_⟩
    rw [if_neg k, lk_pr (outN_twice hT) (by rw [outN_names]; exact hN) so lm srt' om]
    show ([some (.ref a), some (.int stem), some (.ref R), some (.ref L), some (.str z), some (.str (knd n z)), some (.int (0 + nTr (outN n z) (ss.filter fun y => decide (y ≠ z)))), none] : List (Option V)) = _
    rw [Int.zero_add]
  · refine run_nil ⟨Same.refl _, ?_⟩
    rw [if_pos k]
  rintro σ' H5 ⟨s5, rfl⟩
  have hR5 := hR4.same s5
  generalize hd : (if knd n z = "bridge" then 0 else nTr (outN n z) (ss.filter fun y => decide (y ≠ z))) = due
  refine run_ifM (knd n z ≠ "loop") (knd n z = "loop") (fun σ' H' => Same H5 H' ∧ σ' = [some (.ref a), some (.int stem), some (.ref R), some (.ref L), some (.str z), some (.str (knd n z)), some (.int (nTr n ss)), none]) (fun T' qq => et_cmp op_ne (ev_v 5 (ev_str ⟨rfl, _, rfl, qq _ (fun k => ?_) fun k => ?_⟩))) (fun k => ?_) (fun k => ?_) ?_
  · rw [ne_str] at k
    exact of_decide_eq_true k
  · rw [ne_str] at k
    exact Classical.byContradiction fun y => by rw [decide_eq_true y] at k; cases k
  · obtain ⟨r0, r1, h2⟩ : ∃ r0 r1, hld n z = [r0, r1] := by
      rcases hld_cases hT zt with ⟨r, h1⟩ | h
      · exfalso
        unfold knd at k
        rw [h1] at k
        exact k rfl
      · exact h
    have tw := two_of h2
    have lt := two_lt h2
    have hT' := shr_twice hT zt tw lt
    have hN' := shr_names tw hN
    have sm : ∀ y, y ∈ (ss.filter fun y => decide (y ≠ z)) ↔ y ∈ ties (shr n z r0 r1) := fun y => by
      rw [List.mem_filter, decide_eq_true_eq, shr_mem hT zt tw lt, mem]
    have sl' : (ties (shr n z r0 r1)).length ≤ 58 := by
      have p : ∀ y, (ties (shr n z r0 r1)).count y ≤ (ties n).count y := fun y => by
        by_cases hy : y ∈ ties (shr n z r0 r1)
        · rw [hT' y hy, hT y ((shr_mem hT zt tw lt).mp hy).1]
          exact Nat.le_refl _
        · rw [List.count_eq_zero.mpr hy]
          exact Nat.zero_le _
      have := cnt_len _ _ p
      omega
    have l1 := tw.l1
    have shl := shr_len tw
    refine run_set 6 nd (ev_op op_add (ev_v 6 (ev_has GY hr (ea_cons (ev_has GK hr (ea_cons (ev_v 2 (ea_cons (ev_v 4 (ea_nil ⟨R, as, n, z, r0, r1, rfl, hR5, by omega, by omega, h2, fun M bs H6 s6 n6 f6 hM => ea_nil ⟨M, bs, shr n z r0 r1, rfl, hM, hT', hN', fun y => by rw [← List.length_eq_zero_iff, shl] at y; omega, by rw [shl]; omega, sl', shr_hang hT tw lt hN hg, fun ls H7 s7 so lm => ⟨_, _, rfl, rfl, ?_⟩⟩⟩))))))))))
    refine run_nil ⟨s6.trans s7, ?_⟩
    rw [lk_pr hT' hN' so lm srt' sm]
    have key : due + nTr (shr n z r0 r1) (ss.filter fun y => decide (y ≠ z)) = nTr n ss := by
      rw [nTr_sum hT h2 ssn mem, ← hd]
      by_cases c : knd n z = "bridge"
      · rw [if_pos c]
        have nw : ¬ Whl (outN n z) := fun y => by
          unfold knd at c
          rw [h2, if_neg (fun k => by cases k), if_pos y] at c
          exact absurd c (by decide)
        rw [nTr_bridge (outN_twice hT) (by rw [outN_len]; exact hl0) (by rw [outN_names]; exact hN) nw om]
      · rw [if_neg c]
    show ([some (.ref a), some (.int stem), some (.ref R), some (.ref L), some (.str z), some (.str (knd n z)), some (.int (due + nTr (shr n z r0 r1) (ss.filter fun y => decide (y ≠ z)))), none] : List (Option V)) = _
    rw [key]
  · have c : (hld n z).length = 1 := Classical.byContradiction fun y => by
      unfold knd at k
      rw [if_neg y] at k
      split at k <;> exact absurd k (by decide)
    match hh : hld n z, c with
    | [r], _ =>
      refine run_nil ⟨Same.refl _, ?_⟩
      rw [nTr_loop hT hh ssn mem, ← hd, if_neg (by rw [k]; decide)]
  rintro σ' H6 ⟨s6, rfl⟩
  have hR6 := hR5.same s6
  refine run_set 7 nd (ev_has GY hr (ea_cons (ev_v 2 (ea_nil ⟨R, as, n, rfl, hR6, hT, hN, h0, by omega, by omega, hg, fun ls H7 s7 so lm => ?_⟩))))
  rw [lk_pr hT hN so lm srt mem]
  have pos : 0 < nTr n ss := by
    have := Dt.De_pos _ _ rfl (range1_nodup (n.length - 1)) (lkE n ls) (esc_all hT hN hg h0 lm)
    rw [lk_pr hT hN so lm srt mem] at this
    exact this
  show Run _ _ _ [some (.ref a), some (.int stem), some (.ref R), some (.ref L), some (.str z), some (.str (knd n z)), some (.int (nTr n ss)), some (.int (nTr n ss))] H7
  refine run_ret (ev_and (ev_has GW hr (ea_cons (ev_v 7 (ea_nil ⟨_, rfl, _, rfl, iteT ?_⟩)))))
  refine ev_and (ev_cmp op_eq (ev_v 7 (ev_v 6 ⟨rfl, _, rfl, ?_⟩)))
  rw [decide_eq_true rfl]
  refine iteT (ev_last (ev_cmp op_gt (ev_v 7 (ev_int ⟨_, _, rfl, rfl, ?_⟩))))
  show (En Q).rt (.bl (decide (0 < nTr n ss))) H7
  rw [decide_eq_true pos]
  exact q _
end
end V2
namespace V2
open PySem L2
theorem all_mk {l : PySem.W.OpenLaw} {w : World} {K : PySem.W.Frag} {h : Heap} {mg : Str → Option Value} {fa : Addr} (X : K.In h) (G : h.Ns mainGlobals mg) (hfa : mg "law" = some (.ref fa))
    (h1 : Df K "points_of" s_points_of) (h2 : Df K "links_of" sLinks) (h3 : Df K "tree_count" s_tree_count) (h4 : Df K "tie_table" s_tie_table) (h5 : Df K "determinant" s_determinant) (h6 : Df K "_law_cell_at" sCell) (h7 : Df K "_law_big" sBig) (h8 : Df K "_law_names" sNames) (h9 : Df K "_law_seats" sSeats) (h10 : Df K "_law_other" sOther) (h11 : Df K "_law_step" sStep) (h12 : Df K "_law_face" sFace) (h13 : Df K "_law_put" sPut) (h14 : Df K "_law_net_by" sNet) (h15 : Df K "_law_ties" s_l_ties) (h16 : Df K "_law_hangs" s_l_hangs) (h17 : Df K "_law_out" s_l_out) (h18 : Df K "_law_shrink" s_l_shrink) (h19 : Df K "_law_sort" s_l_sort) (h20 : Df K "_law_whole" s_l_whole) (hl : Df K "law" sLaw)
    (z : ∀ x ∈ (["isinstance", "tuple", "str", "int", "bool", "list", "dict", "set", "enumerate", "zip", "len", "range", "sorted", "max", "all"] : List Str), PySem.W.nsIn K mainGlobals x = some none) :
    ∃ fd : FuncData, (∀ (s : Shared) (v : Value), BindsTo s fd ⟨[v], []⟩ [("_law_script", v)]) ∧ ∀ base : Heap, K.In base → base.Ns mainGlobals mg → FnOk l.prog w K mg base CX0 6 fa fd ["_law_script"] (spLaw K) := by
  have T : Txt mg := ⟨PySem.W.mg_none_of X G (z _ (by simp)), PySem.W.mg_none_of X G (z _ (by simp)), PySem.W.mg_none_of X G (z _ (by simp)), PySem.W.mg_none_of X G (z _ (by simp)), PySem.W.mg_none_of X G (z _ (by simp)), PySem.W.mg_none_of X G (z _ (by simp)), PySem.W.mg_none_of X G (z _ (by simp)), PySem.W.mg_none_of X G (z _ (by simp)), PySem.W.mg_none_of X G (z _ (by simp)), PySem.W.mg_none_of X G (z _ (by simp)), PySem.W.mg_none_of X G (z _ (by simp)), PySem.W.mg_none_of X G (z _ (by simp)), PySem.W.mg_none_of X G (z _ (by simp)), PySem.W.mg_none_of X G (z _ (by simp)), PySem.W.mg_none_of X G (z _ (by simp))⟩
  refine hl.law X G hfa (fun _ _ _ _ _ _ s v => .of_eq rfl) fun base f fd F => ?_
  have G1 : Has l.prog w K mg base 1 "points_of" ["rows"] spPts := h1.has X G (fun _ _ _ _ _ _ => bd1 fun _ => rfl) fun F => ok_pts F T
  have G2 : Has l.prog w K mg base 1 "links_of" ["rows"] spLinks := h2.has X G (fun _ _ _ _ _ _ => bd1 fun _ => rfl) fun F => ok_links F T
  have G4 : Has l.prog w K mg base 2 "tie_table" ["rows"] spTab := h4.has X G (fun _ _ _ _ _ _ => bd1 fun _ => rfl) fun F => ok_tab F T (G1.mono (by decide)) (G2.mono (by decide))
  have G5 : Has l.prog w K mg base 1 "determinant" ["table"] spDet := h5.has X G (fun _ _ _ _ _ _ => bd1 fun _ => rfl) fun F => ok_det F T
  have G3 : Has l.prog w K mg base 3 "tree_count" ["rows"] spCount := h3.has X G (fun _ _ _ _ _ _ => bd1 fun _ => rfl) fun F => ok_cnt F T (G4.mono (by decide)) (G5.mono (by decide))
  have G6 : Has l.prog w K mg base 1 "_law_cell_at" ["_law_script", "_law_k"] (spCell K) := h6.has X G (fun _ _ _ _ _ _ => bd2 fun _ _ => rfl) fun F => ok_cell F T
  have G7 : Has l.prog w K mg base 2 "_law_big" ["_law_script", "_law_at"] (spBig K) := h7.has X G (fun _ _ _ _ _ _ => bd2 fun _ _ => rfl) fun F => ok_big F T (G6.mono (by decide))
  have G8 : Has l.prog w K mg base 1 "_law_names" ["_law_stem", "_law_many"] spNames := h8.has X G (fun _ _ _ _ _ _ => bd2 fun _ _ => rfl) fun F => ok_names F T
  have G9 : Has l.prog w K mg base 1 "_law_seats" ["_law_rows"] spSeats := h9.has X G (fun _ _ _ _ _ _ => bd1 fun _ => rfl) fun F => ok_seats F T
  have G10 : Has l.prog w K mg base 1 "_law_other" ["_law_rows", "_law_seats_here", "_law_end"] spOther := h10.has X G (fun _ _ _ _ _ _ => bd3 fun _ _ _ => rfl) fun F => ok_other F T
  have G11 : Has l.prog w K mg base 2 "_law_step" ["_law_rows", "_law_seats_here", "_law_end", "_law_turn"] spStep := h11.has X G (fun _ _ _ _ _ _ => bd4 fun _ _ _ _ => rfl) fun F => ok_step F T (G10.mono (by decide))
  have G12 : Has l.prog w K mg base 3 "_law_face" ["_law_rows", "_law_seats_here", "_law_end"] spFace := h12.has X G (fun _ _ _ _ _ _ => bd3 fun _ _ _ => rfl) fun F => ok_face F T (G11.mono (by decide))
  have G13 : Has l.prog w K mg base 4 "_law_put" ["_law_rows", "_law_big_here", "_law_tie", "_law_point"] spPut := h13.has X G (fun _ _ _ _ _ _ => bd4 fun _ _ _ _ => rfl) fun F => ok_put F T (G9.mono (by decide)) (G12.mono (by decide))
  have G14 : Has l.prog w K mg base 5 "_law_net_by" ["_law_big_here", "_law_most", "_law_stem"] spNet := h14.has X G (fun _ _ _ _ _ _ => bd3 fun _ _ _ => rfl) fun F => ok_net F T (G8.mono (by decide)) (G13.mono (by decide))
  have G15 : Has l.prog w K mg base 1 "_law_ties" ["_law_rows"] spTs := h15.has X G (fun _ _ _ _ _ _ => bd1 fun _ => rfl) fun F => ok_lties F T
  have G16 : Has l.prog w K mg base 1 "_law_hangs" ["_law_rows"] spHt := h16.has X G (fun _ _ _ _ _ _ => bd1 fun _ => rfl) fun F => ok_lhangs F T
  have G17 : Has l.prog w K mg base 1 "_law_out" ["_law_rows", "_law_tie"] spOut := h17.has X G (fun _ _ _ _ _ _ => bd2 fun _ _ => rfl) fun F => ok_lout F T
  have G18 : Has l.prog w K mg base 1 "_law_shrink" ["_law_rows", "_law_tie"] spShrL := h18.has X G (fun _ _ _ _ _ _ => bd2 fun _ _ => rfl) fun F => ok_lshr F T
  have G19 : Has l.prog w K mg base 3 "_law_sort" ["_law_rows", "_law_tie"] spSort := h19.has X G (fun _ _ _ _ _ _ => bd2 fun _ _ => rfl) fun F => ok_sort F T (G16.mono (by decide)) (G17.mono (by decide))
  have G20 : Has l.prog w K mg base 1 "_law_whole" ["_law_found"] spWhole := h20.has X G (fun _ _ _ _ _ _ => bd1 fun _ => rfl) fun F => ok_whole F T
  exact ok_law F T (G6.mono (by decide)) (G7.mono (by decide)) (G14.mono (by decide)) (G15.mono (by decide)) (G19.mono (by decide)) (G17.mono (by decide)) (G18.mono (by decide)) (G3.mono (by decide)) (G20.mono (by decide))
theorem walk {l : PySem.W.OpenLaw} {q : Program} {loose : List Str} {XP : (Str → Option Value) → Heap → Prop} {YP : World → Heap → Prop} {d : DefRec} {K : Params → PySem.W.Frag} (hn : l.most = some 63) (hdf : d.params.defaults = [])
    (hY : ∀ (w : World) (h : Heap), YP w h → (K w.params).In h)
    (F : ∀ (w : World) (mg : Str → Option Value) (fa : Addr) (h : Heap), (K w.params).In h → h.Ns mainGlobals mg → mg d.name = some (.ref fa) →
      ∃ fd : FuncData, (∀ (s : Shared) (u : Value), BindsTo s fd ⟨[u], []⟩ [("_law_script", u)]) ∧ ∀ base : Heap, (K w.params).In base → base.Ns mainGlobals mg → FnOk l.prog w (K w.params) mg base CX0 6 fa fd ["_law_script"] (spLaw (K w.params))) :
    PySem.W.WalkO q loose XP YP l.row.toRowW d [] (fun f vs => PySem.call f vs) :=
  L2.walk_of (n := 63) (k := 6) (x := "_law_script") (CX := fun _ => CX0) (sp := fun w => spLaw (K w.params)) hn (by decide) hdf ⟨rfl, by decide, by decide⟩ hY F (fun _ _ a ns hl _ hS => ⟨a, ns, rfl, hS, hl, fun _ => rfl⟩) fun _ _ _ _ _ z => z
end V2
open PySem PySem.W PyProof.Rows
set_option maxRecDepth 100000 in
set_option maxHeartbeats 0 in
theorem PySem.Challenge.cw_threewebs_k62_out_and_shrunk_summed_holds : PySem.Challenge.rw_threewebs_k62_out_and_shrunk_summed.Holds := by
  w_on; o_law; k_head; (case hw => w_witness2)
  k_fill
  refine V2.walk (l := PySem.Challenge.rw_threewebs_k62_out_and_shrunk_summed) rfl rfl (fun w h Y => PySem.W.kIn_of Y) ?F
  case F =>
    intro w mg fa h KX G hmg
    refine' V2.all_mk KX G hmg ?h1 ?h2 ?h3 ?h4 ?h5 ?h6 ?h7 ?h8 ?h9 ?h10 ?h11 ?h12 ?h13 ?h14 ?h15 ?h16 ?h17 ?h18 ?h19 ?h20 ?h0  ?zz
    case h1 => refine' L2.df_mk ?a ?l ?c ?k; (case a => k_is); (case l => k_is); (case c => k_is); (case k => k_is)
    case h2 => refine' L2.df_mk ?a ?l ?c ?k; (case a => k_is); (case l => k_is); (case c => k_is); (case k => k_is)
    case h3 => refine' L2.df_mk ?a ?l ?c ?k; (case a => k_is); (case l => k_is); (case c => k_is); (case k => k_is)
    case h4 => refine' L2.df_mk ?a ?l ?c ?k; (case a => k_is); (case l => k_is); (case c => k_is); (case k => k_is)
    case h5 => refine' L2.df_mk ?a ?l ?c ?k; (case a => k_is); (case l => k_is); (case c => k_is); (case k => k_is)
    case h6 => refine' L2.df_mk ?a ?l ?c ?k; (case a => k_is); (case l => k_is); (case c => k_is); (case k => k_is)
    case h7 => refine' L2.df_mk ?a ?l ?c ?k; (case a => k_is); (case l => k_is); (case c => k_is); (case k => k_is)
    case h8 => refine' L2.df_mk ?a ?l ?c ?k; (case a => k_is); (case l => k_is); (case c => k_is); (case k => k_is)
    case h9 => refine' L2.df_mk ?a ?l ?c ?k; (case a => k_is); (case l => k_is); (case c => k_is); (case k => k_is)
    case h10 => refine' L2.df_mk ?a ?l ?c ?k; (case a => k_is); (case l => k_is); (case c => k_is); (case k => k_is)
    case h11 => refine' L2.df_mk ?a ?l ?c ?k; (case a => k_is); (case l => k_is); (case c => k_is); (case k => k_is)
    case h12 => refine' L2.df_mk ?a ?l ?c ?k; (case a => k_is); (case l => k_is); (case c => k_is); (case k => k_is)
    case h13 => refine' L2.df_mk ?a ?l ?c ?k; (case a => k_is); (case l => k_is); (case c => k_is); (case k => k_is)
    case h14 => refine' L2.df_mk ?a ?l ?c ?k; (case a => k_is); (case l => k_is); (case c => k_is); (case k => k_is)
    case h15 => refine' L2.df_mk ?a ?l ?c ?k; (case a => k_is); (case l => k_is); (case c => k_is); (case k => k_is)
    case h16 => refine' L2.df_mk ?a ?l ?c ?k; (case a => k_is); (case l => k_is); (case c => k_is); (case k => k_is)
    case h17 => refine' L2.df_mk ?a ?l ?c ?k; (case a => k_is); (case l => k_is); (case c => k_is); (case k => k_is)
    case h18 => refine' L2.df_mk ?a ?l ?c ?k; (case a => k_is); (case l => k_is); (case c => k_is); (case k => k_is)
    case h19 => refine' L2.df_mk ?a ?l ?c ?k; (case a => k_is); (case l => k_is); (case c => k_is); (case k => k_is)
    case h20 => refine' L2.df_mk ?a ?l ?c ?k; (case a => k_is); (case l => k_is); (case c => k_is); (case k => k_is)
    case h0 => refine' L2.df_mk ?a ?l ?c ?k; (case a => k_is); (case l => k_is); (case c => k_is); (case k => k_is)
    case zz =>
      refine' List.forall_mem_cons.mpr ⟨?_, ?_⟩; k_is
      refine' List.forall_mem_cons.mpr ⟨?_, ?_⟩; k_is
      refine' List.forall_mem_cons.mpr ⟨?_, ?_⟩; k_is
      refine' List.forall_mem_cons.mpr ⟨?_, ?_⟩; k_is
      refine' List.forall_mem_cons.mpr ⟨?_, ?_⟩; k_is
      refine' List.forall_mem_cons.mpr ⟨?_, ?_⟩; k_is
      refine' List.forall_mem_cons.mpr ⟨?_, ?_⟩; k_is
      refine' List.forall_mem_cons.mpr ⟨?_, ?_⟩; k_is
      refine' List.forall_mem_cons.mpr ⟨?_, ?_⟩; k_is
      refine' List.forall_mem_cons.mpr ⟨?_, ?_⟩; k_is
      refine' List.forall_mem_cons.mpr ⟨?_, ?_⟩; k_is
      refine' List.forall_mem_cons.mpr ⟨?_, ?_⟩; k_is
      refine' List.forall_mem_cons.mpr ⟨?_, ?_⟩; k_is
      refine' List.forall_mem_cons.mpr ⟨?_, ?_⟩; k_is
      refine' List.forall_mem_cons.mpr ⟨?_, ?_⟩; k_is
      exact fun x hx => nomatch hx

import PyProof.Rows.All
import Wide.All
import OpenK.AllK
import Wide.FinOn
import Lean
import PyProof.EqAt
import PyProof.EqKinds
import PyProof.TupleCall
import KE.KDictLaws
import KE.KDictList
import KE.KDictSum
import KE.KSortTup
import KE.KUnpackStar
import PyProof.AttrMissSeq
import PyProof.Conv_int_bool
import PyProof.DictItems
import PyProof.DictIter
import PyProof.DictList
import PyProof.NeKinds
import PyProof.Rows.FStr
import PyProof.Rows.StrSplitJoin
import PyProof.Rows.StrWeight2
import PyProof.Rows.TupDisplay
import PyProof.SetNew
import PyProof.SetRoads
import PyProof.WalkInts
import PyProof.ZipIter
import PySem.Challenge.RW_threewebs_k26_all_by_a_tree
set_option Elab.async false
set_option linter.all false
set_option maxRecDepth 100000
namespace L2
open PySem PySem.Spec PyProof.Rows
abbrev Key := Sum Int Str
def keyIs : Key → Value → Bool
  | .inl k, v => Value.isInt k v
  | .inr x, v => Value.isStrOf x v
def keyH (w : World) : Key → Int
  | .inl k => hashInt k
  | .inr x => hashStr w x
theorem keyIs_shape : ∀ {k : Key} {v : Value}, keyIs k v = true → (∃ i t, k = Sum.inl i ∧ v = Value.int i t) ∨ (∃ x t, k = Sum.inr x ∧ v = Value.str x t)
  | .inl i, v, h => by
    obtain ⟨t, e⟩ := Value.isInt_shape (k := i) (v := v) h
    exact .inl ⟨i, t, rfl, e⟩
  | .inr x, v, h => by
    obtain ⟨t, e⟩ := Value.isStrOf_shape (x := x) (v := v) h
    exact .inr ⟨x, t, rfl, e⟩
theorem keyIs_int (i : Int) (t : Tok) : keyIs (.inl i) (.int i t) = true := by simp [keyIs, Value.isInt]
theorem keyIs_str (x : Str) (t : Tok) : keyIs (.inr x) (.str x t) = true := by simp [keyIs, Value.isStrOf]
theorem key_ll (a b : Int) : decide ((Sum.inl a : Key) = Sum.inl b) = (a == b) := by
  by_cases e : a = b
  · subst e; simp
  · have h : ¬ (Sum.inl a : Key) = Sum.inl b := fun q => e (Sum.inl.inj q)
    rw [decide_eq_false h]
    exact (beq_eq_false_iff_ne.mpr e).symm
theorem key_rr (a b : Str) : decide ((Sum.inr a : Key) = Sum.inr b) = decide (a = b) := by
  by_cases e : a = b
  · subst e; simp
  · have h : ¬ (Sum.inr a : Key) = Sum.inr b := fun q => e (Sum.inr.inj q)
    rw [decide_eq_false h, decide_eq_false e]
theorem key_lr (a : Int) (b : Str) : decide ((Sum.inl a : Key) = Sum.inr b) = false := decide_eq_false (fun q => nomatch q)
theorem key_rl (a : Str) (b : Int) : decide ((Sum.inr a : Key) = Sum.inl b) = false := decide_eq_false (fun q => nomatch q)
def mixKind (prog : Program) (w : World) : PySem.KeyKind prog w Key where
  is := keyIs
  hash := keyH w
  inj := fun v a b ha hb => by
    rcases keyIs_shape ha with ⟨i, t, rfl, rfl⟩ | ⟨x, t, rfl, rfl⟩
    · rcases keyIs_shape hb with ⟨j, u, rfl, e⟩ | ⟨y, u, rfl, e⟩
      · injection e with e1 _; rw [e1]
      · exact nomatch e
    · rcases keyIs_shape hb with ⟨j, u, rfl, e⟩ | ⟨y, u, rfl, e⟩
      · exact nomatch e
      · injection e with e1 _; rw [e1]
  byValue := fun k v h => by
    rcases keyIs_shape h with ⟨i, t, rfl, rfl⟩ | ⟨x, t, rfl, rfl⟩ <;> rfl
  pyHash := fun hv h => by
    rcases keyIs_shape hv with ⟨i, t, rfl, rfl⟩ | ⟨x, t, rfl, rfl⟩
    · exact wpAny_pyHash_int h
    · exact wpAny_pyHash_str h
  eqBool := fun hu hv h => by
    rcases keyIs_shape hu with ⟨i, t, rfl, rfl⟩ | ⟨x, t, rfl, rfl⟩
    · rcases keyIs_shape hv with ⟨j, u, rfl, rfl⟩ | ⟨y, u, rfl, rfl⟩
      · rw [key_ll] at h; exact wpAny_eqBool_int h
      · rw [key_lr] at h; exact SeqAt.EqAt.int_str i t y u _ _ _ _ h
    · rcases keyIs_shape hv with ⟨j, u, rfl, rfl⟩ | ⟨y, u, rfl, rfl⟩
      · rw [key_rl] at h; exact SeqAt.EqAt.str_int x t j u _ _ _ _ h
      · rw [key_rr] at h; exact wpAny_eqBool_str h
  «strs» := fun k x t v h => by
    rcases keyIs_shape h with ⟨i, u, rfl, e⟩ | ⟨y, u, rfl, e⟩
    · exact nomatch e
    · injection e with e1 _
      subst e1
      cases v <;> rfl
theorem mixKind_int (prog : Program) (w : World) (i : Int) (t : Tok) : (mixKind prog w).is (.inl i) (.int i t) = true := keyIs_int i t
theorem mixKind_str (prog : Program) (w : World) (x : Str) (t : Tok) : (mixKind prog w).is (.inr x) (.str x t) = true := keyIs_str x t
end L2
namespace L2
open PySem PySem.Spec PyProof.Rows
inductive V where
  | non | bl (b : Bool) | int (i : Int) | str (x : Str) | byt (b : Array UInt8) | flt (b : UInt64) | ref (a : Addr) | ty (n : String)
  deriving DecidableEq
def RelV : V → Value → Prop
  | .non, u => u = Value.none
  | .bl b, u => u = Value.bool b
  | .int i, u => ∃ t, u = Value.int i t
  | .str x, u => ∃ t, u = Value.str x t
  | .byt b, u => ∃ t, u = Value.bytes b t
  | .flt b, u => ∃ t, u = Value.float b t
  | .ref a, u => u = Value.ref a
  | .ty n, u => u = Value.type n
abbrev Vals : List V → List Value → Prop := Paired RelV
theorem Vals.length {xs : List V} {us : List Value} (r : Vals xs us) : xs.length = us.length := Paired.length r
theorem Vals.get : ∀ {xs : List V} {us : List Value} {i : Nat} {x : V}, Vals xs us → xs[i]? = some x → ∃ u, us[i]? = some u ∧ RelV x u
  | _, _, _, _, .nil, e => by simp at e
  | _, _, 0, _, .cons r _, e => by simp at e; subst e; exact ⟨_, rfl, r⟩
  | _, _, i + 1, x, .cons _ t, e => by
    obtain ⟨u, h1, h2⟩ := Vals.get (i := i) (x := x) t (by simpa using e)
    exact ⟨u, by simpa using h1, h2⟩
theorem Vals.set {x : V} {u : Value} (r : RelV x u) : ∀ {xs : List V} {us : List Value} (i : Nat), Vals xs us → Vals (xs.set i x) (us.set i u)
  | _, _, _, .nil => .nil
  | _, _, 0, .cons _ t => .cons r t
  | _, _, i + 1, .cons q t => .cons q (Vals.set r i t)
theorem Vals.append : ∀ {xs ys : List V} {us ws : List Value}, Vals xs us → Vals ys ws → Vals (xs ++ ys) (us ++ ws)
  | _, _, _, _, .nil, s => s
  | _, _, _, _, .cons r t, s => .cons r (Vals.append t s)
theorem Vals.take : ∀ {xs : List V} {us : List Value} (n : Nat), Vals xs us → Vals (xs.take n) (us.take n)
  | _, _, 0, _ => .nil
  | _, _, _ + 1, .nil => .nil
  | _, _, n + 1, .cons r t => .cons r (Vals.take n t)
theorem Vals.drop : ∀ {xs : List V} {us : List Value} (n : Nat), Vals xs us → Vals (xs.drop n) (us.drop n)
  | _, _, 0, r => r
  | _, _, _ + 1, .nil => .nil
  | _, _, n + 1, .cons _ t => Vals.drop n t
def RelO : Option V → Option Value → Prop
  | some v, some u => RelV v u
  | none, none => True
  | _, _ => False
def KV {κ : Type} : List (κ × V) → List (κ × Value) → Prop := Paired fun (p : κ × V) (q : κ × Value) => p.1 = q.1 ∧ RelV p.2 q.2
def kV : Key → V
  | .inl i => .int i
  | .inr x => .str x
inductive HO where
  | lst (xs : List V)
  | tup (xs : List V)
  | dK (kvs : List (Key × V)) | dT (kvs : List (List Key × V))
  | set (S : Int → Bool) (n : Nat)
  | ins (C dx : Addr) (fs : List (Str × V))
  | own (x : Addr)
  | xd (fs : List (Str × V))
  | met (f x : Addr)
  | rng (lo hi : Int)
  | frz (o : Obj) (u : HO)
  | tbl (ps : Array Value)
  | ext (φ : Heap → Prop)
abbrev Hp := Addr → Option HO
def upd (H : Hp) (a : Addr) (o : HO) : Hp := fun b => if b = a then some o else H b
theorem upd_same {H : Hp} {a : Addr} {o : HO} : upd H a o a = some o := by unfold upd; rw [if_pos rfl]
theorem upd_ne {H : Hp} {a b : Addr} {o : HO} (h : b ≠ a) : upd H a o b = H b := by unfold upd; rw [if_neg h]
theorem upd_upd {H : Hp} {a : Addr} {o u : HO} : upd (upd H a o) a u = upd H a u := by
  funext b; unfold upd; split <;> rfl
theorem ne_of {H : Hp} {a b : Addr} {o u : HO} (h : H a = some o) (h' : H b = some u) (d : o ≠ u) : a ≠ b := by
  intro e; subst e; rw [h] at h'; exact d (Option.some.inj h')
theorem ne_of_none {H : Hp} {a b : Addr} {o : HO} (h : H a = some o) (h' : H b = none) : a ≠ b := by
  intro e; subst e; rw [h] at h'; cases h'
section
variable (P : Program) (w : World)
def ObjOk (H : Hp) (h : Heap) (a : Addr) : HO → Prop
  | .lst xs => xs.length ≤ sizeLine ∧ ∃ (its : List Value) (n : Nat), Vals xs its ∧ h.get? a = some { cls := .type "list", data := .seq its.toArray n }
  | .tup xs => xs.length ≤ sizeLine ∧ ∃ its : List Value, Vals xs its ∧ IsTup h a its.toArray
  | .dK kvs => kvs.length ≤ sizeLine ∧ (a == sysModules) = false ∧ ∃ vs, KV kvs vs ∧ h.DictOf (mixKind P w) a vs
  | .dT kvs => kvs.length ≤ sizeLine ∧ (a == sysModules) = false ∧ ∃ xs : List (List Key × Addr × Value),
      Paired (fun (p : List Key × V) (q : List Key × Addr × Value) => p.1 = q.1 ∧ H q.2.1 = some (.tup (p.1.map kV)) ∧ RelV p.2 q.2.2) kvs xs ∧
      ∃ o es ep, h.get? a = some o ∧ o.ExactDict ∧ o.data = .dict es ep ∧ es.toList = xs.map (entryOfKey (tupleKind (mixKind P w))) ∧ (xs.map (·.1)).Nodup
  | .set S n => h.SetOf (intKind P w) a S n
  | .ins C dx fs => H dx = some (.own a) ∧ fs.length ≤ 1000 ∧ dx ≠ a ∧ h.get? a = some (PySem.W.instObj C dx) ∧
      ∃ mA, h.Ns1 dx mA ∧ (∀ f, RelO (fs.lookup f) (mA f)) ∧ PySem.Within mA (fs.map (·.1))
  | .own _ => ∃ o, h.get? a = some o
  | .xd fs => ∃ mA, h.Ns1 a mA ∧ ∀ f, RelO (fs.lookup f) (mA f)
  | .rng lo hi => ∃ t u v, h.get? a = some { cls := .type "range", data := .fields #[.int lo t, .int hi u, .int 1 v] }
  | .frz o u => h.get? a = some o ∧ ObjOk H h a u
  | .tbl ps => h.get? a = some { cls := .none, data := .fields ps }
  | .met f x => h.get? a = some (PySem.W.methodObj (.ref f) (.ref x))
  | .ext φ => φ h ∧ (∃ o, h.get? a = some o) ∧ ∀ h1 h2 : Heap, φ h1 → (∀ o, h1.get? a = some o → h2.get? a = some o) → φ h2
def HOk (H : Hp) (h : Heap) : Prop := ∀ a o, H a = some o → ObjOk P w H h a o
end
section
variable {P : Program} {w : World} {H H' : Hp} {h h' : Heap} {a : Addr} {o : HO}
theorem ObjOk.lt (x : ObjOk P w H h a o) : a < h.objs.size := by
  cases o with
  | lst xs => obtain ⟨_, _, _, _, e⟩ := x; exact Heap.lt_size e
  | tup xs => obtain ⟨_, _, _, p⟩ := x; exact p.lt
  | dK kvs => obtain ⟨_, _, _, _, o, _, _, e, _⟩ := x; exact Heap.lt_size e
  | dT kvs => obtain ⟨_, _, _, _, o, _, _, e, _⟩ := x; exact Heap.lt_size e
  | set S n => obtain ⟨o, _, _, _, e, _⟩ := x; exact Heap.lt_size e
  | ins C dx fs => obtain ⟨_, _, _, e, _⟩ := x; exact Heap.lt_size e
  | own y => obtain ⟨_, e⟩ := x; exact Heap.lt_size e
  | xd fs => obtain ⟨_, ⟨_, _, _, e, _⟩, _⟩ := x; exact Heap.lt_size e
  | rng lo hi => obtain ⟨_, _, _, e⟩ := x; exact Heap.lt_size e
  | frz ob u => obtain ⟨e, _⟩ := x; exact Heap.lt_size e
  | tbl ps => exact Heap.lt_size (show h.get? a = some _ from x)
  | met f y => exact Heap.lt_size (show h.get? a = some _ from x)
  | ext φ => obtain ⟨_, ⟨_, e⟩, _⟩ := x; exact Heap.lt_size e
theorem Paired.mapP {α β : Type} {F G : α → β → Prop} : ∀ {l₁ : List α} {l₂ : List β}, Paired F l₁ l₂ → (∀ a b, F a b → G a b) → Paired G l₁ l₂
  | _, _, .nil, _ => .nil
  | _, _, .cons r t, f => .cons (f _ _ r) (Paired.mapP t f)
theorem ObjOk.stay (x : ObjOk P w H h a o) (k : ∀ b u, (b = a ∨ H b = some (.own a)) → h.get? b = some u → h'.get? b = some u)
    (ho : ∀ b, H b = some (.own a) → H' b = some (.own a)) (ht : ∀ b xs, H b = some (.tup xs) → H' b = some (.tup xs)) : ObjOk P w H' h' a o := by
  induction o with
  | lst xs => obtain ⟨z, its, n, r, e⟩ := x; exact ⟨z, its, n, r, k _ _ (.inl rfl) e⟩
  | tup xs => obtain ⟨z, its, r, ob, e, c⟩ := x; exact ⟨z, its, r, ob, k _ _ (.inl rfl) e, c⟩
  | dK kvs => obtain ⟨z, y, vs, r, ob, es, ep, e, c⟩ := x; exact ⟨z, y, vs, r, ob, es, ep, k _ _ (.inl rfl) e, c⟩
  | dT kvs =>
    obtain ⟨z, y, xs, r, ob, es, ep, e, c⟩ := x
    exact ⟨z, y, xs, Paired.mapP r fun p q z => ⟨z.1, ht _ _ z.2.1, z.2.2⟩, ob, es, ep, k _ _ (.inl rfl) e, c⟩
  | set S n => obtain ⟨ob, es, ep, t, e, c⟩ := x; exact ⟨ob, es, ep, t, k _ _ (.inl rfl) e, c⟩
  | ins C dx fs =>
    obtain ⟨d, z, ne, e, mA, ⟨od, es, ep, e2, c⟩, r⟩ := x
    exact ⟨ho _ d, z, ne, k _ _ (.inl rfl) e, mA, ⟨od, es, ep, k _ _ (.inr d) e2, c⟩, r⟩
  | own y => obtain ⟨ob, e⟩ := x; exact ⟨ob, k _ _ (.inl rfl) e⟩
  | xd fs => obtain ⟨mA, ⟨od, es, ep, e, c⟩, r⟩ := x; exact ⟨mA, ⟨od, es, ep, k _ _ (.inl rfl) e, c⟩, r⟩
  | rng lo hi => obtain ⟨t, u, v, e⟩ := x; exact ⟨t, u, v, k _ _ (.inl rfl) e⟩
  | frz ob u ih => obtain ⟨e, q⟩ := x; exact ⟨k _ _ (.inl rfl) e, ih q⟩
  | tbl ps =>
    have e : h.get? a = some { cls := .none, data := .fields ps } := x
    show h'.get? a = some { cls := .none, data := .fields ps }
    exact k a _ (.inl rfl) e
  | met f y =>
    have e : h.get? a = some (PySem.W.methodObj (.ref f) (.ref y)) := x
    show h'.get? a = some (PySem.W.methodObj (.ref f) (.ref y))
    exact k a _ (.inl rfl) e
  | ext φ => obtain ⟨p, ⟨o, e⟩, st⟩ := x; exact ⟨st _ _ p fun o q => k _ _ (.inl rfl) q, ⟨o, k _ _ (.inl rfl) e⟩, st⟩
theorem HOk.lt (x : HOk P w H h) (e : H a = some o) : a < h.objs.size := (x a o e).lt
theorem HOk.fresh (x : HOk P w H h) (e : h.objs.size ≤ a) : H a = none := by
  cases q : H a with
  | none => rfl
  | some u => exact absurd (Nat.lt_of_lt_of_le (x.lt q) e) (Nat.lt_irrefl _)
theorem HOk.kept (x : HOk P w H h) (k : ∀ b u, h.get? b = some u → h'.get? b = some u) : HOk P w H h' := fun a o e =>
  (x a o e).stay (fun b u _ q => k b u q) (fun _ q => q) fun _ _ q => q
theorem HOk.laid (x : HOk P w H h) (k : ∀ b u, h.get? b = some u → h'.get? b = some u) (hp : h.objs.size ≤ a) (new : ObjOk P w (upd H a o) h' a o) : HOk P w (upd H a o) h' := fun b u e => by
  have hn := x.fresh hp
  by_cases hb : b = a
  · subst hb; rw [upd_same] at e; cases e; exact new
  · rw [upd_ne hb] at e
    exact (x b u e).stay (fun c v _ q => k c v q) (fun c q => by rw [upd_ne (ne_of_none q hn)]; exact q) fun c xs q => by rw [upd_ne (ne_of_none q hn)]; exact q
end
def Rd (H : Hp) (a : Addr) (u : HO) : Prop := H a = some u ∨ ∃ o, H a = some (.frz o u)
theorem Rd.of {H : Hp} {a : Addr} {u : HO} (h : H a = some u) : Rd H a u := .inl h
theorem Rd.ok {P : Program} {w : World} {H : Hp} {h : Heap} {a : Addr} {u : HO} (r : Rd H a u) (x : HOk P w H h) : ObjOk P w H h a u := by
  rcases r with r | ⟨o, r⟩
  · exact x a u r
  · obtain ⟨_, q⟩ := x a _ r
    exact q
def Mut : Option HO → Prop
  | some (.lst _) => True
  | some (.dK _) => True
  | some (.dT _) => True
  | some (.set _ _) => True
  | some (.ins _ _ _) => True
  | some (.ext _) => True
  | _ => False
section
variable {P : Program} {w : World} {H : Hp} {h h' : Heap} {x e : Addr} {o' : HO}
theorem HOk.write (ok : HOk P w H h) (mu : Mut (H x)) (he : e = x ∨ H e = some (.own x)) (k : ∀ b u, b ≠ e → h.get? b = some u → h'.get? b = some u) (heo : ∃ u, h'.get? e = some u)
    (new : ObjOk P w (upd H x o') h' x o') : HOk P w (upd H x o') h' := fun b u q => by
  have nown : ∀ c y, H c = some (.own y) → c ≠ x := fun c y r z => by subst z; rw [r] at mu; exact mu
  have ntup : ∀ c xs, H c = some (.tup xs) → c ≠ x := fun c xs r z => by subst z; rw [r] at mu; exact mu
  by_cases hb : b = x
  · subst hb; rw [upd_same] at q; cases q; exact new
  · rw [upd_ne hb] at q
    by_cases hbe : b = e
    · have q' : H b = some (.own x) := by
        rcases he with z | z
        · exact absurd (hbe.trans z) hb
        · rw [hbe]; exact z
      rw [q] at q'; cases q'
      obtain ⟨v, hv⟩ := heo
      exact ⟨v, by rw [hbe]; exact hv⟩
    · refine (ok b u q).stay (fun c v hc r => k c v ?_ r) (fun c r => by rw [upd_ne (nown c b r)]; exact r) fun c xs r => by rw [upd_ne (ntup c xs r)]; exact r
      rcases hc with rfl | hc
      · exact hbe
      · rintro rfl
        rcases he with z | z
        · exact nown c b hc z
        · rw [hc] at z; cases z; exact hb rfl
end
structure Un (fs ex : List Addr) (H H' : Hp) (h h' : Heap) : Prop where
  keep : ∀ b o, h.get? b = some o → H b = none → b ∉ fs → b ∉ ex → h'.get? b = some o
  slot : ∀ b o, h.get? b = some o → H b = none → b ∈ fs → b ∉ ex → ∃ sl, h'.get? b = some { o with slots := sl }
  free : ∀ b o, h.get? b = some o → H b = none → b ∉ ex → H' b = none
  there : ∀ b o, h.get? b = some o → b ∉ ex → ∃ o', h'.get? b = some o'
  tups : ∀ b xs, H b = some (.tup xs) → H' b = some (.tup xs)
  frzs : ∀ b o u, H b = some (.frz o u) → H' b = some (.frz o u)
  tbls : ∀ b ps, H b = some (.tbl ps) → ∃ more, H' b = some (.tbl (ps ++ more))
section
variable {fs fs' ex ex' : List Addr} {H H1 H2 : Hp} {h h1 h2 h' : Heap} {a x e : Addr} {o : HO}
theorem Un.any (u : Un fs ex H H1 h h1) {b : Addr} {ob : Obj} (q : h.get? b = some ob) (n : H b = none) (hx : b ∉ ex) : ∃ sl, h1.get? b = some { ob with slots := sl } := by
  by_cases hb : b ∈ fs
  · exact u.slot b ob q n hb hx
  · exact ⟨ob.slots, u.keep b ob q n hb hx⟩
theorem Un.trans (a : Un fs ex H H1 h h1) (b : Un fs ex H1 H2 h1 h2) : Un fs ex H H2 h h2 where
  keep := fun c ob q n hc hx => b.keep c ob (a.keep c ob q n hc hx) (a.free c ob q n hx) hc hx
  slot := fun c ob q n hc hx => by
    obtain ⟨sl, e1⟩ := a.slot c ob q n hc hx
    obtain ⟨sl', e2⟩ := b.slot c _ e1 (a.free c ob q n hx) hc hx
    exact ⟨sl', e2⟩
  free := fun c ob q n hx => by
    obtain ⟨o', e1⟩ := a.there c ob q hx
    exact b.free c o' e1 (a.free c ob q n hx) hx
  there := fun c ob q hx => by
    obtain ⟨o', e1⟩ := a.there c ob q hx
    exact b.there c o' e1 hx
  tups := fun c xs q => b.tups c xs (a.tups c xs q)
  frzs := fun c ob xs q => b.frzs c ob xs (a.frzs c ob xs q)
  tbls := fun c ps q => by
    obtain ⟨m1, e1⟩ := a.tbls c ps q
    obtain ⟨m2, e2⟩ := b.tbls c _ e1
    exact ⟨m1 ++ m2, by rw [e2, Array.append_assoc]⟩
theorem Un.kept (k : ∀ b u, h.get? b = some u → h'.get? b = some u) : Un fs ex H H h h' :=
  ⟨fun b ob q _ _ _ => k b ob q, fun b ob q _ _ _ => ⟨ob.slots, k b ob q⟩, fun _ _ _ n _ => n, fun b ob q _ => ⟨ob, k b ob q⟩, fun _ _ q => q, fun _ _ _ q => q, fun _ ps q => ⟨#[], by rw [q]; simp⟩⟩
theorem Un.refl : Un fs ex H H h h := Un.kept fun _ _ q => q
theorem Un.laid (k : ∀ b u, h.get? b = some u → h'.get? b = some u) (hp : h.objs.size ≤ a) (hn : H a = none) : Un fs ex H (upd H a o) h h' where
  keep := fun b u q _ _ _ => k b u q
  slot := fun b u q _ _ _ => ⟨u.slots, k b u q⟩
  free := fun b u q n _ => by rw [upd_ne (Nat.ne_of_lt (Nat.lt_of_lt_of_le (Heap.lt_size q) hp))]; exact n
  there := fun b u q _ => ⟨u, k b u q⟩
  tups := fun b xs q => by rw [upd_ne (ne_of_none q hn)]; exact q
  frzs := fun b u xs q => by rw [upd_ne (ne_of_none q hn)]; exact q
  tbls := fun b ps q => ⟨#[], by rw [upd_ne (ne_of_none q hn), q]; simp⟩
theorem Un.write (mu : Mut (H x)) (he : e = x ∨ H e = some (.own x)) (k : ∀ b u, b ≠ e → h.get? b = some u → h'.get? b = some u) (heo : ∃ u, h'.get? e = some u) : Un fs ex H (upd H x o) h h' := by
  have hx : ∀ b, H b = none → b ≠ x := fun b n z => by subst z; rw [n] at mu; exact mu
  have hb : ∀ b, H b = none → b ≠ e := fun b n z => by
    subst z
    rcases he with r | r
    · exact hx b n r
    · rw [n] at r; cases r
  have hm : ∀ b u, H b = some u → ¬ Mut (some u) → b ≠ x := fun b u q nm z => by subst z; rw [q] at mu; exact nm mu
  refine ⟨fun b u q n _ _ => k b u (hb b n) q, fun b u q n _ _ => ⟨u.slots, k b u (hb b n) q⟩, fun b u q n _ => by rw [upd_ne (hx b n)]; exact n, fun b u q _ => ?_,
    fun b xs q => by rw [upd_ne (hm b _ q fun z => z)]; exact q, fun b u xs q => by rw [upd_ne (hm b _ q fun z => z)]; exact q, fun b ps q => ⟨#[], by rw [upd_ne (hm b _ q fun z => z), q]; simp⟩⟩
  by_cases hbe : b = e
  · subst hbe; exact heo
  · exact ⟨u, k b u hbe q⟩
theorem Un.mono (u : Un fs ex H H1 h h1) (hs : ∀ b ∈ fs, b ∈ fs') (hx : ∀ b ∈ ex, b ∈ ex') : Un fs' ex' H H1 h h1 :=
  ⟨fun b ob q n hb he => u.keep b ob q n (fun z => hb (hs b z)) fun z => he (hx b z), fun _ _ q n _ he => u.any q n fun z => he (hx _ z), fun b ob q n he => u.free b ob q n fun z => he (hx b z), fun b ob q he => u.there b ob q fun z => he (hx b z), u.tups, u.frzs, u.tbls⟩
end
def trk (h : Heap) (H : Hp) : List Addr := (List.range h.objs.size).filter fun a => (H a).isSome
def hidT (h : Heap) (H : Hp) : Heap := PySem.W.hideAll h (trk h H)
theorem hidT_size (h : Heap) (H : Hp) : (hidT h H).objs.size = h.objs.size := PySem.W.hideAll_size _ _
theorem hidT_get {h : Heap} {H : Hp} {b : Addr} {o : Obj} (e : h.get? b = some o) (n : H b = none) : (hidT h H).get? b = some o :=
  PySem.W.hideAll_get _ e fun hm => by
    have q : (H b).isSome = true := (List.mem_filter.mp hm).2
    rw [n] at q; simp at q
theorem of_hidT {h : Heap} {H : Hp} {b : Addr} {o : Obj} (e : (hidT h H).get? b = some o) : h.get? b = some o ∧ H b = none := by
  have e' : h.get? b = some o := PySem.W.of_hideAll (trk h H) e
  refine ⟨e', ?_⟩
  cases q : H b with
  | none => rfl
  | some x =>
    have hm : b ∈ trk h H := List.mem_filter.mpr ⟨List.mem_range.mpr (Heap.lt_size e'), by simp [q]⟩
    have z : (hidT h H).get? b = none := PySem.W.hideAll_none (trk h H) hm
    rw [z] at e; cases e
def allNews (g h : Heap) (L : Addr) : List (Addr × Obj) := (List.range h.objs.size).filterMap fun a => if a = L ∨ (g.get? a).isSome = true then none else (h.get? a).map fun o => (a, o)
def rest (g h : Heap) (L d : Addr) : List (Addr × Obj) := (allNews g h L).filter fun p => decide (p.1 ≠ d)
end L2
namespace L2
open PySem PySem.Spec PyProof.Rows
structure Mod (K : PySem.W.Frag) (mg : Str → Option Value) (base : Heap) : Prop where
  kin : K.In base
  glob : base.Ns mainGlobals mg
  blt : ∃ mb, base.Ns builtinsNs mb ∧ ∀ x : Str, x ≠ "__name__" → mb x = bootBuiltins x
  nolimit : base.NoLimit
structure Cx where
  prog : Program
  w : World
  K : PySem.W.Frag
  mg : Str → Option Value
  base : Heap
  A : Around
  N : List Str
  s₀ : Shared
  H₀ : Hp
  env : Env
  outer : List Env
  stack : List Env
  ex : List Addr
  fn : Str → Bool
  calm : Bool
  pn : List (Addr × Obj)
  xe : Value → Shared → Prop
def frs (l : List Env) : List Addr := l.filterMap (·.frame)
abbrev Cx.fs (X : Cx) : List Addr := frs X.outer
def Vis (sc : Scope) (x : Str) : Prop := sc.names.lookup x = some .local ∨ sc.names.lookup x = some .cell ∨ sc.names.lookup x = some .free
def Loc (sc : Scope) (x : Str) : Prop := sc.names.lookup x = some .local ∨ sc.names.lookup x = some .cell
def Look (env : Env) (h : Heap) (m : Str → Option Value) (x : Str) (u : Value) : Prop :=
  (env.kindOf x = some .local ∧ m x = some u) ∨ ((env.kindOf x = some .cell ∨ env.kindOf x = some .free) ∧ ∃ c, env.cells.lookup x = some c ∧ h.IsCell c (some u))
structure Cx.Ok (X : Cx) : Prop where
  mod : Mod X.K X.mg X.base
  kind : X.env.scope.kind = .function
  glob : X.env.globals = mainGlobals
  blt : X.env.builtins = builtinsNs
  above : X.s₀.heap.objs.size ≤ X.env.locals
  inj : ∀ x y c, X.env.cells.lookup x = some c → X.env.cells.lookup y = some c → x = y
  has : ∀ x, (X.env.kindOf x = some .cell ∨ X.env.kindOf x = some .free) → ∃ c, X.env.cells.lookup x = some c
  cab : ∀ x c, X.fn x = true → X.env.cells.lookup x = some c → X.s₀.heap.objs.size ≤ c
  hd : X.calm = true → X.A.handled = none
  frames : X.A.frames = some X.stack
  stk : X.stack = X.outer ∨ (X.stack = X.env :: X.outer ∧ X.env.frame = some X.env.locals)
  exf : ∀ b ∈ X.ex, b ≠ X.env.locals ∧ ∀ x c, X.env.cells.lookup x = some c → c ≠ b
  bs : ∀ b o, X.base.get? b = some o → X.s₀.heap.get? b = some o ∧ X.H₀ b = none
  bsz : X.base.objs.size ≤ X.s₀.heap.objs.size
  noex : ∀ b o, X.base.get? b = some o → b ∉ X.ex
  exfs : ∀ b ∈ X.ex, b ∉ X.fs
  funs : X.s₀.heap.FunFrames X.base X.outer
  frf : ∀ b ∈ X.fs, X.H₀ b = none
structure Inv (X : Cx) (pins : List (Addr × Obj)) (σ : List (Option V)) (H : Hp) (s : Shared) : Prop where
  ok : X.Ok
  os : s.os = X.s₀.os
  bare : AllBare s.gens
  base : Un X.fs X.ex X.H₀ H X.s₀.heap s.heap
  loc : ∃ m, s.heap.Ns X.env.locals m ∧ ∀ (i : Nat) (x : Str) (v : V), X.N[i]? = some x → σ[i]? = some (some v) → Vis X.env.scope x → ∃ u, RelV v u ∧ Look X.env s.heap m x u
  cell : ∀ x c, X.env.cells.lookup x = some c → ∃ v, s.heap.IsCell c v
  free : H X.env.locals = none
  freeC : ∀ x c, X.env.cells.lookup x = some c → H c = none
  pin : ∀ p ∈ X.pn ++ pins, s.heap.get? p.1 = some p.2 ∧ H p.1 = none ∧ p.1 ≠ X.env.locals ∧ p.1 ∉ X.fs ∧ ∀ v, p.2.data ≠ .cell v
  hok : HOk X.prog X.w H s.heap
  len : σ.length = X.N.length
section
variable {X : Cx} {pins : List (Addr × Obj)} {σ : List (Option V)} {H H' : Hp} {s : Shared} {h' : Heap}
theorem Cx.Ok.nofr (ok : X.Ok) {b : Addr} {o : Obj} (e : X.base.get? b = some o) : b ∉ X.fs := fun hb => by
  have := (ok.funs.mem hb).1
  rw [e] at this; cases this
theorem Inv.bs (I : Inv X pins σ H s) : ∀ b o, X.base.get? b = some o → s.heap.get? b = some o ∧ H b = none := fun b o e =>
  ⟨I.base.keep b o (I.ok.bs b o e).1 (I.ok.bs b o e).2 (I.ok.nofr e) (I.ok.noex b o e), I.base.free b o (I.ok.bs b o e).1 (I.ok.bs b o e).2 (I.ok.noex b o e)⟩
theorem Inv.bk (I : Inv X pins σ H s) : ∀ b o, X.base.get? b = some o → s.heap.get? b = some o := fun b o e => (I.bs b o e).1
theorem Inv.mod (I : Inv X pins σ H s) : Mod X.K X.mg X.base := I.ok.mod
theorem Inv.kIn (I : Inv X pins σ H s) : X.K.In s.heap := I.ok.mod.kin.keeps I.bk
theorem Inv.nolimit (I : Inv X pins σ H s) : s.heap.NoLimit := I.ok.mod.nolimit.keeps I.bk
theorem Inv.fr (I : Inv X pins σ H s) : ∃ m, Fr X.base X.env.locals s.heap m :=
  let ⟨m, hn, _⟩ := I.loc
  ⟨m, hn, I.bk, Nat.le_trans I.ok.bsz I.ok.above⟩
theorem Inv.lt (I : Inv X pins σ H s) : X.env.locals < s.heap.objs.size := let ⟨_, hn, _⟩ := I.loc; hn.lt
theorem Inv.sz (I : Inv X pins σ H s) : X.s₀.heap.objs.size ≤ s.heap.objs.size := Nat.le_trans I.ok.above (Nat.le_of_lt I.lt)
theorem Inv.nofs (I : Inv X pins σ H s) {a : Addr} (h : s.heap.objs.size ≤ a) : a ∉ X.fs := fun hb => by
  obtain ⟨_, o, ho, _⟩ := I.ok.funs.mem hb
  exact absurd (Nat.lt_of_lt_of_le (Heap.lt_size ho) (Nat.le_trans I.sz h)) (Nat.lt_irrefl _)
theorem Inv.cne (I : Inv X pins σ H s) : ∀ x c, X.env.cells.lookup x = some c → c ≠ X.env.locals := fun x c e z => by
  obtain ⟨v, o, ho, hd⟩ := I.cell x c e
  obtain ⟨m, ⟨o', es, ep, ho', hd', _⟩, _⟩ := I.loc
  rw [z, ho'] at ho; cases ho; rw [hd'] at hd; cases hd
theorem Inv.funs (I : Inv X pins σ H s) : s.heap.FunFrames X.base X.outer := by
  have all : ∀ (l : List Env), (∀ b ∈ frs l, b ∈ X.fs) → X.s₀.heap.FunFrames X.base l → s.heap.FunFrames X.base l := by
    intro l
    induction l with
    | nil => intro _ _; trivial
    | cons env r ih =>
      intro hs hl
      obtain ⟨hk, ⟨L, o, hf, hn, ho, hd⟩, hr⟩ := hl
      have hL : L ∈ X.fs := hs L (by unfold frs; rw [List.filterMap_cons, hf]; exact List.mem_cons_self)
      obtain ⟨sl, e⟩ := I.base.slot L o ho (I.ok.frf L hL) hL fun z => I.ok.exfs L z hL
      exact ⟨hk, ⟨L, _, hf, hn, e, hd⟩, ih (fun b hb => hs b (by unfold frs; rw [List.filterMap_cons, hf]; exact List.mem_cons_of_mem _ hb)) hr⟩
  exact all X.outer (fun _ hb => hb) I.ok.funs
theorem Inv.stack (I : Inv X pins σ H s) : s.heap.FunFrames X.base X.stack := by
  rcases I.ok.stk with e | ⟨e, hf⟩
  · rw [e]; exact I.funs
  · rw [e]
    obtain ⟨m, hn, _⟩ := I.loc
    refine .cons (by rw [I.ok.kind]; decide) hf hn ?_ I.funs
    exact Heap.get?_none_of_le (Nat.le_trans I.ok.bsz I.ok.above)
theorem Inv.stkSub (I : Inv X pins σ H s) : ∀ b ∈ frs X.stack, b ∈ X.env.locals :: X.fs := fun b hb => by
  rcases I.ok.stk with e | ⟨e, hf⟩
  · rw [e] at hb; exact List.mem_cons_of_mem _ hb
  · rw [e] at hb
    unfold frs at hb
    rw [List.filterMap_cons, hf] at hb
    exact hb
theorem Inv.stkFree (I : Inv X pins σ H s) : ∀ b ∈ frs X.stack, H b = none := fun b hb => by
  rcases List.mem_cons.mp (I.stkSub b hb) with e | hb
  · rw [e]; exact I.free
  · obtain ⟨_, o, ho, _⟩ := I.ok.funs.mem hb
    exact I.base.free b o ho (I.ok.frf b hb) fun z => I.ok.exfs b z hb
theorem Inv.step {g' : Array GenState} {t' : Nat} {d' : Drawn} {ch : List Addr} (I : Inv X pins σ H s)
    (hch : ∀ b ∈ ch, (b ∈ X.ex ∨ X.s₀.heap.objs.size ≤ b) ∧ b ≠ X.env.locals ∧ (∀ x c, X.env.cells.lookup x = some c → c ≠ b) ∧ ∀ p ∈ X.pn ++ pins, p.1 ≠ b)
    (keep : ∀ b o, b ≠ X.env.locals → b ∉ X.fs → b ∉ ch → s.heap.get? b = some o → H b = none → h'.get? b = some o)
    (slot : ∀ b o, b ≠ X.env.locals → b ∈ X.fs → b ∉ ch → s.heap.get? b = some o → H b = none → ∃ sl, h'.get? b = some { o with slots := sl }) (free : ∀ b o, b ∉ ch → s.heap.get? b = some o → H b = none → H' b = none)
    (there : ∀ b o, b ∉ ch → s.heap.get? b = some o → ∃ o', h'.get? b = some o')
    (tups : ∀ b xs, H b = some (.tup xs) → H' b = some (.tup xs)) (frzs : ∀ b o u, H b = some (.frz o u) → H' b = some (.frz o u)) (tbls : ∀ b ps, H b = some (.tbl ps) → ∃ more, H' b = some (.tbl (ps ++ more)))
    (ns : ∀ m, s.heap.Ns X.env.locals m → h'.Ns X.env.locals m) (hok : HOk X.prog X.w H' h') (hg : AllBare g') :
    Inv X pins σ H' { s with heap := h', gens := g', drawn := d', toks := t' } := by
  have neL : ∀ b o, X.s₀.heap.get? b = some o → b ≠ X.env.locals := fun b o e => Nat.ne_of_lt (Nat.lt_of_lt_of_le (Heap.lt_size e) I.ok.above)
  have neC : ∀ b o, X.s₀.heap.get? b = some o → b ∉ X.ex → b ∉ ch := fun b o e hx hb => by
    rcases (hch b hb).1 with z | z
    · exact hx z
    · exact absurd (Nat.lt_of_lt_of_le (Heap.lt_size e) z) (Nat.lt_irrefl _)
  have cellK : ∀ x c, X.env.cells.lookup x = some c → ∀ v, s.heap.IsCell c v → h'.IsCell c v := fun x c e v ⟨o, ho, hd⟩ => by
    have nch : c ∉ ch := fun z => (hch c z).2.2.1 x c e rfl
    by_cases hc : c ∈ X.fs
    · obtain ⟨sl, q⟩ := slot c o (I.cne x c e) hc nch ho (I.freeC x c e)
      exact ⟨_, q, hd⟩
    · exact ⟨o, keep c o (I.cne x c e) hc nch ho (I.freeC x c e), hd⟩
  refine ⟨I.ok, I.os, hg, ⟨fun b o e n hb hx => ?_, fun b o e n hb hx => ?_, fun b o e n hx => ?_, fun b o e hx => ?_, fun b xs e => tups b xs (I.base.tups b xs e), fun b o xs e => frzs b o xs (I.base.frzs b o xs e), fun b ps e => ?_⟩, ?_, fun x c e => ?_, ?_, fun x c e => ?_, fun p hp => ?_, hok, I.len⟩
  · exact keep b o (neL b o e) hb (neC b o e hx) (I.base.keep b o e n hb hx) (I.base.free b o e n hx)
  · obtain ⟨sl, e1⟩ := I.base.slot b o e n hb hx
    obtain ⟨sl', e2⟩ := slot b _ (neL b o e) hb (neC b o e hx) e1 (I.base.free b o e n hx)
    exact ⟨sl', e2⟩
  · obtain ⟨o', e1⟩ := I.base.there b o e hx
    exact free b o' (neC b o e hx) e1 (I.base.free b o e n hx)
  · obtain ⟨o', e1⟩ := I.base.there b o e hx
    exact there b o' (neC b o e hx) e1
  · obtain ⟨m1, e1⟩ := I.base.tbls b ps e
    obtain ⟨m2, e2⟩ := tbls b _ e1
    exact ⟨m1 ++ m2, by rw [e2, Array.append_assoc]⟩
  · obtain ⟨m, hn, hl⟩ := I.loc
    refine ⟨m, ns m hn, fun i x v e1 e2 e3 => ?_⟩
    obtain ⟨u, r, l⟩ := hl i x v e1 e2 e3
    refine ⟨u, r, ?_⟩
    rcases l with l | ⟨k, c, e, z⟩
    · exact .inl l
    · exact .inr ⟨k, c, e, cellK x c e _ z⟩
  · obtain ⟨v, z⟩ := I.cell x c e
    exact ⟨v, cellK x c e v z⟩
  · obtain ⟨m, ⟨o, _, _, ho, _⟩, _⟩ := I.loc
    exact free _ o (fun z => (hch _ z).2.1 rfl) ho I.free
  · obtain ⟨v, o, ho, hd⟩ := I.cell x c e
    exact free c o (fun z => (hch c z).2.2.1 x c e rfl) ho (I.freeC x c e)
  · obtain ⟨e, n, ne, nf, d⟩ := I.pin p hp
    have nch : p.1 ∉ ch := fun z => (hch p.1 z).2.2.2 p hp rfl
    exact ⟨keep p.1 p.2 ne nf nch e n, free p.1 p.2 nch e n, ne, nf, d⟩
theorem Inv.un {t' : Nat} (I : Inv X pins σ H s) (u : Un X.fs [] H H' s.heap h') (hok : HOk X.prog X.w H' h') : Inv X pins σ H' { s with heap := h', toks := t' } := by
  obtain ⟨m, ⟨o, es, ep, ho, r⟩, _⟩ := id I.loc
  obtain ⟨sl, hL⟩ := u.any ho I.free (by simp)
  exact I.step (g' := s.gens) (d' := s.drawn) (ch := []) (fun _ z => nomatch z) (fun b o _ hb _ e n => u.keep b o e n hb (by simp)) (fun b o _ hb _ e n => u.slot b o e n hb (by simp)) (fun b o _ e n => u.free b o e n (by simp)) (fun b o _ e => u.there b o e (by simp)) u.tups u.frzs u.tbls (fun m' hm => by
    obtain ⟨o', es', ep', ho', r'⟩ := hm
    rw [ho] at ho'; cases ho'
    exact ⟨_, es', ep', hL, r'⟩) hok I.bare
theorem Inv.call {g' : Array GenState} {t' : Nat} {d' : Drawn} {ch : List Addr} (I : Inv X pins σ H s) (u : Un (frs X.stack) ch H H' s.heap h') (hok : HOk X.prog X.w H' h') (hg : AllBare g')
    (hch : ∀ b ∈ ch, (b ∈ X.ex ∨ X.s₀.heap.objs.size ≤ b) ∧ b ≠ X.env.locals ∧ (∀ x c, X.env.cells.lookup x = some c → c ≠ b) ∧ ∀ p ∈ X.pn ++ pins, p.1 ≠ b) :
    Inv X pins σ H' { s with heap := h', gens := g', drawn := d', toks := t' } := by
  obtain ⟨m, ⟨o, es, ep, ho, r⟩, _⟩ := id I.loc
  obtain ⟨sl, hL⟩ := u.any ho I.free fun z => (hch _ z).2.1 rfl
  exact I.step (ch := ch) hch (fun b o hL hb hc e n => u.keep b o e n (fun z => (List.mem_cons.mp (I.stkSub b z)).elim hL hb) hc) (fun b o _ _ hc e n => u.any e n hc) (fun b o hc e n => u.free b o e n hc) (fun b o hc e => u.there b o e hc) u.tups u.frzs u.tbls (fun m' hm => by
    obtain ⟨o', es', ep', ho', r'⟩ := hm
    rw [ho] at ho'; cases ho'
    exact ⟨_, es', ep', hL, r'⟩) hok hg
theorem Inv.turned {t' : Nat} {it : Addr} (I : Inv X pins σ H s) (k : ∀ b o, b ≠ it → s.heap.get? b = some o → h'.get? b = some o) (hn : H it = none) (hL : it ≠ X.env.locals)
    (h1 : it ∈ X.ex ∨ X.s₀.heap.objs.size ≤ it) (h2 : ∀ x c, X.env.cells.lookup x = some c → c ≠ it) (h3 : ∀ p ∈ X.pn ++ pins, p.1 ≠ it) : Inv X pins σ H { s with heap := h', toks := t' } := by
  have nit : ∀ b u, H b = some u → b ≠ it := fun b u e z => by rw [z, hn] at e; cases e
  refine I.step (g' := s.gens) (d' := s.drawn) (ch := [it]) (fun b hb => ?_) (fun b o _ _ hc e _ => k b o (fun z => hc (by simp [z])) e) (fun b o _ _ hc e _ => ⟨o.slots, k b o (fun z => hc (by simp [z])) e⟩) (fun _ _ _ _ n => n)
    (fun b o hc e => ⟨o, k b o (fun z => hc (by simp [z])) e⟩) (fun _ _ e => e) (fun _ _ _ e => e) (fun b ps e => ⟨#[], by rw [e]; simp⟩) (fun m hm => ?_) (fun b u e => ?_) I.bare
  · have e : b = it := by simpa using hb
    subst e
    exact ⟨h1, hL, h2, h3⟩
  · obtain ⟨o, es, ep, ho, r⟩ := hm
    exact ⟨o, es, ep, k _ o (Ne.symm hL) ho, r⟩
  · refine (I.hok b u e).stay (fun c v hc q => k c v ?_ q) (fun _ q => q) fun _ _ q => q
    rcases hc with z | z
    · rw [z]; exact nit b u e
    · exact nit c _ z
theorem Inv.tok (I : Inv X pins σ H s) (t : Nat) : Inv X pins σ H { s with toks := t } := I.un (h' := s.heap) (t' := t) Un.refl I.hok
theorem Inv.kept {t' : Nat} (I : Inv X pins σ H s) (k : ∀ b u, s.heap.get? b = some u → h'.get? b = some u) : Inv X pins σ H { s with heap := h', toks := t' } := I.un (Un.kept k) (I.hok.kept k)
theorem Inv.laid {a : Addr} {o : HO} {t' : Nat} (I : Inv X pins σ H s) (k : ∀ b u, s.heap.get? b = some u → h'.get? b = some u) (hp : s.heap.objs.size ≤ a) (new : ObjOk X.prog X.w (upd H a o) h' a o) :
    Inv X pins σ (upd H a o) { s with heap := h', toks := t' } := I.un (Un.laid k hp (I.hok.fresh hp)) (I.hok.laid k hp new)
theorem Inv.write {x e : Addr} {o : HO} {t' : Nat} (I : Inv X pins σ H s) (mu : Mut (H x)) (he : e = x ∨ H e = some (.own x)) (k : ∀ b u, b ≠ e → s.heap.get? b = some u → h'.get? b = some u) (heo : ∃ u, h'.get? e = some u)
    (new : ObjOk X.prog X.w (upd H x o) h' x o) : Inv X pins σ (upd H x o) { s with heap := h', toks := t' } := I.un (Un.write mu he k heo) (I.hok.write mu he k heo new)
theorem Inv.pins_of {pins' : List (Addr × Obj)} (I : Inv X pins σ H s) (h : ∀ p ∈ pins', s.heap.get? p.1 = some p.2 ∧ H p.1 = none ∧ p.1 ≠ X.env.locals ∧ p.1 ∉ X.fs ∧ ∀ v, p.2.data ≠ .cell v) : Inv X pins' σ H s :=
  ⟨I.ok, I.os, I.bare, I.base, I.loc, I.cell, I.free, I.freeC, fun p hp => (List.mem_append.mp hp).elim (fun z => I.pin p (List.mem_append_left _ z)) (h p), I.hok, I.len⟩
theorem nodup_ix {N : List Str} (hN : N.Nodup) {i j : Nat} {x : Str} (a : N[i]? = some x) (b : N[j]? = some x) : i = j := by
  obtain ⟨h1, e1⟩ := List.getElem?_eq_some_iff.mp a
  obtain ⟨h2, e2⟩ := List.getElem?_eq_some_iff.mp b
  exact (List.getElem_inj hN).mp (e1.trans e2.symm)
theorem store_ok2 {M : Model} {A : Around} {E : Value → Shared → Prop} {i : Nat} {x : Str} {v : V} {u : Value} {Q : Unit → Shared → Prop} (I : Inv X pins σ H s) (hN : X.N.Nodup) (hi : X.N[i]? = some x) (hx : Loc X.env.scope x) (r : RelV v u)
    (h : ∀ s', Inv X pins (σ.set i (some v)) H s' → (∃ a, Heap.SameBut a s.heap s'.heap ∧ (a = X.env.locals ∨ X.env.cells.lookup x = some a)) → Q () s') (hf : X.fn x = true ∨ X.env.scope.names.lookup x = some .local := by first | exact .inl rfl | exact .inr rfl | assumption) : wpAny M A (storeName X.env x u) Q E s := by
  obtain ⟨m, hn, hl⟩ := id I.loc
  have hcls : (X.env.scope.kind == .class || (X.env.scope.kind == .module && X.env.locals != X.env.globals)) = false := by rw [I.ok.kind]; rfl
  have hiσ : i < σ.length := by rw [I.len]; exact (List.getElem?_eq_some_iff.mp hi).1
  have cne := I.cne
  have tracked : ∀ {a : Addr} {h' : Heap}, (∃ o, s.heap.get? a = some o ∧ H a = none) → Heap.SameBut a s.heap h' → HOk X.prog X.w H h' := fun {a h'} ha hs b ob e => by
    obtain ⟨_, _, hfree⟩ := ha
    refine (I.hok b ob e).stay (fun c w' hc q => (hs.2 c ?_).trans q) (fun _ q => q) fun _ _ q => q
    rintro rfl
    rcases hc with rfl | hc
    · rw [hfree] at e; cases e
    · rw [hfree] at hc; cases hc
  rcases hx with hk | hk
  · refine wpAny_storeName_local hk hn (fun h' hn' hs => ?_) hcls
    obtain ⟨oL, _, _, hoL, _⟩ := id hn
    refine h _ ⟨I.ok, I.os, I.bare, ⟨fun b o e n hb hx => ?_, fun b o e n hb hx => ?_, I.base.free, fun b o e hx => ?_, I.base.tups, I.base.frzs, I.base.tbls⟩, ⟨_, hn', fun j y v' e1 e2 e3 => ?_⟩, fun y c e => ?_, I.free, I.freeC, fun p hp => ?_, tracked ⟨oL, hoL, I.free⟩ hs, by simpa using I.len⟩ ⟨_, hs, .inl rfl⟩
    · exact (hs.2 b (Nat.ne_of_lt (Nat.lt_of_lt_of_le (Heap.lt_size e) I.ok.above))).trans (I.base.keep b o e n hb hx)
    · obtain ⟨sl, e1⟩ := I.base.slot b o e n hb hx
      exact ⟨sl, (hs.2 b (Nat.ne_of_lt (Nat.lt_of_lt_of_le (Heap.lt_size e) I.ok.above))).trans e1⟩
    · obtain ⟨o', e1⟩ := I.base.there b o e hx
      exact ⟨o', (hs.2 b (Nat.ne_of_lt (Nat.lt_of_lt_of_le (Heap.lt_size e) I.ok.above))).trans e1⟩
    · by_cases hj : j = i
      · subst hj
        rw [hi] at e1; cases e1
        rw [List.getElem?_set_self hiσ] at e2
        cases e2
        exact ⟨u, r, .inl ⟨hk, by simp⟩⟩
      · rw [List.getElem?_set_ne (Ne.symm hj)] at e2
        obtain ⟨u', r', q⟩ := hl j y v' e1 e2 e3
        refine ⟨u', r', ?_⟩
        rcases q with ⟨k, e⟩ | ⟨k, c, e, z⟩
        · refine .inl ⟨k, ?_⟩
          have : y ≠ x := fun e => hj (nodup_ix hN e1 (e ▸ hi))
          simp [this, e]
        · exact .inr ⟨k, c, e, z.sameBut hs (cne y c e)⟩
    · obtain ⟨w', z⟩ := I.cell y c e
      exact ⟨w', z.sameBut hs (cne y c e)⟩
    · obtain ⟨e, n, ne, nf, d⟩ := I.pin p hp
      exact ⟨(hs.2 p.1 ne).trans e, n, ne, nf, d⟩
  · have hfn : X.fn x = true := by
      rcases hf with z | z
      · exact z
      · rw [z] at hk; cases hk
    obtain ⟨c, hc⟩ := I.ok.has x (.inl hk)
    obtain ⟨w', z⟩ := I.cell x c hc
    refine wpAny_storeName_cell I.ok.kind hk hc z (fun h' hc' hs => ?_)
    obtain ⟨oc, hoc, hocd⟩ := id z
    refine h { s with heap := h' } ⟨I.ok, I.os, I.bare, ⟨fun b o e n hb hx => ?_, fun b o e n hb hx => ?_, I.base.free, fun b o e hx => ?_, I.base.tups, I.base.frzs, I.base.tbls⟩, ⟨m, hn.sameBut hs (Ne.symm (cne x c hc)), fun j y v' e1 e2 e3 => ?_⟩, fun y c' e => ?_, I.free, I.freeC, fun p hp => ?_, tracked ⟨oc, hoc, I.freeC x c hc⟩ hs, by simpa using I.len⟩ ⟨c, hs, .inr hc⟩
    · exact (hs.2 b (Nat.ne_of_lt (Nat.lt_of_lt_of_le (Heap.lt_size e) (I.ok.cab x c hfn hc)))).trans (I.base.keep b o e n hb hx)
    · obtain ⟨sl, e1⟩ := I.base.slot b o e n hb hx
      exact ⟨sl, (hs.2 b (Nat.ne_of_lt (Nat.lt_of_lt_of_le (Heap.lt_size e) (I.ok.cab x c hfn hc)))).trans e1⟩
    · obtain ⟨o', e1⟩ := I.base.there b o e hx
      exact ⟨o', (hs.2 b (Nat.ne_of_lt (Nat.lt_of_lt_of_le (Heap.lt_size e) (I.ok.cab x c hfn hc)))).trans e1⟩
    · by_cases hj : j = i
      · subst hj
        rw [hi] at e1; cases e1
        rw [List.getElem?_set_self hiσ] at e2
        cases e2
        exact ⟨u, r, .inr ⟨.inl hk, c, hc, hc'⟩⟩
      · rw [List.getElem?_set_ne (Ne.symm hj)] at e2
        obtain ⟨u', r', q⟩ := hl j y v' e1 e2 e3
        refine ⟨u', r', ?_⟩
        rcases q with q | ⟨k, c', e, z'⟩
        · exact .inl q
        · refine .inr ⟨k, c', e, z'.sameBut hs ?_⟩
          rintro rfl
          exact hj (nodup_ix hN e1 (I.ok.inj _ _ _ e hc ▸ hi))
    · by_cases hcc : c' = c
      · subst hcc; exact ⟨_, hc'⟩
      · obtain ⟨w2, z2⟩ := I.cell y c' e
        exact ⟨w2, z2.sameBut hs hcc⟩
    · obtain ⟨e, n, ne, nf, d⟩ := I.pin p hp
      refine ⟨(hs.2 p.1 ?_).trans e, n, ne, nf, d⟩
      intro q
      rw [q, hoc] at e
      have q' : oc = p.2 := Option.some.inj e
      exact d w' (by rw [← q']; exact hocd)
theorem store_ok {M : Model} {A : Around} {E : Value → Shared → Prop} {i : Nat} {x : Str} {v : V} {u : Value} {Q : Unit → Shared → Prop} (I : Inv X pins σ H s) (hN : X.N.Nodup) (hi : X.N[i]? = some x) (hx : Loc X.env.scope x) (r : RelV v u)
    (h : ∀ s', Inv X pins (σ.set i (some v)) H s' → Q () s') (hf : X.fn x = true ∨ X.env.scope.names.lookup x = some .local := by first | exact .inl rfl | exact .inr rfl | assumption) : wpAny M A (storeName X.env x u) Q E s :=
  store_ok2 I hN hi hx r (fun s' I' _ => h s' I') hf
theorem Inv.call' {s' : Shared} {ch : List Addr} (I : Inv X pins σ H s) (ho : s'.os = s.os) (u : Un (frs X.stack) ch H H' s.heap s'.heap) (hok : HOk X.prog X.w H' s'.heap) (hg : AllBare s'.gens)
    (hch : ∀ b ∈ ch, (b ∈ X.ex ∨ X.s₀.heap.objs.size ≤ b) ∧ b ≠ X.env.locals ∧ (∀ x c, X.env.cells.lookup x = some c → c ≠ b) ∧ ∀ p ∈ X.pn ++ pins, p.1 ≠ b) : Inv X pins σ H' s' := by
  obtain ⟨h', g', d', t', o'⟩ := s'
  have e : o' = s.os := ho
  subst e
  exact I.call (g' := g') (t' := t') (d' := d') u hok hg hch
end
abbrev XK := Value → Option Addr → Hp → Prop
abbrev St := List (Option V)
abbrev VK := V → Hp → Prop
abbrev TE := St → Hp → VK → Prop
abbrev TT := St → Hp → (Bool → Hp → Prop) → Prop
abbrev TA := St → Hp → (List V → Hp → Prop) → Prop
structure Ends where
  nx : St → Hp → Prop
  rt : VK
  bk : St → Hp → Prop := fun _ _ => False
  ct : St → Hp → Prop := fun _ _ => False
abbrev TS := Ends → St → Hp → Prop
def EP (X : Cx) (pins : List (Addr × Obj)) (σ : St) (Q : VK) (u : Value) (s' : Shared) : Prop := ∃ v H', Inv X pins σ H' s' ∧ RelV v u ∧ Q v H'
def TP (X : Cx) (pins : List (Addr × Obj)) (σ : St) (Q : Bool → Hp → Prop) (b : Bool) (s' : Shared) : Prop := ∃ H', Inv X pins σ H' s' ∧ Q b H'
def AP (X : Cx) (pins : List (Addr × Obj)) (σ : St) (Q : List V → Hp → Prop) (us : List Value) (s' : Shared) : Prop := ∃ vs H', Inv X pins σ H' s' ∧ Vals vs us ∧ Q vs H'
def SP (X : Cx) (pins : List (Addr × Obj)) (D : Ends) (f : Flow) (s' : Shared) : Prop :=
  match f with
  | .next => ∃ σ' H', Inv X pins σ' H' s' ∧ D.nx σ' H'
  | .brk => ∃ σ' H', Inv X pins σ' H' s' ∧ D.bk σ' H'
  | .cont => ∃ σ' H', Inv X pins σ' H' s' ∧ D.ct σ' H'
  | .ret u => ∃ v σ' H', Inv X pins σ' H' s' ∧ RelV v u ∧ D.rt v H'
def PE (X : Cx) (e : Expr) (t : TE) : Prop :=
  ∀ (pins : List (Addr × Obj)) (s : Shared) (σ : St) (H : Hp) (Q : VK), Inv X pins σ H s → t σ H Q → wpAny (model X.prog X.w) X.A (eval e X.env) (EP X pins σ Q) X.xe s
def PT (X : Cx) (e : Expr) (t : TT) : Prop :=
  ∀ (pins : List (Addr × Obj)) (s : Shared) (σ : St) (H : Hp) (Q : Bool → Hp → Prop), Inv X pins σ H s → t σ H Q → wpAny (model X.prog X.w) X.A (isTrue e X.env (eval e X.env)) (TP X pins σ Q) X.xe s
def PW (X : Cx) (e : Expr) (t : TT) : Prop :=
  ∀ (whole : Sem Value) (pins : List (Addr × Obj)) (s : Shared) (σ : St) (H : Hp) (Q : Bool → Hp → Prop), Inv X pins σ H s → t σ H Q → wpAny (model X.prog X.w) X.A (isTrue e X.env whole) (TP X pins σ Q) X.xe s
theorem PW.pt {X : Cx} {e : Expr} {t : TT} (h : PW X e t) : PT X e t := h _
def PA (X : Cx) (es : List Expr) (t : TA) : Prop :=
  ∀ (pos : Pos) (pins : List (Addr × Obj)) (s : Shared) (σ : St) (H : Hp) (Q : List V → Hp → Prop), Inv X pins σ H s → t σ H Q → wpAny (model X.prog X.w) X.A (spliced (backTo pos (starEach es X.env))) (AP X pins σ Q) X.xe s
def PS (X : Cx) (st : Stmt) (t : TS) : Prop :=
  ∀ (pins : List (Addr × Obj)) (s : Shared) (σ : St) (H : Hp) (D : Ends), Inv X pins σ H s → t D σ H → wpAny (model X.prog X.w) X.A (exec st X.env) (SP X pins D) X.xe s
def PSs (X : Cx) (st : List Stmt) (t : TS) : Prop :=
  ∀ (pins : List (Addr × Obj)) (s : Shared) (σ : St) (H : Hp) (D : Ends), Inv X pins σ H s → t D σ H → wpAny (model X.prog X.w) X.A (execs st X.env) (SP X pins D) X.xe s
theorem thn {α : Type} {t : Sem α} {Q Q' : α → Shared → Prop} {M : Model} {A : Around} {E : Value → Shared → Prop} {s : Shared} (h : wpAny M A t Q E s) (hQ : ∀ a s, Q a s → Q' a s) : wpAny M A t Q' E s := wpAny_mono h hQ fun _ _ x => x
end L2
namespace L2
open PySem PySem.Spec PyProof.Rows
section
variable {X : Cx}
def tVar (i : Nat) : TE := fun σ H Q => ∃ v, σ[i]? = some (some v) ∧ Q v H
def tC (v : V) : TE := fun _ H Q => Q v H
theorem pe_var {i : Nat} {x : Str} {pos : Pos} (hN : X.N[i]? = some x) (hv : Vis X.env.scope x) (hd : (x == ("__debug__" : Str)) = false := by decide) (hcd : (x == ("__classdict__" : Str)) = false := by decide) : PE X (.Name x pos) (tVar i) := by
  intro pins s σ H Q I h
  obtain ⟨v, e, h⟩ := h
  obtain ⟨m, hn, hl⟩ := I.loc
  obtain ⟨u, r, l⟩ := hl i x v hN e hv
  have fin : EP X pins σ Q u s := ⟨v, H, I, r, h⟩
  rcases l with ⟨hk, hm⟩ | ⟨hk, c, hc, hcell⟩
  · exact wpAny_Name (wpAny_loadName_local I.ok.kind hk hn hm fin) hd
  · rcases hk with hk | hk
    · exact wpAny_Name (wpAny_loadName_cell I.ok.kind hk hc hcell fin) hd
    · exact wpAny_Name (wpAny_loadName_free I.ok.kind hk hc hcell fin hcd) hd
theorem pe_int {i j pos} : PE X (.Constant (.int i) j pos) (tC (.int i)) := fun _ _ _ H _ I h => wpAny_Constant_int ⟨.int i, H, I.tok _, ⟨_, rfl⟩, h⟩
theorem pe_bl {b j pos} : PE X (.Constant (.bool b) j pos) (tC (.bl b)) := fun _ _ _ H _ I h => Constant_bool ⟨.bl b, H, I, rfl, h⟩
theorem pe_str {x j pos} : PE X (.Constant (.str x) j pos) (tC (.str x)) := fun _ _ _ H _ I h => Calls.Constant_str ⟨.str x, H, I.tok _, ⟨_, rfl⟩, h⟩
def Gl (X : Cx) (x : Str) : Prop := X.env.kindOf x = some .globalImplicit
theorem ld_glob {E : Value → Shared → Prop} {pins : List (Addr × Obj)} {s : Shared} {σ : St} {H : Hp} {x : Str} {u : Value} {pos : Pos} {Q : Value → Shared → Prop} (I : Inv X pins σ H s) (hg : Gl X x) (hm : X.mg x = some u) (h : Q u s)
    (hd : (x == ("__debug__" : Str)) = false := by decide) : wpAny (model X.prog X.w) X.A (eval (.Name x pos) X.env) Q E s :=
  Calls.Name_function_global I.ok.kind hg (Calls.loadGlobal_global (by rw [I.ok.glob]; exact I.mod.glob.keeps I.bk) hm h) hd
theorem ld_blt {E : Value → Shared → Prop} {pins : List (Addr × Obj)} {s : Shared} {σ : St} {H : Hp} {x : Str} {u : Value} {pos : Pos} {Q : Value → Shared → Prop} (I : Inv X pins σ H s) (hg : Gl X x) (hm : X.mg x = none) (hv : bootBuiltins x = some u) (h : Q u s)
    (hn : x ≠ "__name__" := by decide) (hd : (x == ("__debug__" : Str)) = false := by decide) : wpAny (model X.prog X.w) X.A (eval (.Name x pos) X.env) Q E s := by
  obtain ⟨mb, h1, h2⟩ := I.mod.blt
  exact Calls.Name_function_global I.ok.kind hg (Calls.loadGlobal_builtin (by rw [I.ok.glob]; exact I.mod.glob.keeps I.bk) hm (by rw [I.ok.blt]; exact h1.keeps I.bk) ((h2 x hn).trans hv) h) hd
def t2I (ta tb : TE) (k : Int → Int → Hp → Prop) : St → Hp → Prop := fun σ H => ta σ H fun x H1 => tb σ H1 fun y H2 => ∃ i j, x = .int i ∧ y = .int j ∧ k i j H2
def tAdd (ta tb : TE) : TE := fun σ H Q => t2I ta tb (fun i j H2 => Q (.int (i + j)) H2) σ H
def tSub (ta tb : TE) : TE := fun σ H Q => t2I ta tb (fun i j H2 => Q (.int (i - j)) H2) σ H
def tMul (ta tb : TE) : TE := fun σ H Q => t2I ta tb (fun i j H2 => (-(2 ^ 64) < i ∧ i < 2 ^ 64) ∧ Q (.int (i * j)) H2) σ H
variable {a b : Expr} {ta tb : TE} {pos : Pos}
def PC (X : Cx) (op : CmpOp) (a b : Expr) (t : TE) : Prop :=
  ∀ (pins : List (Addr × Obj)) (s : Shared) (σ : St) (H : Hp) (Q : VK), Inv X pins σ H s → t σ H Q →
    wpAny (model X.prog X.w) X.A (eval a X.env) (fun v s₁ => wpAny (model X.prog X.w) X.A (eval b X.env) (fun u s₂ => wpAny (model X.prog X.w) X.A (compareOp op v u) (EP X pins σ Q) X.xe s₂) X.xe s₁) X.xe s
theorem nobehind (b : Expr) {op : CmpOp} (h : op ≠ .In) (h2 : op ≠ .NotIn) : behindInMarks op b = false := by
  have e1 : (op == CmpOp.In) = false := by cases op <;> first | rfl | exact absurd rfl h
  have e2 : (op == CmpOp.NotIn) = false := by cases op <;> first | rfl | exact absurd rfl h2
  cases b <;> simp [behindInMarks, e1, e2]
def tCmp (p : Int → Int → Bool) (ta tb : TE) : TE := fun σ H Q => t2I ta tb (fun i j H2 => Q (.bl (p i j)) H2) σ H
abbrev tLt : TE → TE → TE := tCmp fun i j => decide (i < j)
abbrev tLe : TE → TE → TE := tCmp fun i j => decide (i ≤ j)
abbrev tGt : TE → TE → TE := tCmp fun i j => decide (j < i)
abbrev tGe : TE → TE → TE := tCmp fun i j => decide (j ≤ i)
abbrev tEqI : TE → TE → TE := tCmp fun i j => decide (i = j)
abbrev tNeI : TE → TE → TE := tCmp fun i j => !decide (i = j)
def tIsN (ta : TE) : TE := fun σ H Q => ta σ H fun x H1 => Q (.bl (decide (x = .non))) H1
def tNotN (ta : TE) : TE := fun σ H Q => ta σ H fun x H1 => Q (.bl (!decide (x = .non))) H1
def tB (t : TE) : TT := fun σ H Q => t σ H fun x H1 => ∃ c, x = .bl c ∧ Q c H1
theorem pt_cmp {op : CmpOp} {t : TE} (h : PC X op a b t) (h1 : behindInMarks op b = false := by first | exact nobehind _ (by decide) (by decide) | rfl) : PT X (.Compare a [op] [b] pos) (tB t) := by
  intro pins s σ H Q I hw
  refine wpAny_isTrue_Compare1 (thn (h pins s σ H _ I hw) fun v s1 h1 => thn h1 fun u s2 h2 => thn h2 fun c s3 ⟨x, H1, I1, r1, q1⟩ => ?_) h1
  obtain ⟨d, rfl, q⟩ := q1
  cases r1
  exact wpAny_truthy_bool ⟨H1, I1, q⟩
variable {tA tB' : TT} {rest : List Expr}
def tAnd (t u : TT) : TT := fun σ H Q => t σ H fun c H1 => if c = true then u σ H1 Q else Q false H1
def tOr (t u : TT) : TT := fun σ H Q => t σ H fun c H1 => if c = true then Q true H1 else u σ H1 Q
def tNot (t : TT) : TT := fun σ H Q => t σ H fun c H1 => Q (!c) H1
theorem pw_and1 (ha : PT X a tA) : PW X (.BoolOp .And [a] pos) tA := by
  intro wh pins s σ H Q I h
  refine isTrue_and (thn (ha pins s σ H Q I h) fun c s1 e => ?_)
  cases c with
  | true => exact isTrue_and_nil e
  | false => exact e
theorem pw_and (ha : PT X a tA) (hb : PW X (.BoolOp .And (b :: rest) pos) tB') : PW X (.BoolOp .And (a :: b :: rest) pos) (tAnd tA tB') := by
  intro wh pins s σ H Q I h
  refine isTrue_and (thn (ha pins s σ H _ I h) fun c s1 ⟨H1, I1, q1⟩ => ?_)
  cases c with
  | true => exact hb wh pins s1 σ H1 Q I1 q1
  | false => exact ⟨H1, I1, q1⟩
def tAndV (ta tb : TE) : TE := fun σ H Q => ta σ H fun x H1 => ∃ c, x = .bl c ∧ if c = true then tb σ H1 Q else Q (.bl false) H1
def tOrV (ta tb : TE) : TE := fun σ H Q => ta σ H fun x H1 => ∃ c, x = .bl c ∧ if c = true then Q (.bl true) H1 else tb σ H1 Q
def tNotV (ta : TE) : TE := fun σ H Q => ta σ H fun x H1 => ∃ c, x = .bl c ∧ Q (.bl (!c)) H1
def tIf (t : TT) (ta tb : TE) : TE := fun σ H Q => t σ H fun c H1 => if c = true then ta σ H1 Q else tb σ H1 Q
end
end L2
namespace L2
open PySem PySem.Spec PyProof.Rows
def SqL (K : PySem.W.Frag) (H : Hp) (a : Addr) (xs : List V) : Prop :=
  Rd H a (.lst xs) ∨
    ∃ (o : Obj) (its : Array Value) (n : Nat), K.lookup a = some o ∧ o.cls = .type "list" ∧ o.dict = none ∧ o.data = .seq its n ∧ its.size ≤ sizeLine ∧ Vals xs its.toList
def SqT (K : PySem.W.Frag) (H : Hp) (a : Addr) (xs : List V) : Prop :=
  Rd H a (.tup xs) ∨
    ∃ (o : Obj) (its : Array Value) (n : Nat), K.lookup a = some o ∧ o.cls = .type "tuple" ∧ o.data = .seq its n ∧ its.size ≤ sizeLine ∧ Vals xs its.toList
def absV : Value → Option V
  | .none => some .non
  | .bool b => some (.bl b)
  | .int i _ => some (.int i)
  | .str x _ => some (.str x)
  | .bytes b _ => some (.byt b)
  | .float b _ => some (.flt b)
  | .ref a => some (.ref a)
  | .type n => some (.ty n)
  | _ => none
theorem RelV.abs {x : V} {u : Value} (r : RelV x u) : absV u = some x := by
  cases x with
  | non => cases r; rfl
  | bl _ => cases r; rfl
  | int _ => obtain ⟨t, rfl⟩ := r; rfl
  | str _ => obtain ⟨t, rfl⟩ := r; rfl
  | byt _ => obtain ⟨t, rfl⟩ := r; rfl
  | flt _ => obtain ⟨t, rfl⟩ := r; rfl
  | ref _ => cases r; rfl
  | ty _ => cases r; rfl
theorem RelV.inj {x y : V} {u : Value} (r : RelV x u) (q : RelV y u) : x = y := Option.some.inj (r.abs.symm.trans q.abs)
theorem Vals.inj : ∀ {xs ys : List V} {us : List Value}, Vals xs us → Vals ys us → xs = ys
  | _, _, _, .nil, .nil => rfl
  | _, _, _, .cons r t, .cons r' t' => by rw [r.inj r', Vals.inj t t']
section
variable {X : Cx} {pins : List (Addr × Obj)} {σ : St} {H : Hp} {s : Shared} {a : Addr} {xs ys : List V}
theorem SqL.of {K : PySem.W.Frag} (h : H a = some (.lst xs)) : SqL K H a xs := .inl (.inl h)
theorem SqT.of {K : PySem.W.Frag} (h : H a = some (.tup xs)) : SqT K H a xs := .inl (.inl h)
theorem Inv.list (I : Inv X pins σ H s) (h : SqL X.K H a xs) : ∃ its : List Value, Vals xs its ∧ PlainL s.heap a its.toArray ∧ xs.length ≤ sizeLine := by
  rcases h with h | ⟨o, its, n, hk, hc, hd, hs, hz, r⟩
  · obtain ⟨z, its, n, r, e⟩ := h.ok I.hok
    exact ⟨its, r, ⟨_, n, e, rfl, rfl, rfl⟩, z⟩
  · refine ⟨its.toList, r, ⟨o, n, I.kIn a o hk, hc, hd, by simpa using hs⟩, ?_⟩
    have e := r.length
    simp only [Array.length_toList] at e
    omega
theorem Inv.tuple (I : Inv X pins σ H s) (h : SqT X.K H a xs) : ∃ its : List Value, Vals xs its ∧ IsTup s.heap a its.toArray ∧ xs.length ≤ sizeLine := by
  rcases h with h | ⟨o, its, n, hk, hc, hs, hz, r⟩
  · obtain ⟨z, its, r, p⟩ := h.ok I.hok
    exact ⟨its, r, p, z⟩
  · refine ⟨its.toList, r, ⟨o, I.kIn a o hk, hc, n, by simpa using hs⟩, ?_⟩
    have e := r.length
    simp only [Array.length_toList] at e
    omega
theorem Inv.list_inj (I : Inv X pins σ H s) (h : SqL X.K H a xs) (h' : SqL X.K H a ys) : xs = ys := by
  obtain ⟨its, r, ⟨o, n, e, _, _, d⟩, _⟩ := I.list h
  obtain ⟨its', r', ⟨o', n', e', _, _, d'⟩, _⟩ := I.list h'
  rw [e] at e'; cases e'
  rw [d] at d'
  injection d' with d1 _
  have : its = its' := by simpa using congrArg Array.toList d1
  subst this
  exact r.inj r'
theorem Inv.tuple_inj (I : Inv X pins σ H s) (h : SqT X.K H a xs) (h' : SqT X.K H a ys) : xs = ys := by
  obtain ⟨its, r, ⟨o, e, _, n, d⟩, _⟩ := I.tuple h
  obtain ⟨its', r', ⟨o', e', _, n', d'⟩, _⟩ := I.tuple h'
  rw [e] at e'; cases e'
  rw [d] at d'
  injection d' with d1 _
  have : its = its' := by simpa using congrArg Array.toList d1
  subst this
  exact r.inj r'
end
abbrev Cx.wish (X : Cx) (E : Value → Shared → Prop) : Cx := { X with xe := E }
abbrev Cx.nox (X : Cx) : Cx := X.wish fun _ _ => False
theorem Cx.Ok.wish {X : Cx} (ok : X.Ok) (E : Value → Shared → Prop) : (X.wish E).Ok :=
  ⟨ok.mod, ok.kind, ok.glob, ok.blt, ok.above, ok.inj, ok.has, ok.cab, ok.hd, ok.frames, ok.stk, ok.exf, ok.bs, ok.bsz, ok.noex, ok.exfs, ok.funs, ok.frf⟩
theorem Cx.Ok.unwish {X : Cx} {E : Value → Shared → Prop} (ok : (X.wish E).Ok) : X.Ok :=
  ⟨ok.mod, ok.kind, ok.glob, ok.blt, ok.above, ok.inj, ok.has, ok.cab, ok.hd, ok.frames, ok.stk, ok.exf, ok.bs, ok.bsz, ok.noex, ok.exfs, ok.funs, ok.frf⟩
section
variable {X : Cx} {pins : List (Addr × Obj)} {σ : St} {H : Hp} {s : Shared} {E : Value → Shared → Prop}
theorem Inv.wish (I : Inv X pins σ H s) (E : Value → Shared → Prop) : Inv (X.wish E) pins σ H s := ⟨I.ok.wish E, I.os, I.bare, I.base, I.loc, I.cell, I.free, I.freeC, I.pin, I.hok, I.len⟩
theorem Inv.unwish (I : Inv (X.wish E) pins σ H s) : Inv X pins σ H s := ⟨I.ok.unwish, I.os, I.bare, I.base, I.loc, I.cell, I.free, I.freeC, I.pin, I.hok, I.len⟩
theorem SP.unwish {D : Ends} {f : Flow} {s' : Shared} (h : SP (X.wish E) pins D f s') : SP X pins D f s' := by
  cases f with
  | next => obtain ⟨σ', H', I, q⟩ := h; exact ⟨σ', H', I.unwish, q⟩
  | brk => obtain ⟨σ', H', I, q⟩ := h; exact ⟨σ', H', I.unwish, q⟩
  | cont => obtain ⟨σ', H', I, q⟩ := h; exact ⟨σ', H', I.unwish, q⟩
  | ret u => obtain ⟨v, σ', H', I, r, q⟩ := h; exact ⟨v, σ', H', I.unwish, r, q⟩
theorem PE.nox {e : Expr} {t : TE} (h : PE X.nox e t) : PE X e t := fun pins s σ H Q I hw =>
  wpAny_mono (h pins s σ H Q (I.wish _) hw) (fun _ _ ⟨v, H', I', r, q⟩ => ⟨v, H', I'.unwish, r, q⟩) fun _ _ z => False.elim z
theorem PT.nox {e : Expr} {t : TT} (h : PT X.nox e t) : PT X e t := fun pins s σ H Q I hw =>
  wpAny_mono (h pins s σ H Q (I.wish _) hw) (fun _ _ ⟨H', I', q⟩ => ⟨H', I'.unwish, q⟩) fun _ _ z => False.elim z
theorem PSs.nox {st : List Stmt} {t : TS} (h : PSs X.nox st t) : PSs X st t := fun pins s σ H D I hw =>
  wpAny_mono (h pins s σ H D (I.wish _) hw) (fun _ _ q => q.unwish) fun _ _ z => False.elim z
end
section
variable {X : Cx} {st : Stmt} {rest : List Stmt} {t u : TS} {e : Expr} {te : TE} {pos : Pos}
def tNext : TS := fun D σ H => D.nx σ H
def tSeq (t u : TS) : TS := fun D σ H => t { D with nx := u D } σ H
theorem pss_nil : PSs X [] tNext := fun _ _ σ H _ I h => wpAny_execs_nil ⟨σ, H, I, h⟩
theorem pss_cons (h1 : PS X st t) (h2 : PSs X rest u) : PSs X (st :: rest) (tSeq t u) := by
  intro pins s σ H D I h
  refine wpAny_execs_cons (thn (h1 pins s σ H { D with nx := u D } I h) fun f s1 q => ?_)
  cases f with
  | next =>
    obtain ⟨σ', H', I', q⟩ := q
    exact h2 pins s1 σ' H' D I' q
  | ret v => exact q
  | brk => exact q
  | cont => exact q
def tBreak : TS := fun D σ H => D.bk σ H
def tCont : TS := fun D σ H => D.ct σ H
theorem Inv.quiet {pins : List (Addr × Obj)} {σ : St} {H : Hp} {s : Shared} (I : Inv X pins σ H s) : interactive X.env = false := by simp [interactive, I.ok.kind]
def tDrop (te : TE) : TS := fun D σ H => te σ H fun _ H1 => D.nx σ H1
theorem ps_expr (he : PE X e te) (hs : swapsWith e none pos.line X.env = pure false := by rfl) : PS X (.Expr e pos) (tDrop te) := by
  intro pins s σ H D I h
  exact wpAny_Expr_any (thn (he pins s σ H _ I h) fun v s1 ⟨x, H1, I1, r1, q1⟩ => ⟨σ, H1, I1, q1⟩) I.quiet hs
def tRet (te : TE) : TS := fun D σ H => te σ H D.rt
theorem ps_ret (he : PE X e te) : PS X (.Return (some e) pos) (tRet te) := by
  intro pins s σ H D I h
  exact wpAny_Return_some (thn (he pins s σ H _ I h) fun v s1 ⟨x, H1, I1, r1, q1⟩ => ⟨x, σ, H1, I1, r1, q1⟩)
def tRetN : TS := fun D _ H => D.rt .non H
def tIfS (c : TT) (t u : TS) : TS := fun D σ H => c σ H fun b H1 => if b = true then t D σ H1 else u D σ H1
theorem ps_if {c : Expr} {a b : List Stmt} {tc : TT} (hc : PT X c tc) (ha : PSs X a t) (hb : PSs X b u) : PS X (.If c a b pos) (tIfS tc t u) := by
  intro pins s σ H D I h
  refine wpAny_If (thn (hc pins s σ H _ I h) fun d s1 ⟨H1, I1, q1⟩ => ?_)
  cases d with
  | true => exact ha pins s1 σ H1 D I1 q1
  | false => exact hb pins s1 σ H1 D I1 q1
def tNever : TS := fun _ _ _ => False
end
abbrev TG := V → St → Hp → (St → Hp → Prop) → Prop
abbrev TGs := List V → St → Hp → (St → Hp → Prop) → Prop
def PG (X : Cx) (target : Expr) (t : TG) : Prop :=
  ∀ (pins : List (Addr × Obj)) (s : Shared) (σ : St) (H : Hp) (v : V) (u : Value) (Q : St → Hp → Prop), Inv X pins σ H s → RelV v u → t v σ H Q →
    wpAny (model X.prog X.w) X.A (assign target X.env u) (fun _ s' => ∃ σ' H', Inv X pins σ' H' s' ∧ Q σ' H') X.xe s
def PGs (X : Cx) (ts : List Expr) (t : TGs) : Prop :=
  ∀ (pins : List (Addr × Obj)) (s : Shared) (σ : St) (H : Hp) (vs : List V) (us : List Value) (Q : St → Hp → Prop), Inv X pins σ H s → Vals vs us → t vs σ H Q →
    wpAny (model X.prog X.w) X.A (assignInOrder ((assignEach ts X.env).map (·.2)) us) (fun _ s' => ∃ σ' H', Inv X pins σ' H' s' ∧ Q σ' H') X.xe s
abbrev TSet := V → V → V → Hp → (Hp → Prop) → Prop
def PSet (X : Cx) (t : TSet) : Prop :=
  ∀ (pins : List (Addr × Obj)) (s : Shared) (σ : St) (H : Hp) (o i v : V) (ov iv u : Value) (Q : Hp → Prop), Inv X pins σ H s → RelV o ov → RelV i iv → RelV v u → t o i v H Q →
    wpAny (model X.prog X.w) X.A (setItem ov iv u) (fun _ s' => ∃ H', Inv X pins σ H' s' ∧ Q H') X.xe s
abbrev TIp := V → V → Hp → VK → Prop
def PIp (X : Cx) (op : Operator) (t : TIp) : Prop :=
  ∀ (pins : List (Addr × Obj)) (s : Shared) (σ : St) (H : Hp) (x y : V) (v u : Value) (Q : VK), Inv X pins σ H s → RelV x v → RelV y u → t x y H Q →
    wpAny (model X.prog X.w) X.A (inplaceOp op v u) (EP X pins σ Q) X.xe s
section
variable {X : Cx} {pos : Pos}
def gName (i : Nat) : TG := fun v σ H Q => Q (σ.set i (some v)) H
theorem pg_name {i : Nat} {x : Str} (hN : X.N.Nodup) (hi : X.N[i]? = some x) (hx : Loc X.env.scope x) (hf : X.fn x = true ∨ X.env.scope.names.lookup x = some .local := by first | exact .inl rfl | exact .inr rfl | assumption) : PG X (.Name x pos) (gName i) := by
  intro pins s σ H v u Q I r h
  exact wpAny_assign_Name (store_ok I hN hi hx r (fun s' I' => ⟨_, H, I', h⟩) hf)
def gNil : TGs := fun vs σ H Q => vs = [] ∧ Q σ H
def gCons (t : TG) (u : TGs) : TGs := fun vs σ H Q => ∃ v r, vs = v :: r ∧ t v σ H fun σ' H' => u r σ' H' Q
theorem pgs_nil : PGs X [] gNil := by
  intro pins s σ H vs us Q I r h
  obtain ⟨e, h⟩ := h
  subst e
  cases r
  exact assignInOrder_nil ⟨σ, H, I, h⟩
theorem pgs_cons {e : Expr} {es : List Expr} {t : TG} {u : TGs} (h1 : PG X e t) (h2 : PGs X es u)
    (hs : (assignEach (e :: es) X.env).map (·.2) = assign e X.env :: (assignEach es X.env).map (·.2) := by rfl) : PGs X (e :: es) (gCons t u) := by
  intro pins s σ H vs us Q I r h
  obtain ⟨v, vr, e1, h⟩ := h
  subst e1
  cases r with
  | cons r rr =>
    rw [hs]
    refine assignInOrder_cons (thn (h1 pins s σ H _ _ _ I r h) fun _ s1 ⟨σ1, H1, I1, q1⟩ => ?_)
    exact h2 pins s1 σ1 H1 _ _ Q I1 rr q1
def gTup (K : PySem.W.Frag) (n : Nat) (t : TGs) : TG := fun v σ H Q => ∃ a xs, v = .ref a ∧ SqT K H a xs ∧ xs.length = n ∧ t xs σ H Q
theorem pg_tup {es : List Expr} {k : Nat} {t : TGs} {n : Nat} (hc : X.calm = true) (h : PGs X es t)
    (hn : (assignEach es X.env).length = n := by rfl) (hst : (assignEach es X.env).findIdx? (·.1) = none := by rfl) : PG X (.Tuple es k pos) (gTup X.K n t) := by
  intro pins s σ H v u Q I r hw
  obtain ⟨a, xs, e1, hq, hl, hw⟩ := hw
  subst e1
  cases r
  obtain ⟨its, rv, ht, hz⟩ := I.tuple hq
  refine assign_Tuple_tuple (I.ok.hd hc) ht (by simp [hn, ← hl, rv.length]) hst fun h' hx => ?_
  have I1 : Inv X pins σ H { s with heap := h' } := I.kept (t' := s.toks) fun b o e => hx b o (Nat.ne_of_lt (Heap.lt_size e)) e
  exact h pins _ σ H xs _ Q I1 (by simpa using rv) hw
def gSub (to ti : TE) (t : TSet) : TG := fun v σ H Q => to σ H fun o H1 => ti σ H1 fun i H2 => t o i v H2 fun H3 => Q σ H3
def tAsg (te : TE) (g : TG) : TS := fun D σ H => te σ H fun x H1 => g x σ H1 D.nx
theorem ps_asg {tg e : Expr} {te : TE} {g : TG} (he : PE X e te) (hg : PG X tg g) (hs : swapsWithSole [tg] e pos.line X.env = pure false := by rfl) (hw : swappedStores [tg] e X.env = pure none := by rfl)
    (h1 : (assignEach [tg] X.env).map (·.2) = [assign tg X.env] := by rfl) : PS X (.Assign [tg] e pos) (tAsg te g) := by
  intro pins s σ H D I h
  refine wpAny_Assign_stores (thn (he pins s σ H _ I h) fun v s1 ⟨x, H1, I1, r1, q1⟩ => ?_) hs hw
  rw [h1]
  exact thn (hg pins s1 σ H1 x v _ I1 r1 q1) fun _ s2 q => q
theorem ps_set {i : Nat} {x : Str} {e : Expr} {te : TE} {pos' : Pos} (hN : X.N.Nodup) (hi : X.N[i]? = some x) (hx : Loc X.env.scope x) (he : PE X e te) (hs : swapsWith e (some (.Name x pos')) pos.line X.env = pure false := by rfl) (hf : X.fn x = true ∨ X.env.scope.names.lookup x = some .local := by first | exact .inl rfl | exact .inr rfl | assumption) :
    PS X (.Assign [.Name x pos'] e pos) (tAsg te (gName i)) := by
  intro pins s σ H D I h
  refine wpAny_Assign_Name (thn (he pins s σ H _ I h) fun v s1 ⟨y, H1, I1, r1, q1⟩ => ?_) hs
  exact store_ok I1 hN hi hx r1 (fun s2 I2 => ⟨_, H1, I2, q1⟩) hf
def tPar (i j : Nat) (ta : TA) : TS := fun D σ H => ta σ H fun vs H1 => ∃ v w, vs = [v, w] ∧ D.nx ((σ.set i (some v)).set j (some w)) H1
def tAug (i : Nat) (te : TE) (ti : TIp) : TS := fun D σ H => ∃ x, σ[i]? = some (some x) ∧ te σ H fun y H1 => ti x y H1 fun z H2 => D.nx (σ.set i (some z)) H2
def tAugS (to ti te : TE) (tget : V → V → Hp → VK → Prop) (tip : TIp) (tset : TSet) : TS := fun D σ H => to σ H fun o H1 => ti σ H1 fun i H2 => tget o i H2 fun x H3 => te σ H3 fun y H4 => tip x y H4 fun z H5 => tset o i z H5 fun H6 => D.nx σ H6
def PGet (X : Cx) (t : V → V → Hp → VK → Prop) : Prop :=
  ∀ (pins : List (Addr × Obj)) (s : Shared) (σ : St) (H : Hp) (o i : V) (ov iv : Value) (Q : VK), Inv X pins σ H s → RelV o ov → RelV i iv → t o i H Q →
    wpAny (model X.prog X.w) X.A (getItem ov iv) (EP X pins σ Q) X.xe s
def ipI (f : Int → Int → Int) : TIp := fun x y H Q => ∃ i j, x = .int i ∧ y = .int j ∧ Q (.int (f i j)) H
end
section
variable {X : Cx} {pos : Pos}
def tWhile (c : TT) (tb : TS) : TS := fun D σ H => ∃ W : Nat → St → Hp → Prop, (∃ m, W m σ H) ∧ ∀ m σ H, W m σ H →
  c σ H fun b H1 => if b = true then ∃ N : St → Hp → Prop, (∀ σ' H', N σ' H' → ∃ m', m' < m ∧ W m' σ' H') ∧ tb { D with nx := N, ct := N, bk := D.nx } σ H1 else D.nx σ H1
theorem ps_while {c : Expr} {body : List Stmt} {tc : TT} {tb : TS} (hp : PassesOwn (model X.prog X.w) X.A X.env X.xe) (hc : PT X c tc) (hb : PSs X body tb) : PS X (.While c body [] pos) (tWhile tc tb) := by
  intro pins s σ H D I h
  obtain ⟨W, ⟨m0, w0⟩, turn⟩ := h
  refine wpAny_While (codeAny_whileLoop (fun n s' => ∃ σ' H', Inv X pins σ' H' s' ∧ W n σ' H') ?_ m0 ⟨σ, H, I, w0⟩)
  rintro n s1 ⟨σ1, H1, I1, w1⟩
  refine wpAny_passesOwn hp (thn (hc pins s1 σ1 H1 _ I1 (turn n σ1 H1 w1)) fun b s2 ⟨H2, I2, q2⟩ => ?_)
  cases b with
  | true =>
    obtain ⟨N, hN, q2⟩ := q2
    rw [if_pos rfl]
    refine wpAny_passesOwn hp (thn (hb pins s2 σ1 H2 _ I2 q2) fun f s3 q3 => ?_)
    cases f with
    | next =>
      obtain ⟨σ3, H3, I3, n3⟩ := q3
      obtain ⟨m', hm, w3⟩ := hN σ3 H3 n3
      exact ⟨m', hm, σ3, H3, I3, w3⟩
    | cont =>
      obtain ⟨σ3, H3, I3, n3⟩ := q3
      obtain ⟨m', hm, w3⟩ := hN σ3 H3 n3
      exact ⟨m', hm, σ3, H3, I3, w3⟩
    | brk => exact q3
    | ret v => exact q3
  | false =>
    rw [if_neg Bool.false_ne_true]
    exact wpAny_execs_nil ⟨σ1, H2, I2, q2⟩
end
structure It where
  go : Nat → Hp → Prop
  yld : Nat → Hp → V → Hp → Prop
  stop : Nat → Hp → Prop
def FpOk (X : Cx) (pins : List (Addr × Obj)) (H : Hp) (b : Addr) : Prop :=
  H b = none ∧ b ≠ X.env.locals ∧ b ∉ X.fs ∧ (b ∈ X.ex ∨ X.s₀.heap.objs.size ≤ b) ∧ (∀ x c, X.env.cells.lookup x = some c → c ≠ b) ∧ ∀ p ∈ X.pn ++ pins, p.1 ≠ b
theorem Inv.fpOk {X : Cx} {pins : List (Addr × Obj)} {σ : St} {H H' : Hp} {s : Shared} {b : Addr} (I : Inv X pins σ H s) (hb : s.heap.objs.size ≤ b) (hn : H' b = none) : FpOk X pins H' b := by
  refine ⟨hn, Nat.ne_of_gt (Nat.lt_of_lt_of_le I.lt hb), I.nofs hb, .inr (Nat.le_trans I.sz hb), fun x c e z => ?_, fun p hp z => ?_⟩
  · obtain ⟨v, q⟩ := I.cell x c e
    exact absurd (Nat.lt_of_lt_of_le q.lt (by rw [z]; exact hb)) (Nat.lt_irrefl _)
  · exact absurd (Nat.lt_of_lt_of_le (Heap.lt_size (I.pin p hp).1) (by rw [z]; exact hb)) (Nat.lt_irrefl _)
structure Turn (P : Program) (w : World) (K : PySem.W.Frag) (tg : Expr) (J : It) (fp : List Addr) (it : Addr) (tn : Nat → Heap → Prop) : Prop where
  mem : it ∈ fp
  obj : ∀ i h, tn i h → ∀ b ∈ fp, ∃ o, h.get? b = some o ∧ ∀ v, o.data ≠ .cell v
  keep : ∀ i h h', tn i h → (∀ b ∈ fp, ∀ o, h.get? b = some o → h'.get? b = some o) → tn i h'
  item : ∀ (X : Cx), X.prog = P → X.w = w → X.K = K → X.calm = true → ∀ (i : Nat) (pins : List (Addr × Obj)) (s : Shared) (σ : St) (H : Hp) (E : Value → Shared → Prop), Inv X pins σ H s → (∀ b ∈ fp, FpOk X pins H b) → tn i s.heap → J.go i H →
    wpAny (model P w) X.A (pyNext (.ref it)) (fun r s1 => ∃ u, r = some u ∧
      wpAny (model P w) X.A (letOwnedTupleGo tg (.ref it) u) (fun _ s2 => ∃ x H', Inv X pins σ H' s2 ∧ RelV x u ∧ J.yld i H x H' ∧ tn (i + 1) s2.heap ∧ ∀ b ∈ fp, H' b = none) E s1) E s
  done : ∀ (X : Cx), X.prog = P → X.w = w → X.K = K → X.calm = true → ∀ (i : Nat) (pins : List (Addr × Obj)) (s : Shared) (σ : St) (H : Hp) (E : Value → Shared → Prop), Inv X pins σ H s → (∀ b ∈ fp, FpOk X pins H b) → tn i s.heap → J.stop i H →
    wpAny (model P w) X.A (pyNext (.ref it)) (fun r s1 => r = none ∧ Inv X pins σ H s1) E s
  self : ∀ (A : Around) (i : Nat) (s : Shared) (Q : Value → Shared → Prop) (E : Value → Shared → Prop), tn i s.heap → Q (.ref it) s → wpAny (model P w) A (pyIter (.ref it)) Q E s
abbrev TI := St → Hp → (It → Hp → Prop) → Prop
def PIE (X : Cx) (pins : List (Addr × Obj)) (σ : St) (tg : Expr) (R : It → Hp → Prop) (itv : Value) (s2 : Shared) : Prop :=
  ∃ (it : Addr) (fp : List Addr) (tn : Nat → Heap → Prop) (J : It) (H' : Hp), itv = .ref it ∧ Inv X pins σ H' s2 ∧ Turn X.prog X.w X.K tg J fp it tn ∧ tn 0 s2.heap ∧ (∀ b ∈ fp, FpOk X pins H' b) ∧ R J H'
def PI (X : Cx) (tg iter : Expr) (wi : TI) : Prop :=
  ∀ (pins : List (Addr × Obj)) (s : Shared) (σ : St) (H : Hp) (R : It → Hp → Prop), Inv X pins σ H s → wi σ H R →
    wpAny (model X.prog X.w) X.A (eval iter X.env) (fun v s1 => wpAny (model X.prog X.w) X.A (pyIter v) (PIE X pins σ tg R) X.xe s1) X.xe s
theorem go_of {M : Model} {A : Around} {E : Value → Shared → Prop} {s : Shared} {tg : Expr} {it : Addr} {u : Value} {o : Obj} {n : String} {vs : Array Value} {Q : Unit → Shared → Prop} (ho : s.heap.get? it = some o) (hc : o.cls = .type n) (hd : o.data = .fields vs)
    (hn : ["enumerate", "zip", "dict_itemiterator", "dict_reverseitemiterator", "odict_iterator", "itertools.zip_longest", "itertools.pairwise"].contains n = false) (hQ : Q () s) : wpAny M A (letOwnedTupleGo tg (.ref it) u) Q E s := by
  unfold letOwnedTupleGo
  cases tg <;> first
    | exact wpAny_pure hQ
    | (cases u <;> first
        | exact wpAny_pure hQ
        | (refine wpAny_bind (wpAny_load ho ?_)
           rw [hc, hd]
           show wpAny M A (if (["enumerate", "zip", "dict_itemiterator", "dict_reverseitemiterator", "odict_iterator", "itertools.zip_longest", "itertools.pairwise"].contains n && vs[0]? == some (rawInt _)) = true then _ else _) Q E s
           rw [if_neg (by intro h; rw [hn, Bool.false_and] at h; cases h)]
           exact wpAny_pure hQ))
def Itl (K : PySem.W.Frag) (a : Addr) : It :=
  ⟨fun i H => ∃ xs x, SqL K H a xs ∧ xs[i]? = some x, fun i H x H' => H' = H ∧ ∀ xs, SqL K H a xs → xs[i]? = some x, fun i H => ∃ xs, SqL K H a xs ∧ xs.length ≤ i⟩
def Itt (K : PySem.W.Frag) (a : Addr) : It :=
  ⟨fun i H => ∃ xs x, SqT K H a xs ∧ xs[i]? = some x, fun i H x H' => H' = H ∧ ∀ xs, SqT K H a xs → xs[i]? = some x, fun i H => ∃ xs, SqT K H a xs ∧ xs.length ≤ i⟩
def Itr (lo : Int) (n : Nat) : It := ⟨fun i _ => i < n, fun i H x H' => H' = H ∧ x = .int (lo + i), fun i _ => n ≤ i⟩
theorem turn_list {P : Program} {w : World} {K : PySem.W.Frag} {tg : Expr} (a it : Addr) : Turn P w K tg (Itl K a) [it] it (fun i h => h.IsListIter it a i) where
  mem := by simp
  obj := fun i h st b hb => by
    have e : b = it := by simpa using hb
    subst e
    obtain ⟨o, e, c, d⟩ := st
    exact ⟨o, e, fun v z => by rw [d] at z; cases z⟩
  keep := fun i h h' st k => st.at fun o e => k it (by simp) o e
  item := by
    intro X hP hw hK hc i pins s σ H E I hf st hg
    subst hP hw hK
    obtain ⟨xs, x, hq, hx⟩ := hg
    obtain ⟨its, rv, p, hz⟩ := I.list hq
    obtain ⟨u, hu, ru⟩ := rv.get hx
    obtain ⟨f0, f1, f2, f3, f4, f5⟩ := hf it (by simp)
    refine wpAny_pyNext_list_item st p.isList (x := u) (by simpa using hu) fun h' st' sb => ?_
    have I1 : Inv X pins σ H { s with heap := h' } := I.turned (t' := s.toks) (fun b o hb e => (sb.2 b hb).trans e) f0 f1 f3 f4 f5
    obtain ⟨o, e, c, d⟩ := id st'
    exact ⟨u, rfl, go_of (s := { s with heap := h' }) e c d (by decide) ⟨x, H, I1, ru, ⟨rfl, fun ys hy => by rw [I.list_inj hy hq]; exact hx⟩, st', fun b hb => (hf b hb).1⟩⟩
  done := by
    intro X hP hw hK hc i pins s σ H E I hf st hg
    subst hP hw hK
    obtain ⟨xs, hq, hx⟩ := hg
    obtain ⟨its, rv, p, hz⟩ := I.list hq
    obtain ⟨f0, f1, f2, f3, f4, f5⟩ := hf it (by simp)
    have hl := rv.length
    exact wpAny_pyNext_list_end (I.ok.hd hc) st p.isList (by simp; omega) fun h' eb => ⟨rfl, I.turned (t' := s.toks) (fun b o hb e => eb b o hb e) f0 f1 f3 f4 f5⟩
  self := fun _ _ _ _ _ st h => wpAny_pyIter_listiter st h
theorem turn_tuple {P : Program} {w : World} {K : PySem.W.Frag} {tg : Expr} (a it : Addr) : Turn P w K tg (Itt K a) [it] it (fun i h => h.IsTupleIter it a i) where
  mem := by simp
  obj := fun i h st b hb => by
    have e : b = it := by simpa using hb
    subst e
    obtain ⟨o, e, c, d⟩ := st
    exact ⟨o, e, fun v z => by rw [d] at z; cases z⟩
  keep := fun i h h' st k => st.at fun o e => k it (by simp) o e
  item := by
    intro X hP hw hK hc i pins s σ H E I hf st hg
    subst hP hw hK
    obtain ⟨xs, x, hq, hx⟩ := hg
    obtain ⟨its, rv, p, hz⟩ := I.tuple hq
    obtain ⟨u, hu, ru⟩ := rv.get hx
    obtain ⟨f0, f1, f2, f3, f4, f5⟩ := hf it (by simp)
    refine wpAny_pyNext_tuple_item st (show s.heap.IsTuple a its.toArray from p) (x := u) (by simpa using hu) fun h' st' sb => ?_
    have I1 : Inv X pins σ H { s with heap := h' } := I.turned (t' := s.toks) (fun b o hb e => (sb.2 b hb).trans e) f0 f1 f3 f4 f5
    obtain ⟨o, e, c, d⟩ := id st'
    exact ⟨u, rfl, go_of (s := { s with heap := h' }) e c d (by decide) ⟨x, H, I1, ru, ⟨rfl, fun ys hy => by rw [I.tuple_inj hy hq]; exact hx⟩, st', fun b hb => (hf b hb).1⟩⟩
  done := by
    intro X hP hw hK hc i pins s σ H E I hf st hg
    subst hP hw hK
    obtain ⟨xs, hq, hx⟩ := hg
    obtain ⟨its, rv, p, hz⟩ := I.tuple hq
    obtain ⟨f0, f1, f2, f3, f4, f5⟩ := hf it (by simp)
    have hl := rv.length
    exact wpAny_pyNext_tuple_end (I.ok.hd hc) st (show s.heap.IsTuple a its.toArray from p) (by simp; omega) fun h' eb => ⟨rfl, I.turned (t' := s.toks) (fun b o hb e => eb b o hb e) f0 f1 f3 f4 f5⟩
  self := fun _ _ _ _ _ st h => wpAny_pyIter_tupleiter st h
theorem turn_range {P : Program} {w : World} {K : PySem.W.Frag} {tg : Expr} (it : Addr) (lo : Int) (n : Nat) : Turn P w K tg (Itr lo n) [it] it (fun i h => IsRangeIter h it (lo + (i : Nat) * 1) ((n : Int) - (i : Nat)) 1) where
  mem := by simp
  obj := fun i h st b hb => by
    have e : b = it := by simpa using hb
    subst e
    exact ⟨_, st, fun v z => by
      have z' : Data.fields _ = Data.cell v := z
      cases z'⟩
  keep := fun i h h' st k => k it (by simp) _ st
  item := by
    intro X hP hw hK hc i pins s σ H E I hf st hg
    subst hP hw hK
    obtain ⟨f0, f1, f2, f3, f4, f5⟩ := hf it (by simp)
    have W := Walks.range (prog := X.prog) (w := X.w) (I.ok.hd hc) it lo 1 n
    refine W.item i s _ _ hg st fun v h' tk hv st' kk => ?_
    obtain ⟨t, rfl⟩ := hv
    have I1 : Inv X pins σ H { s with heap := h', toks := tk } := I.turned (fun b o hb e => kk b o (by simpa using hb) e) f0 f1 f3 f4 f5
    refine ⟨_, rfl, go_of (s := { s with heap := h', toks := tk }) (n := "range_iterator") st' rfl rfl (by decide) ⟨.int (lo + i), H, I1, ⟨t, ?_⟩, ⟨rfl, rfl⟩, st', fun b hb => (hf b hb).1⟩⟩
    rw [Int.mul_one]
  done := by
    intro X hP hw hK hc i pins s σ H E I hf st hg
    subst hP hw hK
    obtain ⟨f0, f1, f2, f3, f4, f5⟩ := hf it (by simp)
    exact wpAny_pyNext_range_end (I.ok.hd hc) st (by have : n ≤ i := hg; omega) fun h' eb => ⟨rfl, I.turned (t' := s.toks) (fun b o hb e => eb b o hb e) f0 f1 f3 f4 f5⟩
  self := fun _ _ _ _ _ st h => wpAny_pyIter_rangeiter st h
end L2
namespace L2
open PySem PySem.Spec PyProof.Rows
section
variable {X : Cx} {tg : Expr}
def iList (K : PySem.W.Frag) (tl : TE) : TI := fun σ H R => tl σ H fun x H1 => ∃ a, x = .ref a ∧ (∃ xs, SqL K H1 a xs) ∧ R (Itl K a) H1
def iTup (K : PySem.W.Frag) (tl : TE) : TI := fun σ H R => tl σ H fun x H1 => ∃ a, x = .ref a ∧ (∃ xs, SqT K H1 a xs) ∧ R (Itt K a) H1
theorem pi_list {l : Expr} {tl : TE} (hl : PE X l tl) : PI X tg l (iList X.K tl) := by
  intro pins s σ H R I h
  refine thn (hl pins s σ H _ I h) fun v s1 ⟨x, H1, I1, r1, q1⟩ => ?_
  obtain ⟨a, e, ⟨xs, hq⟩, q⟩ := q1
  subst e
  cases r1
  obtain ⟨its, rv, p, hz⟩ := I1.list hq
  refine wpAny_pyIter_list p.isList ?_
  refine ⟨s1.heap.objs.size, [s1.heap.objs.size], _, _, H1, rfl, I1.kept (t' := s1.toks) fun b o e => Heap.get?_push_of_some _ e, turn_list a _, ⟨_, Heap.get?_push_size _ rfl, rfl, rfl⟩, fun b hb => ?_, q⟩
  have e : b = s1.heap.objs.size := by simpa using hb
  subst e
  exact I1.fpOk (Nat.le_refl _) (I1.hok.fresh (Nat.le_refl _))
theorem pi_tup {l : Expr} {tl : TE} (hl : PE X l tl) : PI X tg l (iTup X.K tl) := by
  intro pins s σ H R I h
  refine thn (hl pins s σ H _ I h) fun v s1 ⟨x, H1, I1, r1, q1⟩ => ?_
  obtain ⟨a, e, ⟨xs, hq⟩, q⟩ := q1
  subst e
  cases r1
  obtain ⟨its, rv, p, hz⟩ := I1.tuple hq
  refine wpAny_pyIter_tuple (show s1.heap.IsTuple a its.toArray from p) ?_
  refine ⟨s1.heap.objs.size, [s1.heap.objs.size], _, _, H1, rfl, I1.kept (t' := s1.toks) fun b o e => Heap.get?_push_of_some _ e, turn_tuple a _, ⟨_, Heap.get?_push_size _ rfl, rfl, rfl⟩, fun b hb => ?_, q⟩
  have e : b = s1.heap.objs.size := by simpa using hb
  subst e
  exact I1.fpOk (Nat.le_refl _) (I1.hok.fresh (Nat.le_refl _))
theorem range_it {pins : List (Addr × Obj)} {σ : St} {H : Hp} {s : Shared} {R : It → Hp → Prop} {E : Value → Shared → Prop} {lo hi : Int} {t u v : Tok} {tk : Nat} (I : Inv X pins σ H s) (h1 : -(2 ^ 62) ≤ lo) (h2 : lo < 2 ^ 62) (h3 : -(2 ^ 62) ≤ hi) (h4 : hi < 2 ^ 62)
    (q : R (Itr lo (hi - lo).toNat) H) : wpAny (model X.prog X.w) X.A (pyIter (.ref s.heap.objs.size)) (PIE X pins σ tg R) E { s with heap := s.heap.push { cls := .type "range", data := .fields #[.int lo t, .int hi u, .int 1 v] }, toks := tk } := by
  refine wpAny_pyIter_range (IsRange.new ..) (small_one h1 h2 h3 h4) ?_
  have I1 : Inv X pins σ H { s with heap := s.heap.push { cls := .type "range", data := .fields #[.int lo t, .int hi u, .int 1 v] }, toks := tk } := I.kept fun b o e => Heap.get?_push_of_some _ e
  refine ⟨(s.heap.push { cls := .type "range", data := .fields #[.int lo t, .int hi u, .int 1 v] }).objs.size, [(s.heap.push { cls := .type "range", data := .fields #[.int lo t, .int hi u, .int 1 v] }).objs.size], _, _, H, rfl,
    I1.kept (t' := tk) fun b o e => Heap.get?_push_of_some _ e, turn_range _ lo (hi - lo).toNat, ?_, fun b hb => ?_, q⟩
  · have e1 : lo + ((0 : Nat) : Int) * 1 = lo := by simp
    have e2 : (((hi - lo).toNat : Nat) : Int) - ((0 : Nat) : Int) = Builtin.Range.rangeSize lo hi 1 := by rw [rangeSize_one]; split <;> omega
    show IsRangeIter _ _ (lo + ((0 : Nat) : Int) * 1) ((((hi - lo).toNat : Nat) : Int) - ((0 : Nat) : Int)) 1
    rw [e1, e2]
    exact Heap.get?_push_size _ rfl
  · have e : b = (s.heap.push { cls := .type "range", data := .fields #[.int lo t, .int hi u, .int 1 v] }).objs.size := by simpa using hb
    subst e
    exact I1.fpOk (Nat.le_refl _) (I1.hok.fresh (Nat.le_refl _))
def iRng1 (ta : TA) : TI := fun σ H R => ta σ H fun vs H1 => ∃ j : Int, vs = [.int j] ∧ -(2 ^ 62) ≤ j ∧ j < 2 ^ 62 ∧ R (Itr 0 j.toNat) H1
def iRng2 (ta : TA) : TI := fun σ H R => ta σ H fun vs H1 => ∃ i j : Int, vs = [.int i, .int j] ∧ (-(2 ^ 62) ≤ i ∧ i < 2 ^ 62 ∧ -(2 ^ 62) ≤ j ∧ j < 2 ^ 62) ∧ R (Itr i (j - i).toNat) H1
theorem pi_range1 {a : Expr} {ta : TA} {p pos : Pos} (hg : Gl X "range") (hm : X.mg "range" = none) (ha : PA X [a] ta) (hs : starEach [a] X.env = [(false, eval a X.env)] := by rfl) : PI X tg (.Call (.Name "range" p) [a] [] pos) (iRng1 ta) := by
  intro pins s σ H R I h
  refine Call_ (ld_blt I hg hm boot_range (PyProof.Rows.callWith_type1 (thn (ha pos pins s σ H _ I h) fun us s1 ⟨vs, H1, I1, r1, q1⟩ => ?_) hs rfl))
  obtain ⟨j, e, q1, q2, q⟩ := q1
  subst e
  cases r1 with
  | cons r rr =>
    cases rr
    obtain ⟨t, rfl⟩ := r
    exact call_range_1 (range_it I1 (by omega) (by omega) q1 q2 (by simpa using q))
def tFor (wi : TI) (g : TG) (tb : TS) : TS := fun D σ H => wi σ H fun J H1 => ∃ W : Nat → Nat → St → Hp → Prop, (∃ m, W 0 m σ H1) ∧ ∀ i m σ H, W i m σ H →
  (J.stop i H ∧ D.nx σ H) ∨ (J.go i H ∧ ∃ N : St → Hp → Prop, (∀ σ' H', N σ' H' → ∃ m', m' < m ∧ W (i + 1) m' σ' H') ∧ ∀ x H', J.yld i H x H' → g x σ H' fun σ2 H2 => tb { D with nx := N, ct := N, bk := D.nx } σ2 H2)
def pinsAt (fp : List Addr) (h : Heap) : List (Addr × Obj) := fp.filterMap fun b => (h.get? b).map fun o => (b, o)
theorem mem_pinsAt {fp : List Addr} {h : Heap} {b : Addr} {o : Obj} (hb : b ∈ fp) (e : h.get? b = some o) : (b, o) ∈ pinsAt fp h := List.mem_filterMap.mpr ⟨b, hb, by rw [e]; rfl⟩
theorem of_pinsAt {fp : List Addr} {h : Heap} {p : Addr × Obj} (hp : p ∈ pinsAt fp h) : p.1 ∈ fp ∧ h.get? p.1 = some p.2 := by
  obtain ⟨b, hb, e⟩ := List.mem_filterMap.mp hp
  cases q : h.get? b with
  | none => rw [q] at e; cases e
  | some o =>
    rw [q] at e
    have e' : (b, o) = p := Option.some.inj e
    subst e'
    exact ⟨hb, q⟩
theorem Inv.pinned {pins : List (Addr × Obj)} {σ : St} {H : Hp} {s : Shared} {fp : List Addr} (I : Inv X pins σ H s) (hf : ∀ b ∈ fp, FpOk X pins H b) (ho : ∀ b ∈ fp, ∃ o, s.heap.get? b = some o ∧ ∀ v, o.data ≠ .cell v) : Inv X (pins ++ pinsAt fp s.heap) σ H s :=
  I.pins_of fun p hp => (List.mem_append.mp hp).elim (fun z => I.pin p (List.mem_append_right _ z)) fun z => by
    obtain ⟨hb, e⟩ := of_pinsAt z
    obtain ⟨f0, f1, f2, _⟩ := hf p.1 hb
    obtain ⟨o, e', d⟩ := ho p.1 hb
    rw [e] at e'; cases e'
    exact ⟨e, f0, f1, f2, d⟩
theorem Inv.unpinned {pins pl : List (Addr × Obj)} {σ : St} {H : Hp} {s : Shared} (I : Inv X (pins ++ pl) σ H s) : Inv X pins σ H s := I.pins_of fun p hp => I.pin p (List.mem_append_right _ (List.mem_append_left _ hp))
theorem ps_for {iter : Expr} {body : List Stmt} {wi : TI} {g : TG} {tb : TS} {pos : Pos} (hp : PassesOwn (model X.prog X.w) X.A X.env X.xe) (hc : X.calm = true) (hi : PI X tg iter wi) (hg : PG X tg g) (hb : PSs X body tb)
    (hs : ∀ x, foldedSetIterable iter X.env x = pure x := by intro _; rfl) : PS X (.For tg iter body [] pos) (tFor wi g tb) := by
  intro pins s σ H D I h
  refine wpAny_For (thn (hi pins s σ H _ I h) fun v s1 h1 => thn h1 fun itv s2 h2 => ?_) hs
  obtain ⟨it, fp, tn, J, H2, e, I2, T, st2, f2, W, ⟨m0, w0⟩, turn⟩ := h2
  subst e
  have stat : ∀ {H' : Hp}, (∀ b ∈ fp, H' b = none) → ∀ b ∈ fp, FpOk X pins H' b := fun hn b hb => ⟨hn b hb, (f2 b hb).2⟩
  refine codeAny_forLoop_any (fun n s' => ∃ i σ' H', Inv X pins σ' H' s' ∧ tn i s'.heap ∧ (∀ b ∈ fp, H' b = none) ∧ W i n σ' H') ?_ m0 ⟨0, σ, H2, I2, st2, fun b hb => (f2 b hb).1, w0⟩
  rintro n s3 ⟨i, σ3, H3, I3, st3, fr3, w3⟩
  rcases turn i n σ3 H3 w3 with ⟨stop, qn⟩ | ⟨go, N, hN, step⟩
  · refine wpAny_passesOwn hp (thn (T.done X rfl rfl rfl hc i pins s3 σ3 H3 X.xe I3 (stat fr3) st3 stop) fun r s4 ⟨hr, I4⟩ => ?_)
    subst hr
    exact wpAny_execs_nil ⟨σ3, H3, I4, qn⟩
  · refine wpAny_passesOwn hp (thn (T.item X rfl rfl rfl hc i pins s3 σ3 H3 X.xe I3 (stat fr3) st3 go) fun r s4 ⟨u, hr, h4⟩ => ?_)
    subst hr
    refine wpAny_passesOwn hp (thn h4 fun _ s5 ⟨x, H5, I5, r5, y5, st5, fr5⟩ => ?_)
    have I5' := I5.pinned (stat fr5) (T.obj _ _ st5)
    refine wpAny_passesOwn hp (thn (hg _ s5 σ3 H5 x u _ I5' r5 (step x H5 y5)) fun _ s6 ⟨σ6, H6, I6, q6⟩ => ?_)
    refine wpAny_passesOwn hp (thn (hb _ s6 σ6 H6 _ I6 q6) fun f s7 q7 => ?_)
    have again : ∀ {σ7 : St} {H7 : Hp}, Inv X (pins ++ pinsAt fp s5.heap) σ7 H7 s7 → N σ7 H7 → ∃ m, m < n ∧ ∃ i σ' H', Inv X pins σ' H' s7 ∧ tn i s7.heap ∧ (∀ b ∈ fp, H' b = none) ∧ W i m σ' H' := fun {σ7 H7} I7 n7 => by
      obtain ⟨m', hm, w7⟩ := hN σ7 H7 n7
      refine ⟨m', hm, i + 1, σ7, H7, I7.unpinned, T.keep _ _ _ st5 fun b hb o e => (I7.pin (b, o) (List.mem_append_right _ (List.mem_append_right _ (mem_pinsAt hb e)))).1, fun b hb => ?_, w7⟩
      obtain ⟨o, e, d⟩ := T.obj _ _ st5 b hb
      exact (I7.pin (b, o) (List.mem_append_right _ (List.mem_append_right _ (mem_pinsAt hb e)))).2.1
    cases f with
    | next => obtain ⟨σ7, H7, I7, n7⟩ := q7; exact again I7 n7
    | cont => obtain ⟨σ7, H7, I7, n7⟩ := q7; exact again I7 n7
    | brk => obtain ⟨σ7, H7, I7, q7⟩ := q7; exact ⟨σ7, H7, I7.unpinned, q7⟩
    | ret v => obtain ⟨x7, σ7, H7, I7, r7, q7⟩ := q7; exact ⟨x7, σ7, H7, I7.unpinned, r7, q7⟩
end
end L2
namespace L2
open PySem PySem.Spec PyProof.Rows
abbrev R2 := V → V → Hp → VK → Prop
def OpR (X : Cx) (f : Value → Value → Sem Value) (r : R2) : Prop :=
  ∀ (pins : List (Addr × Obj)) (s : Shared) (σ : St) (H : Hp) (x y : V) (v u : Value) (Q : VK), Inv X pins σ H s → RelV x v → RelV y u → r x y H Q →
    wpAny (model X.prog X.w) X.A (f v u) (EP X pins σ Q) X.xe s
def UnR (X : Cx) (f : Value → Sem Value) (r : V → Hp → VK → Prop) : Prop :=
  ∀ (pins : List (Addr × Obj)) (s : Shared) (σ : St) (H : Hp) (x : V) (v : Value) (Q : VK), Inv X pins σ H s → RelV x v → r x H Q →
    wpAny (model X.prog X.w) X.A (f v) (EP X pins σ Q) X.xe s
def CallR (X : Cx) (f : Value) (r : List V → Hp → VK → Prop) : Prop :=
  ∀ (pins : List (Addr × Obj)) (s : Shared) (σ : St) (H : Hp) (xs : List V) (us : List Value) (Q : VK), Inv X pins σ H s → Vals xs us → r xs H Q →
    wpAny (model X.prog X.w) X.A (call f us) (EP X pins σ Q) X.xe s
def TruR (X : Cx) (r : V → Hp → (Bool → Hp → Prop) → Prop) : Prop :=
  ∀ (pins : List (Addr × Obj)) (s : Shared) (σ : St) (H : Hp) (x : V) (v : Value) (Q : Bool → Hp → Prop), Inv X pins σ H s → RelV x v → r x H Q →
    wpAny (model X.prog X.w) X.A (truthy v) (TP X pins σ Q) X.xe s
def tOp (r : R2) (ta tb : TE) : TE := fun σ H Q => ta σ H fun x H1 => tb σ H1 fun y H2 => r x y H2 Q
def tUn (r : V → Hp → VK → Prop) (ta : TE) : TE := fun σ H Q => ta σ H fun x H1 => r x H1 Q
def rI (C : Int → Int → Prop) (g : Int → Int → V) : R2 := fun x y H Q => ∃ i j, x = .int i ∧ y = .int j ∧ C i j ∧ Q (g i j) H
def rI0 (g : Int → Int → V) : R2 := fun x y H Q => ∃ i j, x = .int i ∧ y = .int j ∧ Q (g i j) H
def rU (g : Int → V) : V → Hp → VK → Prop := fun x H Q => ∃ i, x = .int i ∧ Q (g i) H
section
variable {X : Cx} {a b c : Expr} {ta tb tc : TE} {pos : Pos}
theorem binT (ha : PE X a ta) (hb : PE X b tb) {pins : List (Addr × Obj)} {s : Shared} {σ : St} {H : Hp} {R : V → V → Hp → Prop} (I : Inv X pins σ H s)
    (h : ta σ H fun x H1 => tb σ H1 fun y H2 => R x y H2) {Q : Value → Shared → Prop} {f : Value → Value → Sem Value}
    (hf : ∀ v u s2 x y H2, Inv X pins σ H2 s2 → RelV x v → RelV y u → R x y H2 → wpAny (model X.prog X.w) X.A (f v u) Q X.xe s2) :
    wpAny (model X.prog X.w) X.A (eval a X.env) (fun v s₁ => wpAny (model X.prog X.w) X.A (eval b X.env) (fun u s₂ => wpAny (model X.prog X.w) X.A (f v u) Q X.xe s₂) X.xe s₁) X.xe s := by
  refine thn (ha pins s σ H _ I h) fun v s1 ⟨x, H1, I1, r1, q1⟩ => ?_
  refine thn (hb pins s1 σ H1 _ I1 q1) fun u s2 ⟨y, H2, I2, r2, q2⟩ => ?_
  exact hf v u s2 x y H2 I2 r1 r2 q2
theorem pe_op {op : Operator} {r : R2} (ho : OpR X (binaryOp op) r) (ha : PE X a ta) (hb : PE X b tb) : PE X (.BinOp a op b pos) (tOp r ta tb) := by
  intro pins s σ H Q I h
  exact wpAny_BinOp (binT ha hb I h fun v u s2 x y H2 I2 rx ry q => ho pins s2 σ H2 x y v u Q I2 rx ry q)
theorem opI {f : Value → Value → Sem Value} {C : Int → Int → Prop} {g : Int → Int → Int}
    (rule : ∀ (i j : Int) (t u : Tok) (s : Shared) (Q : Value → Shared → Prop) (E : Value → Shared → Prop), C i j → Q (.int (g i j) s.toks) { s with toks := s.toks + 1 } → wpAny (model X.prog X.w) X.A (f (.int i t) (.int j u)) Q E s) :
    OpR X f (rI C fun i j => .int (g i j)) := by
  intro pins s σ H x y v u Q I rx ry h
  obtain ⟨i, j, rfl, rfl, hc, q⟩ := h
  obtain ⟨t, rfl⟩ := rx
  obtain ⟨t', rfl⟩ := ry
  exact rule i j t t' s _ _ hc ⟨.int (g i j), H, I.tok _, ⟨_, rfl⟩, q⟩
theorem opI0 {f : Value → Value → Sem Value} {g : Int → Int → Int}
    (rule : ∀ (i j : Int) (t u : Tok) (s : Shared) (Q : Value → Shared → Prop) (E : Value → Shared → Prop), Q (.int (g i j) s.toks) { s with toks := s.toks + 1 } → wpAny (model X.prog X.w) X.A (f (.int i t) (.int j u)) Q E s) :
    OpR X f (rI0 fun i j => .int (g i j)) := by
  intro pins s σ H x y v u Q I rx ry h
  obtain ⟨i, j, rfl, rfl, q⟩ := h
  obtain ⟨t, rfl⟩ := rx
  obtain ⟨t', rfl⟩ := ry
  exact rule i j t t' s _ _ ⟨.int (g i j), H, I.tok _, ⟨_, rfl⟩, q⟩
theorem opB0 {f : Value → Value → Sem Value} {g : Int → Int → Bool}
    (rule : ∀ (i j : Int) (t u : Tok) (s : Shared) (Q : Value → Shared → Prop) (E : Value → Shared → Prop), Q (.bool (g i j)) s → wpAny (model X.prog X.w) X.A (f (.int i t) (.int j u)) Q E s) :
    OpR X f (rI0 fun i j => .bl (g i j)) := by
  intro pins s σ H x y v u Q I rx ry h
  obtain ⟨i, j, rfl, rfl, q⟩ := h
  obtain ⟨t, rfl⟩ := rx
  obtain ⟨t', rfl⟩ := ry
  exact rule i j t t' s _ _ ⟨.bl (g i j), H, I, rfl, q⟩
def CDiv (i j : Int) : Prop := 0 < j ∧ j < 1073741824
def CDivN (i j : Int) : Prop := j ≠ 0 ∧ j.natAbs < 1073741824
def CPow (i j : Int) : Prop := 0 ≤ j ∧ j ≤ 1000000 ∧ i.natAbs < 2 ^ 64
def CMul (i j : Int) : Prop := (-(2 ^ 64) < i ∧ i < 2 ^ 64) ∨ (-(2 ^ 64) < j ∧ j < 2 ^ 64)
theorem CMul.ok {i j : Int} (h : CMul i j) : IntMulOk i j := by
  rcases h with ⟨h1, h2⟩ | ⟨h1, h2⟩
  · exact .of_left (intBits_le_64 h1 h2)
  · exact .of_right (intBits_le_64 h1 h2)
theorem op_add : OpR X (binaryOp .Add) (rI0 fun i j => .int (i + j)) := opI0 fun _ _ _ _ _ _ _ q => add_int q
theorem op_mul : OpR X (binaryOp .Mult) (rI CMul fun i j => .int (i * j)) := opI fun _ _ _ _ _ _ _ hc q => mul_int q hc.ok
theorem op_fdiv : OpR X (binaryOp .FloorDiv) (rI CDiv fun i j => .int (i / j)) := opI fun i j _ _ _ _ _ hc q => by
  have h1 : (0 : Int) < j := hc.1
  have h2 : j < 1073741824 := hc.2
  exact floordiv_int (by omega) (by rw [Int.fdiv_eq_ediv_of_nonneg i (by omega)]; exact q) (.inl (PyProof.noPylong_small (by omega)))
theorem op_mod : OpR X (binaryOp .Mod) (rI (fun _ j => 0 < j) fun i j => .int (i % j)) := opI fun i j _ _ _ _ _ hc q => by
  have h1 : (0 : Int) < j := hc
  exact mod_int' (by omega) (by rw [Int.fmod_eq_emod_of_nonneg i (by omega)]; exact q)
theorem op_pow : OpR X (binaryOp .Pow) (rI CPow fun i j => .int (i ^ j.toNat)) := opI fun _ _ _ _ _ _ _ hc q => pow_int_small hc.1 hc.2.1 hc.2.2 q
end
def scal : V → V → Bool
  | .non, .non => true | .non, .int _ => true | .int _, .non => true | .non, .bl _ => true | .bl _, .non => true | .non, .str _ => true | .str _, .non => true
  | .int _, .int _ => true | .bl _, .bl _ => true | .str _, .str _ => true | .byt _, .byt _ => true
  | .int _, .str _ => true | .str _, .int _ => true | .bl _, .str _ => true | .str _, .bl _ => true
  | _, _ => false
def rEq : R2 := fun x y H Q => scal x y = true ∧ Q (.bl (decide (x = y))) H
def rNe : R2 := fun x y H Q => scal x y = true ∧ Q (.bl (!decide (x = y))) H
theorem dec_int {i j : Int} : decide (V.int i = V.int j) = (i == j) := by
  rw [Bool.eq_iff_iff]
  simp
theorem dec_bl {i j : Bool} : decide (V.bl i = V.bl j) = (i == j) := by
  rw [Bool.eq_iff_iff]
  simp
theorem dec_str {i j : Str} : decide (V.str i = V.str j) = (i == j) := by
  rw [Bool.eq_iff_iff]
  simp
theorem dec_byt {i j : Array UInt8} : decide (V.byt i = V.byt j) = (i.toList == j.toList) := by
  rw [Bool.eq_iff_iff]
  cases i
  cases j
  simp
section
variable {X : Cx} {a b c : Expr} {ta tb tc : TE} {pos : Pos}
theorem fin_bl {pins : List (Addr × Obj)} {σ : St} {H : Hp} {s : Shared} {Q : VK} {k k' : Bool} (I : Inv X pins σ H s) (q : Q (.bl k) H) (e : k = k') : EP X pins σ Q (.bool k') s := by
  subst e
  exact ⟨.bl k, H, I, rfl, q⟩
theorem op_eq : OpR X (compareOp .Eq) rEq := by
  intro pins s σ H x y v u Q I rx ry h
  obtain ⟨hs, q⟩ := h
  cases x with
  | non =>
    cases rx
    cases y with
    | non => cases ry; exact PySem.EqNone.eq_none_none (fin_bl I q (by simp))
    | bl j => cases ry; exact PySem.EqNone.eq_none_bool (fin_bl I q (by simp))
    | int j => obtain ⟨t', rfl⟩ := ry; exact PySem.EqNone.eq_none_int (fin_bl I q (by simp))
    | str j => obtain ⟨t', rfl⟩ := ry; exact PySem.EqNone.eq_none_str (fin_bl I q (by simp))
    | _ => exact absurd (show false = true from hs) Bool.false_ne_true
  | bl i =>
    cases rx
    cases y with
    | non => cases ry; exact PySem.EqNone.eq_bool_none (fin_bl I q (by simp))
    | bl j => cases ry; exact eq_bool (fin_bl I q dec_bl)
    | str j => obtain ⟨t', rfl⟩ := ry; exact PySem.EqMixed.eq_bool_str (fin_bl I q (by simp))
    | _ => exact absurd (show false = true from hs) Bool.false_ne_true
  | int i =>
    obtain ⟨t, rfl⟩ := rx
    cases y with
    | non => cases ry; exact PySem.EqNone.eq_int_none (fin_bl I q (by simp))
    | int j => obtain ⟨t', rfl⟩ := ry; exact eq_int (fin_bl I q dec_int)
    | str j => obtain ⟨t', rfl⟩ := ry; exact PySem.EqMixed.eq_int_str (fin_bl I q (by simp))
    | _ => exact absurd (show false = true from hs) Bool.false_ne_true
  | str i =>
    obtain ⟨t, rfl⟩ := rx
    cases y with
    | non => cases ry; exact PySem.EqNone.eq_str_none (fin_bl I q (by simp))
    | bl j => cases ry; exact PySem.EqMixed.eq_str_bool (fin_bl I q (by simp))
    | int j => obtain ⟨t', rfl⟩ := ry; exact PySem.EqMixed.eq_str_int (fin_bl I q (by simp))
    | str j => obtain ⟨t', rfl⟩ := ry; exact eq_str (fin_bl I q dec_str)
    | _ => exact absurd (show false = true from hs) Bool.false_ne_true
  | byt i =>
    obtain ⟨t, rfl⟩ := rx
    cases y with
    | byt j => obtain ⟨t', rfl⟩ := ry; exact PySem.W.eq_bytes (fin_bl I q dec_byt)
    | _ => exact absurd (show false = true from hs) Bool.false_ne_true
  | _ => cases y <;> exact absurd (show false = true from hs) Bool.false_ne_true
theorem op_ne : OpR X (compareOp .NotEq) rNe := by
  intro pins s σ H x y v u Q I rx ry h
  obtain ⟨hs, q⟩ := h
  cases x with
  | non =>
    cases rx
    cases y with
    | non => cases ry; exact PySem.EqNone.ne_none_none (fin_bl I q (by simp))
    | bl j => cases ry; exact PySem.EqNone.ne_none_bool (fin_bl I q (by simp))
    | int j => obtain ⟨t', rfl⟩ := ry; exact PySem.EqNone.ne_none_int (fin_bl I q (by simp))
    | str j => obtain ⟨t', rfl⟩ := ry; exact PySem.EqNone.ne_none_str (fin_bl I q (by simp))
    | _ => exact absurd (show false = true from hs) Bool.false_ne_true
  | bl i =>
    cases rx
    cases y with
    | non => cases ry; exact PySem.EqNone.ne_bool_none (fin_bl I q (by simp))
    | bl j => cases ry; exact ne_bool (fin_bl I q (congrArg not dec_bl))
    | str j => obtain ⟨t', rfl⟩ := ry; exact PySem.EqMixed.ne_bool_str (fin_bl I q (by simp))
    | _ => exact absurd (show false = true from hs) Bool.false_ne_true
  | int i =>
    obtain ⟨t, rfl⟩ := rx
    cases y with
    | non => cases ry; exact PySem.EqNone.ne_int_none (fin_bl I q (by simp))
    | int j => obtain ⟨t', rfl⟩ := ry; exact ne_int (fin_bl I q (congrArg not dec_int))
    | str j => obtain ⟨t', rfl⟩ := ry; exact PySem.EqMixed.ne_int_str (fin_bl I q (by simp))
    | _ => exact absurd (show false = true from hs) Bool.false_ne_true
  | str i =>
    obtain ⟨t, rfl⟩ := rx
    cases y with
    | non => cases ry; exact PySem.EqNone.ne_str_none (fin_bl I q (by simp))
    | bl j => cases ry; exact PySem.EqMixed.ne_str_bool (fin_bl I q (by simp))
    | int j => obtain ⟨t', rfl⟩ := ry; exact PySem.EqMixed.ne_str_int (fin_bl I q (by simp))
    | str j => obtain ⟨t', rfl⟩ := ry; exact ne_str (fin_bl I q (congrArg not dec_str))
    | _ => exact absurd (show false = true from hs) Bool.false_ne_true
  | byt i =>
    obtain ⟨t, rfl⟩ := rx
    cases y with
    | byt j => obtain ⟨t', rfl⟩ := ry; exact PySem.W.ne_bytes (fin_bl I q (congrArg not dec_byt))
    | _ => exact absurd (show false = true from hs) Bool.false_ne_true
  | _ => cases y <;> exact absurd (show false = true from hs) Bool.false_ne_true
theorem op_lt : OpR X (compareOp .Lt) (rI0 fun i j => .bl (decide (i < j))) := opB0 fun _ _ _ _ _ _ _ q => lt_int q
theorem op_gt : OpR X (compareOp .Gt) (rI0 fun i j => .bl (decide (j < i))) := opB0 fun _ _ _ _ _ _ _ q => gt_int q
def isObj : HO → Bool
  | .lst _ => true
  | .ins _ _ _ => true
  | _ => false
theorem OpR.or {f : Value → Value → Sem Value} {r r' : R2} (h : OpR X f r) (h' : OpR X f r') : OpR X f (fun x y H Q => r x y H Q ∨ r' x y H Q) := by
  intro pins s σ H x y v u Q I rx ry q
  rcases q with q | q
  · exact h pins s σ H x y v u Q I rx ry q
  · exact h' pins s σ H x y v u Q I rx ry q
theorem pe_cmpR {op : CmpOp} {r : R2} (ho : OpR X (compareOp op) r) (ha : PE X a ta) (hb : PE X b tb) (hm : behindInMarks op b = false) : PE X (.Compare a [op] [b] pos) (tOp r ta tb) := by
  intro pins s σ H Q I h
  exact wpAny_Compare1 (binT ha hb I h fun v u s2 x y H2 I2 rx ry q => ho pins s2 σ H2 x y v u Q I2 rx ry q) hm
def tTest (t : TE) : TT := fun σ H Q => t σ H fun x H' => ∃ k, x = .bl k ∧ Q k H'
theorem pt_cmpR {op : CmpOp} {r : R2} (ho : OpR X (compareOp op) r) (ha : PE X a ta) (hb : PE X b tb) (hm : behindInMarks op b = false) : PT X (.Compare a [op] [b] pos) (tTest (tOp r ta tb)) := by
  intro pins s σ H Q I h
  refine wpAny_isTrue_Compare1 (thn (ha pins s σ H _ I h) fun v s1 ⟨x, H1, I1, r1, q1⟩ => thn (hb pins s1 σ H1 _ I1 q1) fun u s2 ⟨y, H2, I2, r2, q2⟩ =>
    thn (ho pins s2 σ H2 x y v u _ I2 r1 r2 q2) fun c s3 ⟨z, H3, I3, r3, k, e, q3⟩ => ?_) hm
  subst e
  cases r3
  exact wpAny_truthy_bool ⟨H3, I3, q3⟩
def tChain (r r' : R2) (ta tb tc : TE) : TE := fun σ H Q => ta σ H fun x H1 => tb σ H1 fun y H2 => r x y H2 fun z H3 => ∃ k, z = .bl k ∧
  (if k = true then tc σ H3 fun w' H4 => r' y w' H4 Q else Q (.bl false) H3)
def TruV (K : PySem.W.Frag) (x : V) (H : Hp) (k : Bool) : Prop :=
  match x with
  | .non => k = false
  | .bl b => k = b
  | .int i => k = (i != 0)
  | .str y => y.length ≤ sizeLine ∧ k = ((y.length : Int) != 0)
  | .byt y => y.size ≤ sizeLine ∧ k = ((y.size : Int) != 0)
  | .ref p => (∃ xs, SqL K H p xs ∧ k = !xs.isEmpty) ∨ (∃ xs, SqT K H p xs ∧ k = !xs.isEmpty) ∨ ∃ kvs, H p = some (.dK kvs) ∧ k = !kvs.isEmpty
  | _ => False
theorem isEmpty_kv {κ : Type} {kvs : List (κ × V)} {vs : List (κ × Value)} (r : KV kvs vs) : (!vs.isEmpty) = !kvs.isEmpty := by
  cases r <;> rfl
theorem isEmpty_of {xs : List V} {its : List Value} (r : Vals xs its) : (!its.toArray.isEmpty) = !xs.isEmpty := by
  cases r <;> simp
theorem line63 : (sizeLine : Nat) < 2 ^ 63 := by rw [sizeLine_eq]; decide
theorem tru_ok : TruR X (fun x H Q => ∃ k, TruV X.K x H k ∧ Q k H) := by
  intro pins s σ H x v Q I rx h
  obtain ⟨k, e, q⟩ := h
  have hl := line63
  have hs : sizeLine = 16777216 := sizeLine_eq
  cases x with
  | non =>
    cases rx
    have e' : k = false := e
    subst e'
    exact truthy_none ⟨H, I, q⟩
  | bl b =>
    cases rx
    have e' : k = b := e
    subst e'
    exact wpAny_truthy_bool ⟨H, I, q⟩
  | int i =>
    obtain ⟨t, rfl⟩ := rx
    have e' : k = (i != 0) := e
    subst e'
    exact PySem.P.truthy_int ⟨H, I, q⟩
  | str y =>
    obtain ⟨t, rfl⟩ := rx
    obtain ⟨hy, e'⟩ : y.length ≤ sizeLine ∧ k = ((y.length : Int) != 0) := e
    subst e'
    exact PySem.P.truthy_str (by omega) ⟨H, I.tok _, q⟩
  | byt y =>
    obtain ⟨t, rfl⟩ := rx
    obtain ⟨hy, e'⟩ : y.size ≤ sizeLine ∧ k = ((y.size : Int) != 0) := e
    subst e'
    exact PySem.W.truthy_bytes (by omega) ⟨H, I.tok _, q⟩
  | ref p =>
    cases rx
    have e' : (∃ xs, SqL X.K H p xs ∧ k = !xs.isEmpty) ∨ (∃ xs, SqT X.K H p xs ∧ k = !xs.isEmpty) ∨ ∃ kvs, H p = some (.dK kvs) ∧ k = !kvs.isEmpty := e
    rcases e' with ⟨xs, hx, e'⟩ | ⟨xs, hx, e'⟩ | ⟨kvs, hx, e'⟩
    · subst e'
      obtain ⟨its, r, pl, hz⟩ := I.list hx
      have hlen := r.length
      exact wpAny_truthy_list pl.isList (by simp only [List.size_toArray]; omega) ⟨H, I.tok _, by rw [isEmpty_of r]; exact q⟩
    · subst e'
      obtain ⟨its, r, pl, hz⟩ := I.tuple hx
      have hlen := r.length
      exact truthy_tuple pl (by simp only [List.size_toArray]; omega) ⟨H, I.tok _, by rw [isEmpty_of r]; exact q⟩
    · subst e'
      obtain ⟨hz, hS, vs, r, m⟩ : kvs.length ≤ sizeLine ∧ (p == sysModules) = false ∧ ∃ vs, KV kvs vs ∧ s.heap.DictOf (mixKind X.prog X.w) p vs := I.hok p _ hx
      have hlen : kvs.length = vs.length := Paired.length r
      exact wpAny_truthy_dict hS m (by omega) ⟨H, I.tok _, by rw [isEmpty_kv r]; exact q⟩
  | _ => exact (show False from e).elim
theorem pt_truth (ha : PE X a ta) (he : ∀ whole, isTrue a X.env whole = (do let v ← whole; standAt a.pos; holding [v] (truthy v))) :
    PT X a (fun σ H Q => ta σ H fun x H' => ∃ k, TruV X.K x H' k ∧ Q k H') := by
  intro pins s σ H Q I h
  exact isTrue_plain (thn (ha pins s σ H _ I h) fun v s1 ⟨x, H1, I1, r1, q1⟩ => tru_ok pins s1 σ H1 x v Q I1 r1 q1) (he _)
theorem op_add_str : OpR X (binaryOp .Add) (fun x y H Q => ∃ i j, x = .str i ∧ y = .str j ∧ i.length + j.length ≤ sizeLine ∧ Q (.str (i ++ j)) H) := by
  intro pins s σ H x y v u Q I rx ry h
  obtain ⟨i, j, rfl, rfl, hz, q⟩ := h
  obtain ⟨t, rfl⟩ := rx
  obtain ⟨t', rfl⟩ := ry
  exact add_str (fun t' tk => ⟨.str (i ++ j), H, I.tok _, ⟨_, rfl⟩, q⟩) hz
def PlainIxT (b : Expr) : Prop := ∀ o i, subscripted b false o i = operate [o, i] (getItem o i)
theorem vals1 {x : V} {us : List Value} (r : Vals [x] us) : ∃ u, us = [u] ∧ RelV x u := by
  cases r with
  | cons r1 r2 => cases r2; exact ⟨_, rfl, r1⟩
theorem vals2 {x y : V} {us : List Value} (r : Vals [x, y] us) : ∃ u w', us = [u, w'] ∧ RelV x u ∧ RelV y w' := by
  cases r with
  | cons r1 r2 =>
    cases r2 with
    | cons r3 r4 => cases r4; exact ⟨_, _, rfl, r1, r3⟩
theorem call_max2 (hc : X.calm = true) : CallR X (.builtin "max") (fun xs H Q => ∃ i j, xs = [.int i, .int j] ∧ Q (.int (if j > i then j else i)) H) := by
  intro pins s σ H xs us Q I r h
  obtain ⟨i, j, rfl, q⟩ := h
  obtain ⟨u, w', rfl, ⟨t, rfl⟩, ⟨t', rfl⟩⟩ := vals2 r
  refine max_two_ints (I.ok.hd hc) fun h' tk k => ⟨_, H, I.kept k, ?_, q⟩
  by_cases hj : j > i
  · rw [if_pos hj, if_pos hj]; exact ⟨_, rfl⟩
  · rw [if_neg hj, if_neg hj]; exact ⟨_, rfl⟩
def LenV (K : PySem.W.Frag) (x : V) (H : Hp) (n : Nat) : Prop :=
  match x with
  | .str y => y.length ≤ sizeLine ∧ n = y.length
  | .byt y => y.size ≤ sizeLine ∧ n = y.size
  | .ref p => (∃ xs, SqL K H p xs ∧ n = xs.length) ∨ ∃ xs, SqT K H p xs ∧ n = xs.length
  | _ => False
end
end L2
namespace L2
open PySem PySem.Spec PyProof.Rows
structure ObjM (h : Heap) (x dx C : Addr) (mA : Str → Option Value) : Prop where
  obj : h.get? x = some (PySem.W.instObj C dx)
  ns : h.Ns1 dx mA
  ne : dx ≠ x
section
variable {prog : Program} {w : World} {A : Around} {E : Value → Shared → Prop} {s : Shared} {K : PySem.W.Frag} {x dx C f : Addr} {mA : Str → Option Value} {name : Str} {v : Value}
end
def putF (f : Str) (v : V) : List (Str × V) → List (Str × V)
  | [] => [(f, v)]
  | (g, x) :: r => if g = f then (g, v) :: r else (g, x) :: putF f v r
theorem RelO.some_of {v : V} {o : Option Value} (r : RelO (some v) o) : ∃ u, o = some u ∧ RelV v u := by
  cases o with
  | none => exact (show False from r).elim
  | some u => exact ⟨u, rfl, r⟩
section
variable {P : Program} {w : World} {H H' : Hp} {h h' : Heap} {a C dx : Addr} {fs fs' : List (Str × V)}
end
structure Cls (K : PySem.W.Frag) (C : Addr) : Prop where
  pg : PySem.W.plainGet K C Str.empty = true
  hd : PySem.W.hasDictIn K C = true
  po : PySem.W.plainOver K C = true
  sa : PySem.W.findIn K (.ref C) "__setattr__" = some (some (.builtin "object.__setattr__"))
theorem Cls.get {K : PySem.W.Frag} {C : Addr} (c : Cls K C) (f : Str) : PySem.W.plainGet K C f = true := c.pg
def NoAttr (K : PySem.W.Frag) (C : Addr) (f : Str) : Prop := PySem.W.findIn K (.ref C) f = some none
structure Con (K : PySem.W.Frag) (C : Addr) (f : Str) (v : V) (u : Value) : Prop where
  at_ : PySem.W.findIn K (.ref C) f = some (some u)
  rel : RelV v u
  get : PySem.W.specialIn K u "__get__" = some none
  cp : PySem.W.copiedNames.contains f = false
structure Meth (K : PySem.W.Frag) (C : Addr) (m : Str) (f : Addr) : Prop where
  at_ : PySem.W.findIn K (.ref C) m = some (some (.ref f))
  fn : PySem.W.isFn K (.ref f) = true
  kp : PySem.W.keepIn K (.ref f) = true
section
variable {X : Cx} {pins : List (Addr × Obj)} {σ : St} {H : Hp} {s : Shared} {a C dx : Addr} {fs : List (Str × V)} {f : Str} {v : V} {A : Around} {E : Value → Shared → Prop}
theorem Inv.made (I : Inv X pins σ H s) : Inv X pins σ (upd (upd H s.heap.objs.size (.own (s.heap.objs.size + 1))) (s.heap.objs.size + 1) (.ins C s.heap.objs.size []))
    { s with heap := (s.heap.push PySem.W.emptyDict).push (PySem.W.instObj C s.heap.objs.size) } := by
  have e1 : (s.heap.push PySem.W.emptyDict).get? s.heap.objs.size = some PySem.W.emptyDict := Heap.get?_push_size s.heap rfl
  have e2 : ((s.heap.push PySem.W.emptyDict).push (PySem.W.instObj C s.heap.objs.size)).get? (s.heap.objs.size + 1) = some (PySem.W.instObj C s.heap.objs.size) := by
    have := Heap.get?_push_size (s.heap.push PySem.W.emptyDict) (o := PySem.W.instObj C s.heap.objs.size) rfl
    rwa [Heap.size_push] at this
  have e3 : (s.heap.push PySem.W.emptyDict).Ns s.heap.objs.size (fun _ => none) := ⟨PySem.W.emptyDict, #[], _, e1, rfl, (fun e he => absurd he (by simp)), fun _ => rfl⟩
  have I1 := I.laid (a := s.heap.objs.size) (o := .own (s.heap.objs.size + 1)) (h' := s.heap.push PySem.W.emptyDict) (t' := s.toks) (fun b u q => Heap.get?_push_of_some _ q) (Nat.le_refl _) ⟨_, e1⟩
  refine I1.laid (a := s.heap.objs.size + 1) (o := .ins C s.heap.objs.size []) (t' := s.toks) (fun b u q => Heap.get?_push_of_some _ q) (Nat.le_of_eq (Heap.size_push _ _)) ?_
  have ne : s.heap.objs.size ≠ s.heap.objs.size + 1 := Nat.ne_of_lt (Nat.lt_succ_self _)
  refine ⟨by rw [upd_ne ne, upd_same], Nat.zero_le _, ne, e2, fun _ => none, (Heap.Ns1.of_empty e3).at fun o q => Heap.get?_push_of_some _ q, fun _ => True.intro, fun y hy => absurd rfl hy⟩
end
def tFld (K : PySem.W.Frag) (ta : TE) (f : Str) : TE := fun σ H Q => ta σ H fun x H1 => ∃ a C dx fs v, x = .ref a ∧ H1 a = some (.ins C dx fs) ∧ Cls K C ∧ NoAttr K C f ∧ fs.lookup f = some v ∧ Q v H1
def tCon (K : PySem.W.Frag) (ta : TE) (f : Str) : TE := fun σ H Q => ta σ H fun x H1 => ∃ a C dx fs v u, x = .ref a ∧ H1 a = some (.ins C dx fs) ∧ Cls K C ∧ Con K C f v u ∧ fs.lookup f = none ∧ Q v H1
def sFld (K : PySem.W.Frag) (ta tv : TE) (f : Str) : TS := fun D σ H => tv σ H fun y H1 => ta σ H1 fun x H2 => ∃ a C dx fs, x = .ref a ∧ H2 a = some (.ins C dx fs) ∧ Cls K C ∧ NoAttr K C f ∧ fs.length < 1000 ∧
  D.nx σ (upd H2 a (.ins C dx (putF f y fs)))
def InOp (X : Cx) (op : Operator) (rd : V → V → Hp → VK → Prop) : Prop :=
  ∀ (pins : List (Addr × Obj)) (s : Shared) (σ : St) (H : Hp) (x y : V) (u v : Value) (Q : VK), Inv X pins σ H s → RelV x u → RelV y v → rd x y H Q → wpAny (model X.prog X.w) X.A (inplaceOp op u v) (EP X pins σ Q) X.xe s
def sFldAug (K : PySem.W.Frag) (ta tv : TE) (rd : V → V → Hp → VK → Prop) (f : Str) : TS := fun D σ H => ta σ H fun x H1 => ∃ a C dx fs v, x = .ref a ∧ H1 a = some (.ins C dx fs) ∧ Cls K C ∧ NoAttr K C f ∧ fs.lookup f = some v ∧
  tv σ H1 fun y H2 => rd v y H2 fun z H3 => ∃ dx' fs', H3 a = some (.ins C dx' fs') ∧ fs'.length < 1000 ∧ D.nx σ (upd H3 a (.ins C dx' (putF f z fs')))
section
variable {X : Cx} {o e value : Expr} {f : Str} {pos pos' tpos : Pos} {ta tv : TE}
def rAdd : V → V → Hp → VK → Prop := fun x y H Q => ∃ i j, x = .int i ∧ y = .int j ∧ Q (.int (i + j)) H
def rSub : V → V → Hp → VK → Prop := fun x y H Q => ∃ i j, x = .int i ∧ y = .int j ∧ Q (.int (i - j)) H
end
section
variable {X : Cx} {pins : List (Addr × Obj)} {σ : St} {H : Hp} {s : Shared} {A : Around} {E : Value → Shared → Prop} {Q : Value → Shared → Prop} {c : Value} {b : Bool}
inductive TyOf (K : PySem.W.Frag) (H : Hp) : V → Value → Prop where
  | non : TyOf K H .non (.type "NoneType")
  | bl (x : Bool) : TyOf K H (.bl x) (.type "bool")
  | int (i : Int) : TyOf K H (.int i) (.type "int")
  | str (x : Str) : TyOf K H (.str x) (.type "str")
  | flt (x : UInt64) : TyOf K H (.flt x) (.type "float")
  | lst {a : Addr} {xs : List V} (e : H a = some (.lst xs)) : TyOf K H (.ref a) (.type "list")
  | frz {a : Addr} {o : Obj} {xs : List V} (e : H a = some (.frz o (.lst xs))) : TyOf K H (.ref a) (.type "list")
  | tup {a : Addr} {xs : List V} (e : H a = some (.tup xs)) : TyOf K H (.ref a) (.type "tuple")
  | dK {a : Addr} {kvs : List (Key × V)} (e : H a = some (.dK kvs)) : TyOf K H (.ref a) (.type "dict")
  | dT {a : Addr} {kvs : List (List Key × V)} (e : H a = some (.dT kvs)) : TyOf K H (.ref a) (.type "dict")
  | ins {a C dx : Addr} {fs : List (Str × V)} (e : H a = some (.ins C dx fs)) (cl : Cls K C) (ha : PySem.W.findIn K (.ref C) "__class__" = some (some (.builtin "object.__class__")))
      (hn : PySem.W.specialIn K (.builtin "object.__class__") "__get__" = some (some (.builtin "getset_descriptor.__get__"))) (htk : PySem.W.takesIn K (.builtin "object.__class__") = some true)
      (hm : PySem.W.mroIn K C (.type "object") = some true) : TyOf K H (.ref a) (.ref C)
end
end L2
namespace L2
open PySem PySem.Spec PyProof.Rows
structure Room (k : Nat) (A : Around) : Prop where
  hd : A.handled = none
  dp : A.depth + 3 * k + 5 < recursionLimit
  un : A.units + 16 * k + 200 < cLine
theorem Room.mono {j k : Nat} {A : Around} (r : Room k A) (h : j ≤ k) : Room j A := ⟨r.hd, by have := r.dp; omega, by have := r.un; omega⟩
theorem Room.deeper {k : Nat} {A : Around} (r : Room (k + 1) A) (env : Env) : Room k (A.deeper env) :=
  ⟨r.hd, by have := r.dp; show A.depth + 1 + 3 * k + 5 < _; omega, by have := r.un; show A.units + 3 + 16 * k + 200 < _; omega⟩
theorem Room.in1 {k : Nat} {A : Around} (r : Room (k + 1) A) : Room k A.in1 :=
  ⟨r.hd, by have := r.dp; show A.depth + 3 * k + 5 < _; omega, by have := r.un; show A.units + 1 + 16 * k + 200 < _; omega⟩
theorem Room.depth {k : Nat} {A : Around} (r : Room k A) : A.depth < recursionLimit := by have := r.dp; omega
theorem Room.units {k : Nat} {A : Around} (r : Room k A) : A.units + 64 < cLine := by have := r.un; omega
def tNil : TA := fun _ H Q => Q [] H
def tCons (ta : TE) (tr : TA) : TA := fun σ H Q => ta σ H fun x H1 => tr σ H1 fun xs H2 => Q (x :: xs) H2
section
variable {X : Cx} {e : Expr} {es : List Expr} {te : TE} {t : TA} {pos : Pos}
theorem pa_nil : PA X [] tNil := fun _ _ _ _ H Q I h => Calls.spliced_nil ⟨[], H, I, .nil, h⟩
theorem pa_cons (ha : PE X e te) (hr : PA X es t) (hs : starEach (e :: es) X.env = (false, eval e X.env) :: starEach es X.env := by rfl) : PA X (e :: es) (tCons te t) := by
  intro pos pins s σ H Q I h
  rw [hs]
  show wpAny _ _ (spliced ((false, eval e X.env) :: backTo pos (starEach es X.env))) _ _ s
  refine Calls.spliced_cons (thn (ha pins s σ H _ I h) fun u s1 ⟨x, H1, I1, r1, q1⟩ => ?_)
  exact thn (hr pos pins s1 σ H1 _ I1 q1) fun us s2 ⟨xs, H2, I2, r2, q2⟩ => ⟨x :: xs, H2, I2, .cons r1 r2, q2⟩
def tTup (t : TA) : TE := fun σ H Q => t σ H fun xs H1 => xs.length ≤ sizeLine ∧ ∀ p, H1 p = none → Q (.ref p) (upd H1 p (.tup xs))
def tLst (t : TA) : TE := fun σ H Q => t σ H fun xs H1 => xs.length ≤ sizeLine ∧ ∀ p, H1 p = none → Q (.ref p) (upd H1 p (.lst xs))
theorem pe_tup {x1} (h : PA X es t) : PE X (.Tuple es x1 pos) (tTup t) := by
  intro pins s σ H Q I hq
  refine wpAny_Tuple_spliced (thn (h pos pins s σ H _ I hq) fun us s1 ⟨xs, H1, I1, r, z, q⟩ => ⟨by rw [← r.length]; exact z, ?_⟩)
  have hf : H1 s1.heap.objs.size = none := I1.hok.fresh (Nat.le_refl _)
  refine ⟨.ref s1.heap.objs.size, upd H1 s1.heap.objs.size (.tup xs), I1.laid (t' := s1.toks) (fun b u e => Heap.get?_push_of_some _ e) (Nat.le_refl _) ?_, rfl, q _ hf⟩
  exact ⟨z, us, r, ⟨_, Heap.get?_push_size _ rfl, rfl, _, rfl⟩⟩
theorem pe_lst (h : PA X es t) : PE X (.List es pos) (tLst t) := by
  intro pins s σ H Q I hq
  refine wpAny_List_spliced (thn (h pos pins s σ H _ I hq) fun us s1 ⟨xs, H1, I1, r, z, q⟩ => ⟨by rw [← r.length]; exact z, ?_⟩)
  have hf : H1 s1.heap.objs.size = none := I1.hok.fresh (Nat.le_refl _)
  refine ⟨.ref s1.heap.objs.size, upd H1 s1.heap.objs.size (.lst xs), I1.laid (t' := s1.toks) (fun b u e => Heap.get?_push_of_some _ e) (Nat.le_refl _) ?_, rfl, q _ hf⟩
  exact ⟨z, us, 0, r, Heap.get?_push_size _ rfl⟩
end
abbrev Sp := List V → Hp → VK → XK → Prop
abbrev CXT := List Env → Hp → Shared → XK → Value → Shared → Prop
structure Env0 (P : Program) (w : World) (K : PySem.W.Frag) (mg : Str → Option Value) (base : Heap) (A : Around) (outer : List Env) (s : Shared) (H : Hp) : Prop where
  frames : A.frames = some outer
  mod : Mod K mg base
  bs : ∀ b o, base.get? b = some o → s.heap.get? b = some o ∧ H b = none
  bsz : base.objs.size ≤ s.heap.objs.size
  funs : s.heap.FunFrames base outer
  frf : ∀ b ∈ frs outer, H b = none
  hok : HOk P w H s.heap
  bare : AllBare s.gens
def CE (outer : List Env) (P : Program) (w : World) (H : Hp) (s : Shared) (Q : VK) (u : Value) (s' : Shared) : Prop :=
  ∃ v H', s'.os = s.os ∧ AllBare s'.gens ∧ Un (frs outer) [] H H' s.heap s'.heap ∧ HOk P w H' s'.heap ∧ RelV v u ∧ Q v H'
def CR (CX : CXT) (outer : List Env) (P : Program) (w : World) (H : Hp) (s : Shared) (Q : VK) (E : XK) (r : Result) (s' : Shared) : Prop :=
  match r with
  | .ok (.ret u) => CE outer P w H s Q u s'
  | .ok _ => False
  | .error e => CX outer H s E e s'
structure FnOk (P : Program) (w : World) (K : PySem.W.Frag) (mg : Str → Option Value) (base : Heap) (CX : CXT) (k : Nat) (f : Addr) (fd : FuncData) (ps : List Str) (sp : Sp) : Prop where
  len : ∀ vs H Q E, sp vs H Q E → vs.length = ps.length
  run : ∀ (A : Around) (outer : List Env) (s : Shared) (H : Hp) (args : Args) (us : List Value) (vs : List V) (Q : VK) (E : XK), Room k A → Env0 P w K mg base A outer s H → BindsTo s fd args (ps.zip us) → Vals vs us → sp vs H Q E →
    codeAny (model P w) A (.call (.ref f) args) (CR CX outer P w H s Q E) s
theorem FnOk.mono {P : Program} {w : World} {K : PySem.W.Frag} {mg : Str → Option Value} {base : Heap} {CX : CXT} {j k : Nat} {f : Addr} {fd : FuncData} {ps : List Str} {sp : Sp} (F : FnOk P w K mg base CX j f fd ps sp) (h : j ≤ k) :
    FnOk P w K mg base CX k f fd ps sp := ⟨F.len, fun A outer s H args us vs Q E hr => F.run A outer s H args us vs Q E (hr.mono h)⟩
theorem FnOk.imp {P : Program} {w : World} {K : PySem.W.Frag} {mg : Str → Option Value} {base : Heap} {CX : CXT} {k : Nat} {f : Addr} {fd : FuncData} {ps : List Str} {sp sp' : Sp} (F : FnOk P w K mg base CX k f fd ps sp)
    (h : ∀ vs H Q E, sp' vs H Q E → sp vs H Q E) : FnOk P w K mg base CX k f fd ps sp' :=
  ⟨fun vs H Q E q => F.len vs H Q E (h _ _ _ _ q), fun A outer s H args us vs Q E hr he hb hv hs => F.run A outer s H args us vs Q E hr he hb hv (h _ _ _ _ hs)⟩
theorem Env0.in1 {P : Program} {w : World} {K : PySem.W.Frag} {mg : Str → Option Value} {base : Heap} {A : Around} {outer : List Env} {s : Shared} {H : Hp} (e : Env0 P w K mg base A outer s H) :
    Env0 P w K mg base A.in1 outer s H := ⟨e.frames, e.mod, e.bs, e.bsz, e.funs, e.frf, e.hok, e.bare⟩
section
variable {X : Cx} {pins : List (Addr × Obj)} {σ : St} {H : Hp} {s s' : Shared}
theorem Inv.env0 (I : Inv X pins σ H s) : Env0 X.prog X.w X.K X.mg X.base X.A X.stack s H :=
  ⟨I.ok.frames, I.ok.mod, I.bs, Nat.le_trans I.ok.bsz I.sz, I.stack, I.stkFree, I.hok, I.bare⟩
theorem Inv.after {Q : VK} {u : Value} (I : Inv X pins σ H s) (h : CE X.stack X.prog X.w H s Q u s') : EP X pins σ Q u s' := by
  obtain ⟨v, H', os, bare, un, hok, r, q⟩ := h
  obtain ⟨hh, g, d, t, os'⟩ := s'
  obtain rfl : os' = s.os := os
  exact ⟨v, H', I.call (h' := hh) (g' := g) (d' := d) (t' := t) (ch := []) un hok bare (fun b z => absurd z (by simp)), r, q⟩
end
def tCall (sp : Sp) (dvs : List V) (E : XK) (t : TA) : TE := fun σ H Q => t σ H fun vs H1 => sp (vs ++ dvs) H1 Q E
def tMeth (C : Addr) (m : Str) (sp : Sp) (dvs : List V) (E : XK) (ta : TE) (t : TA) : TE := fun σ H Q => ta σ H fun x H1 => ∃ a dx fs, x = .ref a ∧ H1 a = some (.ins C dx fs) ∧ fs.lookup m = none ∧
  t σ H1 fun vs H2 => sp (x :: (vs ++ dvs)) H2 Q E
def tMake (C : Addr) (sp : Sp) (dvs : List V) (E : XK) (t : TA) : TE := fun σ H Q => t σ H fun vs H1 => ∀ x dx, H1 x = none → H1 dx = none → dx ≠ x →
  sp (.ref x :: (vs ++ dvs)) (upd (upd H1 dx (.own x)) x (.ins C dx [])) (fun v H2 => v = .non ∧ Q (.ref x) H2) E
def Binds (K : PySem.W.Frag) (fd : FuncData) (ps : List Str) (ds : List Value) : Prop :=
  ∀ (s : Shared) (us : List Value), K.In s.heap → (us ++ ds).length = ps.length → BindsTo s fd ⟨us, []⟩ (ps.zip (us ++ ds))
theorem Binds.all {K : PySem.W.Frag} {fd : FuncData} {ps : List Str} (h : ∀ us : List Value, us.length = ps.length → bindArgs fd ⟨us, []⟩ = pure (ps.zip us)) : Binds K fd ps [] := fun s us _ hl => by
  rw [List.append_nil] at hl ⊢
  exact .of_eq (h us hl)
def Passes (CX : CXT) (X : Cx) (E : XK) : Prop := ∀ (pins : List (Addr × Obj)) (σ : St) (H : Hp) (s : Shared) (e : Value) (s' : Shared), Inv X pins σ H s → CX X.stack H s E e s' → X.xe e s'
section
variable {X : Cx} {CX : CXT} {k : Nat} {f C : Addr} {fd : FuncData} {ps : List Str} {sp : Sp} {dvs : List V} {ds : List Value} {E : XK} {x m : Str} {p pos apos : Pos} {e o : Expr} {es : List Expr} {ta : TE} {t : TA}
theorem run_fn {pins : List (Addr × Obj)} {σ : St} {H : Hp} {s : Shared} {Q : VK} {us : List Value} {vs : List V} (F : FnOk X.prog X.w X.K X.mg X.base CX k f fd ps sp) (hr : Room k X.A) (hb : Binds X.K fd ps ds) (hd : Vals dvs ds) (hx : Passes CX X E)
    (I : Inv X pins σ H s) (r : Vals vs us) (h : sp (vs ++ dvs) H Q E) : wpAny (model X.prog X.w) X.A (call (.ref f) us) (EP X pins σ Q) X.xe s := by
  have r2 : Vals (vs ++ dvs) (us ++ ds) := r.append hd
  have hl : (us ++ ds).length = ps.length := by rw [← r2.length]; exact F.len _ _ _ _ h
  refine wpAny_call (codeAny_mono (F.run X.A X.stack s H ⟨us, []⟩ (us ++ ds) (vs ++ dvs) Q E hr I.env0 (hb s us I.kIn hl) r2 h) fun r s' hq => ?_)
  cases r with
  | error e => exact hx pins σ H s e s' I hq
  | ok fl =>
    cases fl with
    | ret u => exact I.after hq
    | next => exact False.elim hq
    | brk => exact False.elim hq
    | cont => exact False.elim hq
theorem pe_call (F : FnOk X.prog X.w X.K X.mg X.base CX k f fd ps sp) (hr : Room k X.A) (hg : Gl X x) (hm : X.mg x = some (.ref f)) (hk : PySem.W.keepIn X.K (.ref f) = true) (hb : Binds X.K fd ps ds) (hd : Vals dvs ds) (hx : Passes CX X E)
    (ha : PA X (e :: es) t) (hdb : (x == ("__debug__" : Str)) = false := by decide) (he : starEach (e :: es) X.env = (false, eval e X.env) :: starEach es X.env := by rfl) (hpl : (backTo pos (starEach es X.env)).any (·.1) = false := by rfl) :
    PE X (.Call (.Name x p) (e :: es) [] pos) (tCall sp dvs E t) := by
  intro pins s σ H Q I h
  refine wpAny_Call_Name_kw (ld_glob I hg hm ?_ hdb)
  refine PySem.W.callWith_K (h₀ := X.base) I.ok.mod.kin hk (thn (ha pos pins s σ H _ I h) fun us s1 ⟨vs, H1, I1, r, q⟩ => ⟨I1.kIn, ?_⟩) he hpl
  exact run_fn F hr hb hd hx I1 r q
structure Mk (K : PySem.W.Frag) (C f : Addr) : Prop where
  makes : PySem.W.makesIn K C = true
  init : PySem.W.findIn K (.ref C) "__init__" = some (some (.ref f))
  fn : PySem.W.isFn K (.ref f) = true
  kp : PySem.W.keepIn K (.ref C) = true
end
def PK (X : Cx) (kws : List Keyword) (t : TA) : Prop :=
  ∀ (pos : Pos) (pins : List (Addr × Obj)) (s : Shared) (σ : St) (H : Hp) (Q : List V → Hp → Prop), Inv X pins σ H s → t σ H Q → wpAny (model X.prog X.w) X.A (evalAll ((backToKw pos (keywordEach kws X.env)).map (·.2))) (AP X pins σ Q) X.xe s
section
variable {X : Cx} {CX : CXT} {k : Nat} {f C : Addr} {fd : FuncData} {ps ks : List Str} {sp : Sp} {E : XK} {x m : Str} {p pos apos kpos : Pos} {e o : Expr} {es : List Expr} {kws : List Keyword} {te ta : TE} {t tk : TA} {nm : Option Str}
structure KBinds (K : PySem.W.Frag) (fd : FuncData) (ps ks : List Str) (g : List Value → List Value → List Value) (gV : List V → List V → List V) : Prop where
  to : ∀ (s : Shared) (us ws : List Value), K.In s.heap → (g us ws).length = ps.length → BindsTo s fd ⟨us, ks.zip ws⟩ (ps.zip (g us ws))
  rel : ∀ {vs : List V} {us : List Value} {zs : List V} {ws : List Value}, Vals vs us → Vals zs ws → Vals (gV vs zs) (g us ws)
def tCallK (sp : Sp) (gV : List V → List V → List V) (E : XK) (t tk : TA) : TE := fun σ H Q => t σ H fun vs H1 => tk σ H1 fun zs H2 => sp (gV vs zs) H2 Q E
variable {g : List Value → List Value → List Value} {gV : List V → List V → List V}
end
structure FnScope (N P : List Str) (sc : Scope) : Prop where
  kind : sc.kind = .function
  co : sc.isCoroutine = false
  gen : sc.isGenerator = false
  nd : N.Nodup
  pre : N.take P.length = P
  par : ∀ x ∈ P, sc.names.lookup x = some .local ∨ sc.names.lookup x = some .cell
  nofree : ∀ y ∈ sc.names, y.2 ≠ .free
theorem bindL_out {kindOf : Str → Option NameKind} {x : Str} : ∀ {binds : List (Str × Value)} {m : Str → Option Value}, (∀ v, (x, v) ∉ binds) → bindL kindOf binds m x = m x
  | [], _, _ => rfl
  | (n, v) :: r, m, h => by
    unfold bindL
    rw [bindL_out fun w hw => h w (List.mem_cons_of_mem _ hw)]
    split
    · have : x ≠ n := by rintro rfl; exact h v List.mem_cons_self
      simp [this]
    · rfl
theorem bindC_out {kindOf : Str → Option NameKind} {x : Str} : ∀ {binds : List (Str × Value)} {m : Str → Option Value}, (∀ v, (x, v) ∉ binds) → bindC kindOf binds m x = m x
  | [], _, _ => rfl
  | (n, v) :: r, m, h => by
    unfold bindC
    rw [bindC_out fun w hw => h w (List.mem_cons_of_mem _ hw)]
    split
    · rfl
    · have : x ≠ n := by rintro rfl; exact h v List.mem_cons_self
      simp [this]
theorem bindL_get {kindOf : Str → Option NameKind} {x : Str} {v : Value} : ∀ {P : List Str} {vs : List Value} {i : Nat} {m : Str → Option Value}, P.Nodup → P[i]? = some x → vs[i]? = some v → kindOf x = some .local →
    bindL kindOf (P.zip vs) m x = some v
  | [], _, _, _, _, h, _, _ => by simp at h
  | _ :: _, [], _, _, _, _, h, _ => by simp at h
  | p :: P, w :: vs, 0, m, nd, h1, h2, hk => by
    simp at h1 h2; subst h1; subst h2
    show bindL kindOf ((p, w) :: P.zip vs) m p = _
    unfold bindL
    rw [bindL_out fun v hv => (List.nodup_cons.mp nd).1 (List.of_mem_zip hv).1, if_pos hk]
    simp
  | p :: P, w :: vs, i + 1, m, nd, h1, h2, hk => by
    show bindL kindOf ((p, w) :: P.zip vs) m x = _
    unfold bindL
    exact bindL_get (i := i) (List.nodup_cons.mp nd).2 (by simpa using h1) (by simpa using h2) hk
theorem bindC_get {kindOf : Str → Option NameKind} {x : Str} {v : Value} : ∀ {P : List Str} {vs : List Value} {i : Nat} {m : Str → Option Value}, P.Nodup → P[i]? = some x → vs[i]? = some v → kindOf x ≠ some .local →
    bindC kindOf (P.zip vs) m x = some v
  | [], _, _, _, _, h, _, _ => by simp at h
  | _ :: _, [], _, _, _, _, h, _ => by simp at h
  | p :: P, w :: vs, 0, m, nd, h1, h2, hk => by
    simp at h1 h2; subst h1; subst h2
    show bindC kindOf ((p, w) :: P.zip vs) m p = _
    unfold bindC
    rw [bindC_out fun v hv => (List.nodup_cons.mp nd).1 (List.of_mem_zip hv).1, if_neg hk]
    simp
  | p :: P, w :: vs, i + 1, m, nd, h1, h2, hk => by
    show bindC kindOf ((p, w) :: P.zip vs) m x = _
    unfold bindC
    exact bindC_get (i := i) (List.nodup_cons.mp nd).2 (by simpa using h1) (by simpa using h2) hk
def start (N : List Str) (vs : List V) : St := vs.map some ++ List.replicate (N.length - vs.length) none
def cxOf (CX : CXT) (P : Program) (w : World) (K : PySem.W.Frag) (mg : Str → Option Value) (base : Heap) (N : List Str) (qual : Str) (scope : Scope) (f : Addr) (cd : Value) (A : Around) (outer : List Env) (s : Shared) (H : Hp) (E : XK) : Cx where
  prog := P
  w := w
  K := K
  mg := mg
  base := base
  A := A.deeper (envOfC qual scope s.heap.objs.size f cd)
  N := N
  s₀ := s
  H₀ := H
  env := envOfC qual scope s.heap.objs.size f cd
  outer := outer
  stack := envOfC qual scope s.heap.objs.size f cd :: outer
  ex := []
  calm := true
  fn := fun _ => true
  pn := []
  xe := fun e s' => wpAny (model P w) (A.deeper (envOfC qual scope s.heap.objs.size f cd)) (leaving (envOfC qual scope s.heap.objs.size f cd) e) (fun _ s'' => CX outer H s E e s'') (fun e' s'' => CX outer H s E e' s'') s'
theorem cell_has {sc : Scope} {n : Nat} {x : Str} (h : sc.names.lookup x = some .cell) : ∃ c, (cellsFrom n sc.names []).lookup x = some c := by
  have q := PySem.W.cellsFrom_some sc.names n [] (.inl h)
  exact Option.isSome_iff_exists.mp q
theorem inv_start {CX : CXT} {P : Program} {w : World} {K : PySem.W.Frag} {mg : Str → Option Value} {base : Heap} {N ps : List Str} {qual : Str} {scope : Scope} {f : Addr} {cd : Value} {A : Around} {outer : List Env} {s s1 : Shared} {H : Hp} {E : XK} {us : List Value} {vs : List V}
    (S : FnScope N ps scope) (hd : A.handled = none) (e0 : Env0 P w K mg base A outer s H) (hl : vs.length = ps.length) (r : Vals vs us)
    (x : InCallC s s.heap.objs.size (bindL (envOfC qual scope s.heap.objs.size f cd).kindOf (ps.zip us) fun _ => none) (cellsFrom (s.heap.objs.size + 1) scope.names []) (bindC (envOfC qual scope s.heap.objs.size f cd).kindOf (ps.zip us) fun _ => none) s1) :
    Inv (cxOf CX P w K mg base N qual scope f cd A outer s H E) [] (start N vs) H s1 := by
  have hpl : ps.length ≤ N.length := by have := congrArg List.length S.pre; rw [List.length_take] at this; omega
  obtain ⟨h1, tk, rfl, hk⟩ := x.done
  have noA : ∀ b : Addr, b ∉ (cxOf CX P w K mg base N qual scope f cd A outer s H E).ex := fun b z => absurd (show b ∈ ([] : List Addr) from z) (by simp)
  refine ⟨⟨e0.mod, S.kind, rfl, rfl, Nat.le_refl _, fun y z c h1 h2 => ?_, fun y hy => ?_, fun y c _ h => ?_, fun _ => hd, Around.frames_deeper e0.frames, .inr ⟨rfl, rfl⟩, fun b z => absurd z (noA b), e0.bs, e0.bsz, fun b _ _ => noA b, fun b z => absurd z (noA b), e0.funs, e0.frf⟩,
    rfl, e0.bare, Un.kept hk, ⟨_, x.toInCall.ns, fun i y v h1 h2 h3 => ?_⟩, fun y c h => ⟨_, x.cell y c h⟩, e0.hok.fresh (Nat.le_refl _), fun y c h => ?_, fun p hp => absurd (show p ∈ ([] : List (Addr × Obj)) from hp) (by simp), e0.hok.kept hk, ?_⟩
  · exact name_of_addr x.apart (PySem.mem_of_lookup h1) (PySem.mem_of_lookup h2)
  · have hy : scope.names.lookup y = some .cell ∨ scope.names.lookup y = some .free := hy
    rcases hy with hy | hy
    · exact cell_has hy
    · exact absurd rfl (S.nofree _ (PySem.mem_of_lookup hy))
  · exact Nat.le_of_lt (x.above y c (PySem.mem_of_lookup h))
  · have hi : i < vs.length := by
      unfold start at h2
      by_cases hi : i < vs.length
      · exact hi
      · rw [List.getElem?_append_right (by simpa using hi)] at h2
        rw [List.getElem?_replicate] at h2
        split at h2 <;> cases h2
    have ha : vs[i]? = some v := by
      unfold start at h2
      rw [List.getElem?_append_left (by simpa using hi), List.getElem?_map] at h2
      cases e : vs[i]? with
      | none => rw [e] at h2; cases h2
      | some a => rw [e] at h2; cases h2; rfl
    obtain ⟨u, hu, rv⟩ := r.get ha
    have hp : ps[i]? = some y := by
      rw [← S.pre, List.getElem?_take_of_lt (by omega)]; exact h1
    have ndP : ps.Nodup := by rw [← S.pre]; exact S.nd.sublist (List.take_sublist _ _)
    refine ⟨u, rv, ?_⟩
    rcases S.par y (List.mem_of_getElem? hp) with k | k
    · exact .inl ⟨k, bindL_get ndP hp hu k⟩
    · obtain ⟨c, e⟩ := cell_has (n := s.heap.objs.size + 1) k
      refine .inr ⟨.inl k, c, e, ?_⟩
      have q := x.cell y c e
      rw [bindC_get ndP hp hu (by show scope.names.lookup y ≠ _; rw [k]; decide)] at q
      exact q
  · exact e0.hok.fresh (Nat.le_of_lt (x.above y c (PySem.mem_of_lookup h)))
  · unfold start
    show _ = N.length
    rw [List.length_append, List.length_map, List.length_replicate]
    omega
theorem fn_of {CX : CXT} {P : Program} {w : World} {K : PySem.W.Frag} {mg : Str → Option Value} {base : Heap} {k : Nat} {f : Addr} {name qual : Str} {params : Arguments} {body : List Stmt} {scope : Scope} {dV kV doc pm cdv ct oc : Value} {an od : Option Addr}
    {osl : Array (Option Value)} {N ps : List Str} {sp : Sp} (lk : K.lookup f = some ⟨oc, od, .func (PySem.W.fnOf name qual params body scope dV kV doc pm an cdv ct), osl⟩) (hcd : PySem.W.codeIn K cdv qual = true) (S : FnScope N ps scope)
    (len : ∀ vs H Q E, sp vs H Q E → vs.length = ps.length)
    (hbody : ∀ (A : Around) (outer : List Env) (s : Shared) (H : Hp) (vs : List V) (Q : VK) (E : XK), Room k (A.deeper (envOfC qual scope s.heap.objs.size f cdv)) → sp vs H Q E →
      ∃ t, PSs (cxOf CX P w K mg base N qual scope f cdv A outer s H E) body t ∧ t { nx := fun _ H' => Q .non H', rt := Q } (start N vs) H) :
    FnOk P w K mg base CX (k + 1) f (PySem.W.fnOf name qual params body scope dV kV doc pm an cdv ct) ps sp := by
  refine ⟨len, fun A outer s H args us vs Q E hr e0 hb r hsp => ?_⟩
  have hl := len _ _ _ _ hsp
  have KX : K.In s.heap := e0.mod.kin.keeps fun b o e => (e0.bs b o e).1
  have lim : s.heap.NoLimit := e0.mod.nolimit.keeps fun b o e => (e0.bs b o e).1
  have hkind : ∀ y ∈ ps.zip us, scope.names.lookup y.1 = some .local ∨ (scope.names.lookup y.1 = some .cell ∧ ((cellsFrom (s.heap.objs.size + 1) scope.names []).lookup y.1).isSome = true) := fun ⟨n, v⟩ hy => by
    rcases S.par n (List.of_mem_zip hy).1 with q | q
    · exact .inl q
    · exact .inr ⟨q, PySem.W.cellsFrom_some _ _ _ (.inl q)⟩
  refine codeAny_call_function hr.depth (KX _ _ lk) rfl S.co S.gen rfl (PySem.W.codeRec_of KX hcd) (hb _ _ _ _ ?_)
  refine wpAny_newFunctionEnv_cells S.kind hkind fun env he s1 x => ?_
  subst he
  refine ⟨lim.keeps x.toInCall.keep, codeAny_func ?_⟩
  obtain ⟨t, ht, hq⟩ := hbody A outer s H vs Q E (hr.deeper _) hsp
  have I : Inv (cxOf CX P w K mg base N qual scope f cdv A outer s H E) [] (start N vs) H s1 := inv_start S hr.hd e0 hl r x
  refine wpAny_mono (ht [] s1 (start N vs) H _ I hq) (fun fl s' hs => ?_) fun e s' hs => hs
  have fin : ∀ {σ' : St} {H' : Hp} {v : V} {u : Value}, Inv (cxOf CX P w K mg base N qual scope f cdv A outer s H E) [] σ' H' s' → RelV v u → Q v H' → CE outer P w H s Q u s' :=
    fun {σ' H' v u} J rv q => ⟨v, H', J.os, J.bare, J.base, J.hok, rv, q⟩
  cases fl with
  | ret u =>
    obtain ⟨v, σ', H', J, rv, q⟩ := hs
    exact fin J rv q
  | next =>
    obtain ⟨σ', H', J, q⟩ := hs
    exact fin (v := V.non) (u := Value.none) J rfl q
  | brk =>
    obtain ⟨_, _, _, q⟩ := hs
    exact False.elim q
  | cont =>
    obtain ⟨_, _, _, q⟩ := hs
    exact False.elim q
end L2
namespace L2
open PySem PySem.Spec PyProof.Rows
section
variable {X : Cx} {x : Str} {p pos : Pos} {e : Expr} {es : List Expr} {t : TA} {id T : String} {r : List V → Hp → VK → Prop}
def tCB (r : List V → Hp → VK → Prop) (t : TA) : TE := fun σ H Q => t σ H fun vs H1 => r vs H1 Q
theorem pe_callB (hc : CallR X (.builtin id) r) (hg : Gl X x) (hm : X.mg x = none) (hv : bootBuiltins x = some (.builtin id)) (ha : PA X (e :: es) t) (hn : x ≠ "__name__" := by decide) (hdb : (x == ("__debug__" : Str)) = false := by decide)
    (he : starEach (e :: es) X.env = (false, eval e X.env) :: starEach es X.env := by rfl) (hpl : (backTo pos (starEach es X.env)).any (·.1) = false := by rfl) : PE X (.Call (.Name x p) (e :: es) [] pos) (tCB r t) := by
  intro pins s σ H Q I h
  refine wpAny_Call_Name_kw (ld_blt I hg hm hv ?_ hn hdb)
  exact PyProof.Rows.callWith_builtin1 (thn (ha pos pins s σ H _ I h) fun us s1 ⟨vs, H1, I1, r1, q1⟩ => hc pins s1 σ H1 vs us Q I1 r1 q1) he hpl
theorem pe_callTy (hc : CallR X (.type T) r) (hg : Gl X x) (hm : X.mg x = none) (hv : bootBuiltins x = some (.type T)) (ha : PA X (e :: es) t) (hn : x ≠ "__name__" := by decide) (hdb : (x == ("__debug__" : Str)) = false := by decide)
    (he : starEach (e :: es) X.env = (false, eval e X.env) :: starEach es X.env := by rfl) (hpl : (backTo pos (starEach es X.env)).any (·.1) = false := by rfl) : PE X (.Call (.Name x p) (e :: es) [] pos) (tCB r t) := by
  intro pins s σ H Q I h
  refine wpAny_Call_Name_kw (ld_blt I hg hm hv ?_ hn hdb)
  exact PyProof.Rows.callWith_type1 (thn (ha pos pins s σ H _ I h) fun us s1 ⟨vs, H1, I1, r1, q1⟩ => hc pins s1 σ H1 vs us Q I1 r1 q1) he hpl
end
end L2
namespace HT
open PySem PyProof.Rows
def lexLt : List Int → List Int → Bool
  | [], [] => false
  | [], _ :: _ => true
  | _ :: _, [] => false
  | x :: xs, y :: ys => if x = y then lexLt xs ys else decide (x < y)
section
open PySem.SeqAt
open PySem.AutoSeq1 (wpAny_loadPart')
open PySem.MeetsSeq PySem.MeetsSeq2 PySem.MeetsSeq3
end
section
variable {prog : Program} {w : World} {A : Around} {E : Value → Shared → Prop} {s : Shared}
def sIx (n d : Nat) : Option Int → Nat
  | none => d
  | some v => if v < 0 then (v + (n : Int)).toNat else min v.toNat n
theorem sIx_none (n d : Nat) : sIx n d none = d := rfl
theorem sIx_nat (n d k : Nat) : sIx n d (some (k : Int)) = min k n := by
  show (if (k : Int) < 0 then ((k : Int) + (n : Int)).toNat else min (k : Int).toNat n) = min k n
  rw [if_neg (by omega), Int.toNat_natCast]
end
end HT
namespace L2
open PySem PySem.Spec PyProof.Rows
abbrev TO := St → Hp → (Option Int → Hp → Prop) → Prop
def PO (X : Cx) (e : Option Expr) (t : TO) : Prop :=
  ∀ (pins : List (Addr × Obj)) (s : Shared) (σ : St) (H : Hp) (Q : Option Int → Hp → Prop), Inv X pins σ H s → t σ H Q →
    wpAny (model X.prog X.w) X.A (evalPart e X.env) (fun u s' => ∃ o H', Inv X pins σ H' s' ∧ IsPart u o ∧ Q o H') X.xe s
def tNoPart : TO := fun _ H Q => Q none H
def tPart (t : TE) : TO := fun σ H Q => t σ H fun x H1 => ∃ i, x = .int i ∧ Q (some i) H1
section
variable {X : Cx} {e : Expr} {te : TE} {lo hi : Option Expr} {tl th : TO} {pos p2 : Pos}
theorem po_none : PO X none tNoPart := by
  intro pins s σ H Q I h
  rw [evalPart_none]
  exact wpAny_pure ⟨none, H, I, .none, h⟩
theorem po_some (h : PE X e te) : PO X (some e) (tPart te) := by
  intro pins s σ H Q I hw
  rw [evalPart_some]
  refine thn (h pins s σ H _ I hw) fun u s1 ⟨x, H1, I1, r1, q1⟩ => ?_
  obtain ⟨i, rfl, q⟩ := q1
  obtain ⟨t, rfl⟩ := r1
  exact ⟨some i, H1, I1, .int i t, q⟩
def SlR (X : Cx) (r : V → Option Int → Option Int → Hp → VK → Prop) : Prop :=
  ∀ (pins : List (Addr × Obj)) (s : Shared) (σ : St) (H : Hp) (x : V) (v vl vu : Value) (lo hi : Option Int) (sl : Addr) (Q : VK), Inv X pins σ H s → RelV x v → s.heap.IsSliceOf sl vl vu .none → IsPart vl lo → IsPart vu hi → r x lo hi H Q →
    ∃ T id, typeLookup (.type T) "__getitem__" = pure (some (.builtin id)) ∧ s.TypeIs v T ∧ wpAny (model X.prog X.w) X.A (getItem v (.ref sl)) (EP X pins σ Q) X.xe s
theorem SlR.or {r r' : V → Option Int → Option Int → Hp → VK → Prop} (h : SlR X r) (h' : SlR X r') : SlR X (fun x lo hi H Q => r x lo hi H Q ∨ r' x lo hi H Q) := by
  intro pins s σ H x v vl vu lo hi sl Q I rx hs pl pu q
  rcases q with q | q
  · exact h pins s σ H x v vl vu lo hi sl Q I rx hs pl pu q
  · exact h' pins s σ H x v vl vu lo hi sl Q I rx hs pl pu q
def tSl (r : V → Option Int → Option Int → Hp → VK → Prop) (te : TE) (tl th : TO) : TE := fun σ H Q => te σ H fun x H1 => tl σ H1 fun l H2 => th σ H2 fun u H3 => r x l u H3 Q
theorem pe_slice {r : V → Option Int → Option Int → Hp → VK → Prop} (hr : SlR X r) (he : PE X e te) (hl : PO X lo tl) (hu : PO X hi th) : PE X (.Subscript e (.Slice lo hi none p2) pos) (tSl r te tl th) := by
  intro pins s σ H Q I h
  refine Subscript_ (thn (he pins s σ H _ I h) fun v s1 ⟨x, H1, I1, r1, q1⟩ => ?_)
  refine wpAny_Slice (thn (hl pins s1 σ H1 _ I1 q1) fun vl s2 ⟨l, H2, I2, pl, q2⟩ => thn (hu pins s2 σ H2 _ I2 q2) fun vu s3 ⟨u, H3, I3, pu, q3⟩ => ?_)
  rw [evalPart_none]
  refine wpAny_pure ?_
  have I4 : Inv X pins σ H3 { s3 with heap := s3.heap.push { cls := .type "slice", data := .fields #[vl, vu, .none] } } := I3.kept (t' := s3.toks) fun b ob q => Heap.get?_push_of_some _ q
  obtain ⟨T, id, hT, ht, hg⟩ := hr pins { s3 with heap := s3.heap.push { cls := .type "slice", data := .fields #[vl, vu, .none] } } σ H3 x v vl vu l u s3.heap.objs.size Q I4 r1 (Heap.IsSliceOf.new ..) pl pu q3
  show wpAny (model X.prog X.w) X.A (subscriptTail e (.Slice lo hi none p2) v (.ref s3.heap.objs.size)) (EP X pins σ Q) X.xe { s3 with heap := s3.heap.push { cls := .type "slice", data := .fields #[vl, vu, .none] } }
  exact tail_any (ops := [.ref s3.heap.objs.size, v]) ht hT hg (by with_unfolding_all rfl)
def cutV (xs : List V) (lo hi : Option Int) : List V := (xs.drop (HT.sIx xs.length 0 lo)).take (HT.sIx xs.length xs.length hi - HT.sIx xs.length 0 lo)
theorem cutV_length (xs : List V) (lo hi : Option Int) : (cutV xs lo hi).length ≤ xs.length := by
  unfold cutV
  rw [List.length_take, List.length_drop]
  omega
def rSlT (K : PySem.W.Frag) : V → Option Int → Option Int → Hp → VK → Prop := fun x lo hi H Q => ∃ a xs, x = .ref a ∧ SqT K H a xs ∧
  ¬ (HT.sIx xs.length 0 lo = 0 ∧ HT.sIx xs.length xs.length hi = xs.length) ∧ ∀ p, H p = none → Q (.ref p) (upd H p (.tup (cutV xs lo hi)))
def rLtT (K : PySem.W.Frag) : R2 := fun x y H Q => ∃ a b ns ms, x = .ref a ∧ y = .ref b ∧ SqT K H a (ns.map V.int) ∧ SqT K H b (ms.map V.int) ∧ Q (.bl (HT.lexLt ns ms)) H
def rCatT (K : PySem.W.Frag) : R2 := fun x y H Q => ∃ a b xs ys, x = .ref a ∧ y = .ref b ∧ SqT K H a xs ∧ SqT K H b ys ∧ xs ≠ [] ∧ xs.length + ys.length ≤ sizeLine ∧
  (ys = [] → Q (.ref a) H) ∧ (ys ≠ [] → ∀ p, H p = none → Q (.ref p) (upd H p (.tup (xs ++ ys))))
end
end L2
namespace L2
open PySem PySem.Spec PyProof.Rows
def ixN (n : Nat) (i : Int) : Option Nat := if 0 ≤ i then (if i < n then some i.toNat else none) else if -(n : Int) ≤ i then some (i + n).toNat else none
def atI {α : Type} (xs : List α) (i : Int) : Option α := (ixN xs.length i).bind fun j => xs[j]?
theorem ixN_seq {n : Nat} {i : Int} {j : Nat} (h : ixN n i = some j) : seqIndex? i n = some j ∧ j < n ∧ -(n : Int) ≤ i ∧ i < n := by
  unfold ixN at h
  by_cases h0 : 0 ≤ i
  · rw [if_pos h0] at h
    by_cases h1 : i < n
    · rw [if_pos h1] at h
      have e : i.toNat = j := Option.some.inj h
      exact ⟨by rw [seqIndex_of h0 h1, e], by omega, by omega, h1⟩
    · rw [if_neg h1] at h; cases h
  · rw [if_neg h0] at h
    by_cases h1 : -(n : Int) ≤ i
    · rw [if_pos h1] at h
      have e : (i + n).toNat = j := Option.some.inj h
      exact ⟨by rw [seqIndex_neg (by omega) h1, e], by omega, h1, by omega⟩
    · rw [if_neg h1] at h; cases h
theorem atI_get {α : Type} {xs : List α} {i : Int} {v : α} (h : atI xs i = some v) : ∃ j, seqIndex? i xs.length = some j ∧ xs[j]? = some v ∧ j < xs.length ∧ -(xs.length : Int) ≤ i ∧ i < xs.length := by
  unfold atI at h
  cases e : ixN xs.length i with
  | none => rw [e] at h; cases h
  | some j =>
    rw [e] at h
    obtain ⟨h1, h2, h3, h4⟩ := ixN_seq e
    exact ⟨j, h1, h, h2, h3, h4⟩
theorem atI_nat {α : Type} {xs : List α} {j : Nat} {v : α} (h : xs[j]? = some v) : atI xs (j : Int) = some v := by
  have hj : j < xs.length := (List.getElem?_eq_some_iff.mp h).1
  have e : ixN xs.length (j : Int) = some j := by
    unfold ixN
    rw [if_pos (by omega), if_pos (by omega)]; simp
  unfold atI; rw [e]; exact h
def PlainIx (b : Expr) : Prop := ∀ o i, subscripted b false o i = operate [o, i] (getItem o i)
def IxR (X : Cx) (r : R2) : Prop :=
  ∀ (value slice : Expr) (pins : List (Addr × Obj)) (s : Shared) (σ : St) (H : Hp) (x y : V) (v u : Value) (Q : VK), Inv X pins σ H s → RelV x v → RelV y u → r x y H Q →
    subscripted slice false v u = operate [v, u] (getItem v u) → wpAny (model X.prog X.w) X.A (subscriptTail value slice v u) (EP X pins σ Q) X.xe s
def MtR (X : Cx) (id : String) (r : V → List V → Hp → VK → Prop) : Prop :=
  ∀ (pins : List (Addr × Obj)) (s : Shared) (σ : St) (H : Hp) (x : V) (xs : List V) (v : Value) (us : List Value) (Q : VK), Inv X pins σ H s → RelV x v → Vals xs us → r x xs H Q →
    wpAny (model X.prog X.w) X.A (call (.builtin id) (v :: us)) (EP X pins σ Q) X.xe s
section
variable {X : Cx} {a b : Expr} {ta tb : TE} {pos : Pos}
theorem IxR.or {r r' : R2} (h : IxR X r) (h' : IxR X r') : IxR X (fun x y H Q => r x y H Q ∨ r' x y H Q) := by
  intro value slice pins s σ H x y v u Q I rx ry q hs
  rcases q with q | q
  · exact h value slice pins s σ H x y v u Q I rx ry q hs
  · exact h' value slice pins s σ H x y v u Q I rx ry q hs
theorem MtR.or {id : String} {r r' : V → List V → Hp → VK → Prop} (h : MtR X id r) (h' : MtR X id r') : MtR X id (fun x xs H Q => r x xs H Q ∨ r' x xs H Q) := by
  intro pins s σ H x xs v us Q I rx rs q
  rcases q with q | q
  · exact h pins s σ H x xs v us Q I rx rs q
  · exact h' pins s σ H x xs v us Q I rx rs q
theorem pe_ix {r : R2} (hr : IxR X r) (ha : PE X a ta) (hb : PE X b tb) (hs : PlainIx b) : PE X (.Subscript a b pos) (tOp r ta tb) := by
  intro pins s σ H Q I h
  exact Subscript_ (binT ha hb I h fun v u s2 x y H2 I2 rx ry q => hr a b pins s2 σ H2 x y v u Q I2 rx ry q (hs _ _))
def rIxL (K : PySem.W.Frag) : R2 := fun x y H Q => ∃ p xs i v, x = .ref p ∧ y = .int i ∧ SqL K H p xs ∧ atI xs i = some v ∧ Q v H
def rIxT (K : PySem.W.Frag) : R2 := fun x y H Q => ∃ p xs i v, x = .ref p ∧ y = .int i ∧ SqT K H p xs ∧ atI xs i = some v ∧ Q v H
def rIxS : R2 := fun x y H Q => ∃ z i c, x = .str z ∧ y = .int i ∧ z.length ≤ sizeLine ∧ atI z.cps.toList i = some c ∧ Q (.str ⟨#[c]⟩) H
theorem ix_list : IxR X (rIxL X.K) := by
  intro value slice pins s σ H x y v u Q I rx ry h hs
  obtain ⟨p, xs, i, z, rfl, rfl, hq, he, q⟩ := h
  cases rx
  obtain ⟨t, rfl⟩ := ry
  obtain ⟨its, r, pl, hz⟩ := I.list hq
  obtain ⟨j, h1, h2, h3, h4, h5⟩ := atI_get he
  obtain ⟨w, ew, rw'⟩ := r.get h2
  have hl := r.length
  have hn := line63
  have fin : EP X pins σ Q w s := ⟨z, H, I, rw', q⟩
  by_cases h0 : 0 ≤ i
  · have hj : i.toNat = j := by
      rw [seqIndex_of h0 h5] at h1
      exact Option.some.inj h1
    exact item_listR pl.isList h0 (by omega) (by rw [hj]; simpa using ew) fin hs
  · have hj : (i + (its.toArray.size : Int)).toNat = j := by
      rw [seqIndex_neg (by omega) h4] at h1
      rw [List.size_toArray, ← hl]
      exact Option.some.inj h1
    exact subscriptTail_builtinR (x := w) pl.isList.typeIs slot_list_getitem.lookup
      (wpAny_getItem_list_neg (Q := fun r s' => r = w ∧ EP X pins σ Q r s') pl.isList (by omega) (by rw [List.size_toArray] <;> omega) (by omega) (by rw [hj]; simpa using ew) ⟨rfl, fin⟩) hs
theorem ix_tup : IxR X (rIxT X.K) := by
  intro value slice pins s σ H x y v u Q I rx ry h hs
  obtain ⟨p, xs, i, z, rfl, rfl, hq, he, q⟩ := h
  cases rx
  obtain ⟨t, rfl⟩ := ry
  obtain ⟨its, r, pl, hz⟩ := I.tuple hq
  obtain ⟨j, h1, h2, h3, h4, h5⟩ := atI_get he
  obtain ⟨w, ew, rw'⟩ := r.get h2
  have hl := r.length
  have hn := line63
  have fin : EP X pins σ Q w s := ⟨z, H, I, rw', q⟩
  exact subscriptTail_builtinR (x := w) pl.typeIs slot_tuple_getitem.lookup
    (getItem_tuple (j := j) (Q := fun r s' => r = w ∧ EP X pins σ Q r s') pl (by omega) (by omega) (by rw [List.size_toArray, ← hl]; exact h1) (by simpa using ew) ⟨rfl, fin⟩) hs
theorem ix_str : IxR X rIxS := by
  intro value slice pins s σ H x y v u Q I rx ry h hs
  obtain ⟨z, i, c, rfl, rfl, hz, he, q⟩ := h
  obtain ⟨t, rfl⟩ := rx
  obtain ⟨t', rfl⟩ := ry
  obtain ⟨j, h1, h2, h3, h4, h5⟩ := atI_get he
  have hl : z.cps.toList.length = z.length := by simp [Str.length]
  rw [hl] at h1 h4 h5
  have hn := line63
  exact tail_any (typeIs_str s z t) slot_str_getitem.lookup (getItem_str (c := c) (by
    have e1 : decide (i < -(2 ^ 63 : Int)) = false := decide_eq_false (by omega)
    have e2 : decide (i ≥ 2 ^ 63) = false := decide_eq_false (by omega)
    rw [e1, e2, Bool.or_false]) (by rw [h1]; simpa using h2) ⟨.str ⟨#[c]⟩, H, I.tok _, ⟨_, rfl⟩, q⟩) hs
def rIx (K : PySem.W.Frag) : R2 := fun x y H Q => rIxL K x y H Q ∨ rIxT K x y H Q ∨ rIxS x y H Q
theorem Inv.lst {pins : List (Addr × Obj)} {σ : St} {H : Hp} {s : Shared} {p : Addr} {xs : List V} (I : Inv X pins σ H s) (h : H p = some (.lst xs)) :
    ∃ (its : List Value) (n : Nat), Vals xs its ∧ s.heap.get? p = some { cls := .type "list", data := .seq its.toArray n } ∧ xs.length ≤ sizeLine := by
  obtain ⟨z, its, n, r, e⟩ := I.hok p _ h
  exact ⟨its, n, r, e, z⟩
def rSetL : V → V → V → Hp → (Hp → Prop) → Prop := fun o i v H Q => ∃ p xs k j, o = .ref p ∧ i = .int k ∧ H p = some (.lst xs) ∧ ixN xs.length k = some j ∧ Q (upd H p (.lst (xs.set j v)))
theorem slice_bounds (lo hi : Option Int) (n : Nat) : (sliceBounds lo hi none n).1 = ((HT.sIx n 0 lo : Nat) : Int) ∧ (sliceBounds lo hi none n).2.1 = ((HT.sIx n n hi : Nat) : Int) ∧ (sliceBounds lo hi none n).2.2 = 1 := by
  refine ⟨?_, ?_, rfl⟩
  · cases lo with
    | none => simp [sliceBounds, HT.sIx]
    | some i =>
      simp only [sliceBounds, HT.sIx, Option.getD_none, show (1 : Int) > 0 by decide, if_true]
      by_cases h : i < 0
      · simp only [h, if_true] <;> omega
      · simp only [h, if_false] <;> omega
  · cases hi with
    | none => simp [sliceBounds, HT.sIx]
    | some i =>
      simp only [sliceBounds, HT.sIx, Option.getD_none, show (1 : Int) > 0 by decide, if_true]
      by_cases h : i < 0
      · simp only [h, if_true] <;> omega
      · simp only [h, if_false] <;> omega
theorem slicePick_cut (its : List Value) (lo hi : Option Int) : slicePick its.toArray lo hi none = ((its.drop (HT.sIx its.length 0 lo)).take (HT.sIx its.length its.length hi - HT.sIx its.length 0 lo)).toArray := by
  obtain ⟨h1, h2, h3⟩ := slice_bounds lo hi its.toArray.size
  unfold slicePick
  rw [h1, h2, h3]
  simp only [sliceRange_one, pick_run, List.size_toArray] <;> rfl
def rSlL (K : PySem.W.Frag) : V → Option Int → Option Int → Hp → VK → Prop := fun x lo hi H Q => ∃ a xs, x = .ref a ∧ SqL K H a xs ∧ ∀ p, H p = none → Q (.ref p) (upd H p (.lst (cutV xs lo hi)))
theorem sl_list : SlR X (rSlL X.K) := by
  intro pins s σ H x v vl vu lo hi sl Q I rx hs pl pu h
  obtain ⟨a, xs, rfl, hx, q⟩ := h
  cases rx
  obtain ⟨its, r, ht, hz⟩ := I.list hx
  have hlen := r.length
  refine ⟨"list", _, slot_list_getitem.lookup, ht.isList.typeIs, ?_⟩
  refine wpAny_getItem_list_slice ht.isList hs pl pu .none (by simp) ?_ (by rw [List.size_toArray] <;> omega)
  rw [slicePick_cut, ← hlen]
  refine ⟨.ref s.heap.objs.size, _, I.laid (t' := s.toks) (o := .lst (cutV xs lo hi)) (fun b ob q => Heap.get?_push_of_some _ q) (Nat.le_refl _) ?_, rfl, q _ (I.hok.fresh (Nat.le_refl _))⟩
  exact ⟨Nat.le_trans (cutV_length xs lo hi) hz, _, 0, (r.drop (HT.sIx xs.length 0 lo)).take (HT.sIx xs.length xs.length hi - HT.sIx xs.length 0 lo), Heap.get?_push_size _ rfl⟩
def flatV : V → Bool
  | .non => true
  | .bl _ => true
  | .int _ => true
  | .str _ => true
  | _ => false
def eqV : V → V → Bool
  | .non, .non => true
  | .bl a, .bl b => a == b
  | .bl a, .int b => (if a then 1 else 0) == b
  | .int a, .bl b => a == (if b then 1 else 0)
  | .int a, .int b => a == b
  | .str a, .str b => a == b
  | _, _ => false
theorem eqAt_V {A : Around} {s : Shared} {y x : V} {u v : Value} (ry : RelV y u) (rx : RelV x v) (fy : flatV y = true) (fx : flatV x = true) : SeqAt.EqAt A s u v (eqV y x) := by
  cases y with
  | non =>
    cases ry
    cases x with
    | non => cases rx; exact SeqAt.EqAt.same _
    | bl b => cases rx; exact SeqAt.EqAt.none_bool b
    | int b => obtain ⟨t, rfl⟩ := rx; exact SeqAt.EqAt.none_int b t
    | str b => obtain ⟨t, rfl⟩ := rx; exact SeqAt.EqAt.none_str b t
    | _ => exact absurd (show false = true from fx) Bool.false_ne_true
  | bl a =>
    cases ry
    cases x with
    | non => cases rx; exact SeqAt.EqAt.bool_none a
    | bl b => cases rx; exact SeqAt.EqAt.bool_bool a b
    | int b => obtain ⟨t, rfl⟩ := rx; exact SeqAt.EqAt.bool_int a b t
    | str b => obtain ⟨t, rfl⟩ := rx; exact SeqAt.EqAt.bool_str a b t
    | _ => exact absurd (show false = true from fx) Bool.false_ne_true
  | int a =>
    obtain ⟨t', rfl⟩ := ry
    cases x with
    | non => cases rx; exact SeqAt.EqAt.int_none a t'
    | bl b => cases rx; exact SeqAt.EqAt.int_bool a t' b
    | int b => obtain ⟨t, rfl⟩ := rx; exact SeqAt.EqAt.int_int a t' b t
    | str b => obtain ⟨t, rfl⟩ := rx; exact SeqAt.EqAt.int_str a t' b t
    | _ => exact absurd (show false = true from fx) Bool.false_ne_true
  | str a =>
    obtain ⟨t', rfl⟩ := ry
    cases x with
    | non => cases rx; exact SeqAt.EqAt.str_none a t'
    | bl b => cases rx; exact SeqAt.EqAt.str_bool a t' b
    | int b => obtain ⟨t, rfl⟩ := rx; exact SeqAt.EqAt.str_int a t' b t
    | str b => obtain ⟨t, rfl⟩ := rx; exact SeqAt.EqAt.str_str a t' b t
    | _ => exact absurd (show false = true from fx) Bool.false_ne_true
  | _ => exact absurd (show false = true from fy) Bool.false_ne_true
def eqU (x : V) (u : Value) : Bool := match u with
  | .none => eqV .non x
  | .bool b => eqV (.bl b) x
  | .int i _ => eqV (.int i) x
  | .str z _ => eqV (.str z) x
  | _ => false
theorem eqU_of {x y : V} {u : Value} (r : RelV y u) (f : flatV y = true) : eqU x u = eqV y x := by
  cases y with
  | non => cases r; rfl
  | bl b => cases r; rfl
  | int i => obtain ⟨t, rfl⟩ := r; rfl
  | str z => obtain ⟨t, rfl⟩ := r; rfl
  | _ => exact absurd (show false = true from f) Bool.false_ne_true
theorem any_eqU {x : V} : ∀ {xs : List V} {us : List Value}, Vals xs us → xs.all flatV = true → us.any (eqU x) = xs.any fun y => eqV y x
  | _, _, .nil, _ => rfl
  | y :: xs, u :: us, .cons r t, f => by
    rw [List.all_cons, Bool.and_eq_true] at f
    rw [List.any_cons, List.any_cons, eqU_of r f.1, any_eqU t f.2]
theorem mem_eqAt {A : Around} {s : Shared} {x : V} {v : Value} (rx : RelV x v) (fx : flatV x = true) : ∀ {xs : List V} {us : List Value}, Vals xs us → xs.all flatV = true → ∀ u ∈ us, SeqAt.EqAt A s u v (eqU x u)
  | _, _, .nil, _ => fun u hu => by cases hu
  | y :: xs, u :: us, .cons r t, f => fun u' hu => by
    rw [List.all_cons, Bool.and_eq_true] at f
    rcases List.mem_cons.mp hu with rfl | hu
    · rw [eqU_of r f.1]; exact eqAt_V r rx f.1 fx
    · exact mem_eqAt rx fx t f.2 u' hu
def inV (x : V) (xs : List V) : Bool := xs.any fun y => eqV y x
def rIn (K : PySem.W.Frag) (neg : Bool) : R2 := fun x y H Q => ∃ p xs, y = .ref p ∧ (SqL K H p xs ∨ SqT K H p xs) ∧ flatV x = true ∧ xs.all flatV = true ∧ Q (.bl (if neg then !inV x xs else inV x xs)) H
theorem op_in_seq : OpR X (compareOp .In) (rIn X.K false) := by
  intro pins s σ H x y v u Q I rx ry h
  obtain ⟨p, xs, rfl, hq, fx, fs, q⟩ := h
  cases ry
  rcases hq with hq | hq
  · obtain ⟨its, r, pl, hz⟩ := I.list hq
    refine SeqAt.in_listAt (eqU x) pl.isList (fun w hw => mem_eqAt rx fx r fs w (by simpa using hw)) ⟨.bl _, H, I, rfl, ?_⟩
    rw [show its.toArray.any (eqU x) = its.any (eqU x) by simp, any_eqU r fs]
    exact q
  · obtain ⟨its, r, pl, hz⟩ := I.tuple hq
    refine SeqAt.in_tupleAt (eqU x) pl (fun w hw => mem_eqAt rx fx r fs w (by simpa using hw)) ⟨.bl _, H, I, rfl, ?_⟩
    rw [show its.toArray.any (eqU x) = its.any (eqU x) by simp, any_eqU r fs]
    exact q
theorem op_notIn_seq : OpR X (compareOp .NotIn) (rIn X.K true) := by
  intro pins s σ H x y v u Q I rx ry h
  obtain ⟨p, xs, rfl, hq, fx, fs, q⟩ := h
  cases ry
  rcases hq with hq | hq
  · obtain ⟨its, r, pl, hz⟩ := I.list hq
    refine SeqAt.notIn_listAt (eqU x) pl.isList (fun w hw => mem_eqAt rx fx r fs w (by simpa using hw)) ⟨.bl _, H, I, rfl, ?_⟩
    rw [show its.toArray.any (eqU x) = its.any (eqU x) by simp, any_eqU r fs]
    exact q
  · obtain ⟨its, r, pl, hz⟩ := I.tuple hq
    refine SeqAt.notIn_tupleAt (eqU x) pl (fun w hw => mem_eqAt rx fx r fs w (by simpa using hw)) ⟨.bl _, H, I, rfl, ?_⟩
    rw [show its.toArray.any (eqU x) = its.any (eqU x) by simp, any_eqU r fs]
    exact q
theorem call_len_seq : CallR X (.builtin "len") (fun xs H Q => ∃ p ys, xs = [.ref p] ∧ (SqL X.K H p ys ∨ SqT X.K H p ys) ∧ Q (.int ys.length) H) := by
  intro pins s σ H xs us Q I r h
  obtain ⟨p, ys, rfl, hq, q⟩ := h
  obtain ⟨u, rfl, rx⟩ := vals1 r
  cases rx
  have hn := line63
  rcases hq with hq | hq
  · obtain ⟨its, r', pl, hz⟩ := I.list hq
    have hlen := r'.length
    exact Calls.call_len_list pl.isList (by simp only [List.size_toArray] <;> omega) ⟨.int ys.length, H, I.tok _, ⟨s.toks + 1, by rw [List.size_toArray, hlen]⟩, q⟩
  · obtain ⟨its, r', pl, hz⟩ := I.tuple hq
    have hlen := r'.length
    exact len_tuple pl (by simp only [List.size_toArray] <;> omega) ⟨.int ys.length, H, I.tok _, ⟨s.toks + 1, by rw [List.size_toArray, hlen]⟩, q⟩
theorem CallR.or {f : Value} {r r' : List V → Hp → VK → Prop} (h : CallR X f r) (h' : CallR X f r') : CallR X f (fun xs H Q => r xs H Q ∨ r' xs H Q) := by
  intro pins s σ H xs us Q I rs q
  rcases q with q | q
  · exact h pins s σ H xs us Q I rs q
  · exact h' pins s σ H xs us Q I rs q
theorem call_list_of : CallR X (.type "list") (fun xs H Q => ∃ p ys, xs = [.ref p] ∧ (SqL X.K H p ys ∨ SqT X.K H p ys) ∧ ∀ l, H l = none → Q (.ref l) (upd H l (.lst ys))) := by
  intro pins s σ H xs us Q I r h
  obtain ⟨p, ys, rfl, hq, q⟩ := h
  obtain ⟨u, rfl, rx⟩ := vals1 r
  cases rx
  have fin : ∀ (its : List Value), Vals ys its → ys.length ≤ sizeLine → ∀ (h' : Heap) (c' : Nat), (∀ b o', s.heap.get? b = some o' → h'.get? b = some o') →
      h'.get? s.heap.objs.size = some { cls := .type "list", dict := none, data := .seq its.toArray c', slots := #[] } → EP X pins σ Q (.ref s.heap.objs.size) { s with heap := h' } := fun its r' hz h' c' kp e =>
    ⟨.ref s.heap.objs.size, _, I.laid (t' := s.toks) kp (Nat.le_refl _) (show ObjOk X.prog X.w _ h' _ (.lst ys) from ⟨hz, its, c', r', e⟩), rfl, q _ (I.hok.fresh (Nat.le_refl _))⟩
  rcases hq with hq | hq
  · obtain ⟨its, r', pl, hz⟩ := I.list hq
    have hlen := r'.length
    obtain ⟨o, ho, hc, n, hd⟩ := pl.isList
    exact call_list_seq p (.inl rfl) ho hc hd (fun h' c' kp e => fin its r' hz h' c' kp e) (by simp only [List.size_toArray] <;> omega)
  · obtain ⟨its, r', pl, hz⟩ := I.tuple hq
    have hlen := r'.length
    obtain ⟨o, ho, hc, n, hd⟩ := pl
    exact call_list_seq p (.inr rfl) ho hc hd (fun h' c' kp e => fin its r' hz h' c' kp e) (by simp only [List.size_toArray] <;> omega)
def tyV (K : PySem.W.Frag) (T : String) (x : V) (H : Hp) : Prop := match x with
  | .str _ => T = "str"
  | .int _ => T = "int"
  | .ref p => (T = "list" ∧ ∃ xs, SqL K H p xs) ∨ (T = "tuple" ∧ ∃ o, K.lookup p = some o ∧ o.cls = .type "tuple" ∧ o.dict = none) ∨
      (T = "dict" ∧ ((∃ kvs, H p = some (.dK kvs)) ∨ ∃ kvs, H p = some (.dT kvs))) ∨ (T = "set" ∧ ∃ S n, H p = some (.set S n))
  | _ => False
theorem tyV_is {pins : List (Addr × Obj)} {σ : St} {H : Hp} {s : Shared} {T : String} {x : V} {v : Value} (I : Inv X pins σ H s) (r : RelV x v) (ty : tyV X.K T x H) :
    s.TypeIs v T ∧ ∀ a, v = .ref a → ∃ ob, s.heap.get? a = some ob ∧ ob.dict = none := by
  cases x with
  | str z =>
    obtain ⟨t, rfl⟩ := r
    cases (show T = "str" from ty)
    exact ⟨typeIs_str s z t, fun _ e => nomatch e⟩
  | int i =>
    obtain ⟨t, rfl⟩ := r
    cases (show T = "int" from ty)
    exact ⟨typeIs_int s i t, fun _ e => nomatch e⟩
  | ref p =>
    cases r
    rcases ty with ⟨rfl, xs, hq⟩ | ⟨rfl, o, hk, hc, hd⟩ | ⟨rfl, hk⟩ | ⟨rfl, S, n, hk⟩
    · obtain ⟨its, _, pl, _⟩ := I.list hq
      refine ⟨pl.isList.typeIs, fun a e => ?_⟩
      cases e
      obtain ⟨o, n, e, c, hd, _⟩ := pl
      exact ⟨o, e, hd⟩
    · refine ⟨⟨o, I.kIn p o hk, hc⟩, fun a e => ?_⟩
      cases e
      exact ⟨o, I.kIn _ o hk, hd⟩
    · have z : ∃ o, s.heap.get? p = some o ∧ o.ExactDict := by
        rcases hk with ⟨kvs, hk⟩ | ⟨kvs, hk⟩
        · obtain ⟨_, _, _, _, o, _, _, e, ex, _⟩ := I.hok p _ hk
          exact ⟨o, e, ex⟩
        · obtain ⟨_, _, _, _, o, _, _, e, ex, _⟩ := I.hok p _ hk
          exact ⟨o, e, ex⟩
      obtain ⟨o, e, ex⟩ := z
      refine ⟨⟨o, e, ex.1⟩, fun a e2 => ?_⟩
      cases e2
      exact ⟨o, e, ex.2.1⟩
    · obtain ⟨o, _, _, _, e, ex, _⟩ := I.hok p _ hk
      refine ⟨⟨o, e, ex.1⟩, fun a e2 => ?_⟩
      cases e2
      exact ⟨o, e, ex.2.1⟩
  | _ => exact False.elim ty
def tBM0 (K : PySem.W.Frag) (T : String) (r : V → List V → Hp → VK → Prop) (to : TE) : TE := fun σ H Q => to σ H fun x H1 => tyV K T x H1 ∧ r x [] H1 Q
def tBM (K : PySem.W.Frag) (T : String) (r : V → List V → Hp → VK → Prop) (to : TE) (t : TA) : TE := fun σ H Q => to σ H fun x H1 => tyV K T x H1 ∧ t σ H1 fun xs H2 => r x xs H2 Q
variable {o e : Expr} {es : List Expr} {to : TE} {t : TA} {name : Str} {apos cpos : Pos} {T id : String} {r : V → List V → Hp → VK → Prop}
theorem pe_bm0 (pa : PlainAttrs T) (slot : Slot T name id) (hty : typeOf (.builtin id) = pure (.type "method_descriptor")) (hm : MtR X id r) (ho : PE X o to)
    (hbase : attributeBase o name X.env (eval o X.env) = eval o X.env := by rfl) (hline : (apos.endLine == cpos.line) = true := by rfl) : PE X (.Call (.Attribute o name apos) [] [] cpos) (tBM0 X.K T r to) := by
  intro pins s σ H Q I h
  refine wpAny_Call_method0_late hbase hline (thn (ho pins s σ H _ I h) fun v s1 ⟨x, H1, I1, r1, ty, q1⟩ => ?_)
  obtain ⟨h1, h2⟩ := tyV_is I1 r1 ty
  exact ⟨T, id, pa, slot, hty, h1, h2, Calls.callWith_builtin rfl (PySem.evalArgs_none (hm pins s1 σ H1 x [] v [] Q I1 r1 .nil q1))⟩
theorem pe_bm (pa : PlainAttrs T) (slot : Slot T name id) (hty : typeOf (.builtin id) = pure (.type "method_descriptor")) (hm : MtR X id r) (ho : PE X o to) (ha : PA X (e :: es) t)
    (hbase : attributeBase o name X.env (eval o X.env) = eval o X.env := by rfl)
    (hfew : ((backTo cpos (starEach (e :: es) X.env)).all (fun x => !x.1) && (backToKw cpos (keywordEach [] X.env)).all (fun x => x.1.isSome)
      && decide ((e :: es).length + ([] : List Keyword).length + (if ([] : List Keyword).isEmpty then 0 else 1) < 30)) = true := by rfl)
    (hline : (apos.endLine == cpos.line) = true := by rfl) (hs : starEach (e :: es) X.env = (false, eval e X.env) :: starEach es X.env := by rfl) (hplain : (backTo cpos (starEach es X.env)).any (·.1) = false := by rfl) :
    PE X (.Call (.Attribute o name apos) (e :: es) [] cpos) (tBM X.K T r to t) := by
  intro pins s σ H Q I h
  refine wpAny_Call_method_late hbase hfew hline rfl (thn (ho pins s σ H _ I h) fun v s1 ⟨x, H1, I1, r1, ty, q1⟩ => ?_)
  obtain ⟨h1, h2⟩ := tyV_is I1 r1 ty
  refine ⟨T, id, pa, slot, hty, h1, h2, ?_⟩
  have hA := ha cpos pins s1 σ H1 _ I1 q1
  rw [hs] at hA ⊢
  refine Calls.callWith_builtin (by show (false || (backTo cpos (starEach es X.env)).any (·.1)) = false; rw [hplain] <;> rfl) (Calls.evalArgs_plain ?_)
  exact thn hA fun us s2 ⟨vs, H2, I2, r2, q2⟩ => hm pins s2 σ H2 x vs v us Q I2 r1 r2 q2
end
end L2
namespace L2
open PySem PySem.Spec PyProof.Rows
def MtM (X : Cx) (id : String) (r : V → List V → Hp → VK → Prop) : Prop :=
  ∀ (pins : List (Addr × Obj)) (s : Shared) (σ : St) (H : Hp) (x : V) (xs : List V) (v : Value) (us : List Value) (Q : VK), Inv X pins σ H s → RelV x v → Vals xs us → r x xs H Q →
    wpAny (model X.prog X.w) X.A (call (.builtin id) (v :: us)) (EP X pins σ Q) X.xe s
theorem Vals.one : ∀ {x : V} {us : List Value}, Vals [x] us → ∃ u, us = [u] ∧ RelV x u
  | _, _, .cons r .nil => ⟨_, rfl, r⟩
theorem Vals.two : ∀ {x y : V} {us : List Value}, Vals [x, y] us → ∃ u v, us = [u, v] ∧ RelV x u ∧ RelV y v
  | _, _, _, .cons r (.cons q .nil) => ⟨_, _, rfl, r, q⟩
theorem Vals.zero : ∀ {us : List Value}, Vals [] us → us = []
  | _, .nil => rfl
theorem Vals.dropLast {xs : List V} {us : List Value} (h : Vals xs us) : Vals xs.dropLast us.dropLast := by
  induction h with
  | nil => exact .nil
  | cons r t ih =>
    cases t with
    | nil => exact .nil
    | cons q t' => exact .cons r ih
theorem Vals.eraseIdx : ∀ {xs : List V} {us : List Value} (i : Nat), Vals xs us → Vals (xs.eraseIdx i) (us.eraseIdx i)
  | _, _, _, .nil => .nil
  | _, _, 0, .cons _ t => t
  | _, _, i + 1, .cons r t => .cons r (Vals.eraseIdx i t)
theorem Vals.reverse {xs : List V} {us : List Value} (h : Vals xs us) : Vals xs.reverse us.reverse := by
  induction h with
  | nil => exact .nil
  | cons r t ih => rw [List.reverse_cons, List.reverse_cons]; exact Vals.append ih (.cons r .nil)
theorem erase_last {α : Type} (l : List α) : l.eraseIdx (l.length - 1) = l.dropLast := by
  induction l with
  | nil => rfl
  | cons a r ih =>
    cases r with
    | nil => rfl
    | cons b r =>
      have e : (a :: b :: r).length - 1 = ((b :: r).length - 1) + 1 := by
        have h1 : (a :: b :: r).length = r.length + 2 := rfl
        have h2 : (b :: r).length = r.length + 1 := rfl
        omega
      rw [e, List.eraseIdx_cons_succ, ih]
      all_goals rfl
theorem len_erase {α : Type} : ∀ (l : List α) (i : Nat), (l.eraseIdx i).length ≤ l.length
  | [], _ => Nat.le_refl _
  | _ :: _, 0 => Nat.le_succ _
  | _ :: r, i + 1 => Nat.succ_le_succ (len_erase r i)
section
variable {X : Cx} {pins : List (Addr × Obj)} {σ : St} {H : Hp} {s : Shared} {l b : Addr} {xs ys zs : List V}
theorem Inv.lset {its its' : List Value} {n : Nat} {f : Array Value → Array Value} {t' : Nat} (I : Inv X pins σ H s) (hH : H l = some (.lst xs))
    (e : s.heap.get? l = some { cls := .type "list", data := .seq its.toArray n }) (hf : f its.toArray = its'.toArray) (hv : Vals ys its') (hz : ys.length ≤ sizeLine) :
    Inv X pins σ (upd H l (.lst ys)) { s with heap := s.heap.update l (Obj.mapSeq f), toks := t' } := by
  have q := PySem.IsL.update e f
  rw [hf] at q
  refine I.write (x := l) (e := l) (by rw [hH]; exact trivial) (.inl rfl) (fun b' u hb hu => (Heap.get?_update_other s.heap (Obj.mapSeq f) (Ne.symm hb)).trans hu) ⟨_, q⟩ ?_
  exact ⟨hz, its', _, hv, q⟩
theorem Inv.lnew {its : List Value} {t' : Nat} (I : Inv X pins σ H s) (hv : Vals ys its) (hz : ys.length ≤ sizeLine) :
    Inv X pins σ (upd H s.heap.objs.size (.lst ys)) { s with heap := s.heap.push { cls := .type "list", data := .seq its.toArray }, toks := t' } :=
  I.laid (fun _ _ q => Heap.get?_push_of_some _ q) (Nat.le_refl _) ⟨hz, its, 0, hv, Heap.get?_push_size _ rfl⟩
theorem Inv.fresh (I : Inv X pins σ H s) : H s.heap.objs.size = none := I.hok.fresh (Nat.le_refl _)
theorem Inv.lstM (I : Inv X pins σ H s) (hH : H l = some (.lst xs)) : xs.length ≤ sizeLine ∧ ∃ (its : List Value) (n : Nat), Vals xs its ∧ xs.length = its.length ∧ s.heap.get? l = some { cls := .type "list", data := .seq its.toArray n } := by
  obtain ⟨z, its, n, r, e⟩ := I.hok l _ hH
  exact ⟨z, its, n, r, r.length, e⟩
theorem notLongL {n : Nat} (h : n ≤ sizeLine) : Builtin.List.listTooLong n = false := by
  unfold Builtin.List.listTooLong
  exact decide_eq_false (by omega)
end
section
variable {X : Cx}
def rAppend : V → List V → Hp → VK → Prop := fun x vs H Q => ∃ l xs y, x = .ref l ∧ vs = [y] ∧ H l = some (.lst xs) ∧ xs.length < sizeLine ∧ Q .non (upd H l (.lst (xs ++ [y])))
theorem mt_append : MtM X "list.append" rAppend := by
  intro pins s σ H x vs v us Q I rx rv h
  obtain ⟨l, xs, y, rfl, rfl, hH, hz, q⟩ := h
  cases rx
  obtain ⟨u, rfl, ru⟩ := rv.one
  obtain ⟨z, its, n, r, hl, e⟩ := I.lstM hH
  refine call_meets F.slot_list_append ⟨_, e, rfl⟩ F.entry_list_append (F.args_list_append_2 _ _) (PySem.list_append l its.toArray n u (by rw [List.size_toArray]; omega)) ⟨e, ?_⟩
  refine ⟨.non, _, I.lset (its' := its ++ [u]) hH e (by simp) (r.append (.cons ru .nil)) ?_, rfl, q⟩
  rw [List.length_append, List.length_singleton]
  omega
def rExtend : V → List V → Hp → VK → Prop := fun x vs H Q => ∃ l b xs zs, x = .ref l ∧ vs = [.ref b] ∧ H l = some (.lst xs) ∧ H b = some (.lst zs) ∧ xs.length + zs.length ≤ sizeLine ∧ Q .non (upd H l (.lst (xs ++ zs)))
def rPop : V → List V → Hp → VK → Prop := fun x vs H Q => ∃ l xs y, x = .ref l ∧ vs = [] ∧ H l = some (.lst xs) ∧ xs[xs.length - 1]? = some y ∧ Q y (upd H l (.lst xs.dropLast))
theorem mt_pop : MtM X "list.pop" rPop := by
  intro pins s σ H x vs v us Q I rx rv h
  obtain ⟨l, xs, y, rfl, rfl, hH, hy, q⟩ := h
  cases rx
  have hus := rv.zero
  subst hus
  obtain ⟨z, its, n, r, hl, e⟩ := I.lstM hH
  obtain ⟨u, hu, ru⟩ := r.get hy
  have hy' : its.toArray[its.toArray.size - 1]? = some u := by
    show its.toArray[its.length - 1]? = some u
    rw [← Array.getElem?_toList, ← hl]
    exact hu
  refine call_meets F.slot_list_pop ⟨_, e, rfl⟩ F.entry_list_pop (F.args_list_pop_1 _) (MeetsSeq.list_pop_last l its.toArray n u hy' (by rw [List.size_toArray]; omega)) ⟨e, ?_⟩
  refine ⟨y, _, I.lset (its' := its.dropLast) hH e ?_ r.dropLast ?_, ru, q⟩
  · show its.toArray.eraseIdxIfInBounds (its.toArray.size - 1) = its.dropLast.toArray
    rw [List.size_toArray, List.eraseIdxIfInBounds_toArray, erase_last]
  · rw [List.length_dropLast]
    omega
def rPopAt : V → List V → Hp → VK → Prop := fun x vs H Q => ∃ l xs i k y, x = .ref l ∧ vs = [.int i] ∧ H l = some (.lst xs) ∧ -(2 ^ 63) ≤ i ∧ i < 2 ^ 63 ∧ seqIndex? i xs.length = some k ∧ xs[k]? = some y ∧ Q y (upd H l (.lst (xs.eraseIdx k)))
theorem mt_popAt : MtM X "list.pop" rPopAt := by
  intro pins s σ H x vs v us Q I rx rv h
  obtain ⟨l, xs, i, k, y, rfl, rfl, hH, h1, h2, hk, hy, q⟩ := h
  cases rx
  obtain ⟨u, rfl, ru⟩ := rv.one
  obtain ⟨t, rfl⟩ := ru
  obtain ⟨z, its, n, r, hl, e⟩ := I.lstM hH
  obtain ⟨w, hw, rw'⟩ := r.get hy
  refine call_meets F.slot_list_pop ⟨_, e, rfl⟩ F.entry_list_pop (F.args_list_pop_2 _ _)
    (MeetsSeq.list_pop_at l its.toArray n i t k w (fitsIndex_both h1 h2) (by rw [List.size_toArray, ← hl]; exact hk) (by rw [← Array.getElem?_toList]; exact hw) (by rw [List.size_toArray]; omega)) ⟨e, ?_⟩
  refine ⟨y, _, I.lset (its' := its.eraseIdx k) hH e ?_ (r.eraseIdx k) ?_, rw', q⟩
  · show its.toArray.eraseIdxIfInBounds k = (its.eraseIdx k).toArray
    rw [List.eraseIdxIfInBounds_toArray]
  · have := len_erase xs k
    omega
def rReverse : V → List V → Hp → VK → Prop := fun x vs H Q => ∃ l xs, x = .ref l ∧ vs = [] ∧ H l = some (.lst xs) ∧ Q .non (upd H l (.lst xs.reverse))
def rClear : V → List V → Hp → VK → Prop := fun x vs H Q => ∃ l xs, x = .ref l ∧ vs = [] ∧ H l = some (.lst xs) ∧ Q .non (upd H l (.lst []))
def rCat : R2 := fun x y H Q => ∃ l b xs zs, x = .ref l ∧ y = .ref b ∧ H l = some (.lst xs) ∧ H b = some (.lst zs) ∧ xs.length + zs.length ≤ sizeLine ∧ ∀ p, H p = none → Q (.ref p) (upd H p (.lst (xs ++ zs)))
theorem op_cat : OpR X (binaryOp .Add) rCat := by
  intro pins s σ H x y v u Q I rx ry h
  obtain ⟨l, b, xs, zs, rfl, rfl, hH, hB, hz, q⟩ := h
  cases rx
  cases ry
  obtain ⟨z, its, n, r, hl, e⟩ := I.lstM hH
  obtain ⟨z2, its2, n2, r2, hl2, e2⟩ := I.lstM hB
  refine PySem.P.add_list e e2 ?_ (by rw [List.size_toArray, List.size_toArray]; omega)
  have ea : its.toArray ++ its2.toArray = (its ++ its2).toArray := by simp
  rw [ea]
  exact ⟨.ref _, _, I.lnew (t' := s.toks) (r.append r2) (by rw [List.length_append]; omega), rfl, q _ I.fresh⟩
def rRep : R2 := fun x y H Q => ∃ l k xs, x = .ref l ∧ y = .int k ∧ H l = some (.lst xs) ∧ -(2 ^ 63) ≤ k ∧ k < 2 ^ 63 ∧ xs.length * k.toNat ≤ sizeLine ∧
  ∀ p, H p = none → Q (.ref p) (upd H p (.lst (List.replicate k.toNat xs).flatten))
end
section
variable {prog : Program} {w : World} {A : Around} {E : Value → Shared → Prop} {s : Shared}
theorem bounds_run {a c n : Nat} (hac : a ≤ c) (hc : c ≤ n) : sliceBounds (some (a : Int)) (some (c : Int)) none n = ((a : Int), (c : Int), 1) := by
  simp only [sliceBounds, Option.getD_none]
  have h1 : ¬ ((a : Int) < 0) := by omega
  have h2 : ¬ ((c : Int) < 0) := by omega
  simp only [h1, h2, if_false, show (1 : Int) > 0 by decide, if_true]
  congr 1
  · omega
  · congr 1; omega
set_option maxRecDepth 100000 in
theorem setItem_slice {l b sl : Addr} {items new : Array Value} {n n2 : Nat} {vl vu : Value} {a c : Nat} {Q : Unit → Shared → Prop}
    (e : s.heap.get? l = some { cls := .type "list", data := .seq items n }) (e2 : s.heap.get? b = some { cls := .type "list", data := .seq new n2 }) (hne : l ≠ b)
    (hs : s.heap.IsSliceOf sl vl vu .none) (pl : IsPart vl (some (a : Int))) (pu : IsPart vu (some (c : Int))) (hac : a ≤ c) (hc : c ≤ items.size)
    (hsz : items.size + new.size ≤ sizeLine) (h : Q () { s with heap := s.heap.update l (Obj.mapSeq fun xs => xs.extract 0 a ++ new ++ xs.extract c xs.size) }) :
    wpAny (model prog w) A (setItem (.ref l) (.ref sl) (.ref b)) Q E s := by
  have hl : s.heap.IsList l items := PySem.IsL.isList e
  have hb : s.heap.IsList b new := PySem.IsL.isList e2
  obtain ⟨os, hos, hcs, hds⟩ := id hs
  have hTs : s.TypeIs (.ref sl) "slice" := ⟨os, hos, hcs⟩
  have hstep : ¬ ((rawPart none == rawInt 0) = true) := Bool.false_ne_true
  have hsame : Builtin.List.listSameRef (.ref l) (.ref b) = false := by
    unfold Builtin.List.listSameRef
    exact beq_eq_false_iff_ne.mpr hne
  have hmax : (max (a : Int) (c : Int)).toNat = c := by omega
  have hz' : ((fun xs : Array Value => xs.extract 0 a ++ new ++ xs.extract c xs.size) items).size ≤ sizeLine + 1 := by
    simp only [Array.size_append, Array.size_extract]
    omega
  unfold setItem
  try with_reducible refine wpAny_holding ?_
  first | refine wpAny_bind (wpAny_pure ?_) | skip
  refine wpAny_bind (wpAny_sequenceKey hl.typeIs (by decide) ?_)
  refine wpAny_bind (wpAny_callSpecial?_slot (name := Str.ofString "__setitem__") hl.typeIs slot_list_setitem
    (wpAny_call_entry slot_list_setitem hl.typeIs entry_list_setitem ?_ (args_list_setitem _ _ _)))
  show wpAny _ _ (Builtin.List.listSubscript? (.ref sl) >>= _) _ _ s
  refine wpAny_bind ?_
  unfold Builtin.List.listSubscript?
  refine wpAny_bind (wpAny_specialOf hTs slice_no_index ?_)
  simp only [Option.isNone_none, if_true]
  refine wpAny_pure ?_
  show wpAny _ _ (typeOf (.ref sl) >>= _) _ _ s
  refine wpAny_bind (wpAny_typeOf hTs ?_)
  first
    | rw [if_neg (by decide)]
    | refine PySem.W.KFB.if_not (by decide) ?_
  rw [listSliceParts_eq]
  refine wpAny_bind (wpAny_bind (wpAny_field hos hds (x := .none) rfl (wpAny_bind (wpAny_listPart .none ?_))))
  rw [if_neg hstep]
  refine wpAny_bind (wpAny_field hos hds (x := vl) rfl (wpAny_bind (wpAny_listPart pl ?_)))
  refine wpAny_bind (wpAny_field hos hds (x := vu) rfl (wpAny_bind (wpAny_listPart pu (wpAny_pure ?_))))
  first
    | simp only [hsame, Bool.false_eq_true, if_false]
    | refine PySem.W.KFB.if_not hsame ?_
    | (dsimp only
       rw [if_neg (by rw [hsame]; exact Bool.false_ne_true)])
  refine wpAny_bind (m := Builtin.List.listAllItems (.ref b) "must assign iterable to extended slice") ?_
  unfold Builtin.List.listAllItems
  refine wpAny_bind (wpAny_typeOf hb.typeIs ?_)
  first
    | refine PySem.W.KFB.if_so (by decide) ?_
    | rw [if_pos (by decide)]
    | simp only [beq_self_eq_true, Bool.true_or, if_true]
  unfold Builtin.List.listItems
  refine wpAny_bind (wpAny_seqItems e2 rfl (wpAny_pure ?_))
  refine wpAny_bind (wpAny_bind (wpAny_seqItems e rfl (wpAny_pure ?_)))
  refine wpAny_bind (wpAny_of_eq ((sliceIndices_raw (some (a : Int)) (some (c : Int)) none items.size (by simp)).trans (congrArg (pure : Int × Int × Int → Sem (Int × Int × Int)) (bounds_run hac hc))) ?_)
  show wpAny _ _ (if ((1 : Int) == 1) = true then _ else _) _ _ s
  rw [if_pos (by decide)]
  refine wpAny_bind (wpAny_rule ?_)
  first
    | simp only [notLongL hsz, Bool.false_eq_true, if_false]
    | refine PySem.W.KFB.if_not (notLongL hsz) ?_
  first | refine wpAny_bind (wpAny_pure ?_) | skip
  show wpAny _ _ (updateSeq l (fun xs => xs.extract 0 ((a : Int)).toNat ++ new ++ xs.extract (max (a : Int) (c : Int)).toNat xs.size) >>= _) _ _ s
  rw [hmax, Int.toNat_natCast]
  refine wpAny_bind (wpAny_updateSeq (hz := Nat.le_trans (Nat.le_add_right _ _) hsz) (_hz' := hz') e rfl ?_)
  refine wpAny_bind (wpAny_letGo ?_)
  first
    | exact wpAny_bind (wpAny_pure (wpAny_pure ⟨.none, rfl, wpAny_pure h⟩))
    | exact wpAny_pure ⟨.none, rfl, wpAny_pure h⟩
end
section
variable {X : Cx}
end
end L2
namespace Att
open PySem PySem.W PySem.Calls PyProof.Rows
theorem ints_of_wellAll {P : Params} {h : Heap} : ∀ (ns : List Int) (vs : List Value), WellAll P h vs (ns.map WData.int) → IntsAre vs ns := by
  intro ns
  induction ns with
  | nil =>
    intro vs w
    rw [List.map_nil] at w
    cases w
    exact .nil
  | cons n ns ih =>
    intro vs w
    rw [List.map_cons] at w
    cases w with
    | cons a b =>
      cases a
      exact .cons _ _ (ih _ b)
theorem script_of {l : OpenLaw} {n : Nat} (hn : l.most = some n) {P : Params} {h : Heap} {args : List WData} {vals : List Value}
    (hpre : l.row.toRowW.claim.pre args = true) (hwl : WellAll P h vals args) :
    ∃ a vs ns, vals = [Value.ref a] ∧ args = [WData.list (ns.map WData.int)] ∧ h.get? a = some { cls := .type "list", data := .seq vs.toArray } ∧ IntsAre vs ns ∧ ns.length ≤ n := by
  have hsh : WShape.hasAll [] args [.list .int] = true := (pre_splitW hpre).1
  have hc : l.pre.holds [] { args := args } = true := (pre_splitW hpre).2
  obtain ⟨d, r, rfl, h1, h2⟩ := hasAllW_cons hsh
  obtain rfl := hasAllW_nil h2
  obtain ⟨xs, rfl, h3⟩ := hasW_list h1
  obtain ⟨ns, rfl⟩ := items_int h3
  have hlen : ns.length ≤ n := by
    unfold OpenLaw.pre at hc
    have h4 : (WTm.not (.lt (.lit (.int (n : Int))) (.len (.arg 0)))).holds [] { args := [.list (ns.map .int)] } = true := by
      have h4 := (holds_andW hc).1
      rw [hn] at h4
      exact h4
    have h5 := condW_of h4 (w_not (w_lt w_lit (w_len_list (w_arg rfl))))
    rw [List.length_map] at h5
    refine Nat.le_of_not_lt fun q => ?_
    have q' : (n : Int) < ((ns.length : Nat) : Int) := by omega
    first
      | (rw [decide_eq_true q'] at h5; exact absurd h5 (by decide))
      | (simp at h5; omega)
  cases hwl with
  | cons w1 w2 =>
    cases w2
    cases w1 with
    | list ho hall => exact ⟨_, _, ns, rfl, rfl, ho, ints_of_wellAll ns _ hall, hlen⟩
theorem post_true (l : OpenLaw) (args : List WData) : l.row.toRowW.claim.post args (.bool true) args = true :=
  postW_of (r := l.row.toRowW) (X := (true == true))
    (show WShape.has [] (.bool true) .bool = true by first | rfl | decide | simp [WShape.has, WShape.arms, WShape.armsAll])
    (show (WTm.eq .res (.lit (.bool true))).value [] { args := args, res := some (.bool true), after := args } = some (.bool (true == true)) from w_eq_bool (w_res rfl) w_lit) rfl
theorem attach_call {l : OpenLaw} {n : Nat} {q : Program} {loose : List Str} {XP : (Str → Option Value) → Heap → Prop} {YP : World → Heap → Prop} {d : DefRec}
    (hn : l.most = some n) (hdf : d.params.defaults = [])
    (call : ∀ (w : World) (s₀ s₁ : Shared) (mg mb : Str → Option Value) (fa : Addr) (o : Obj) (pm cd doc : Value) (a : Addr) (vs : List Value) (ns : List Int),
      Ground q loose [] XP w s₀ mg mb s₁.heap → YP w s₁.heap →
      s₁.heap.get? fa = some o → o.data = .func (docDef d.name d.params d.body d.scope pm cd doc) → s₁.heap.CodeRec cd d.name → mg d.name = some (.ref fa) →
      s₁.heap.get? a = some { cls := .type "list", data := .seq vs.toArray } → IntsAre vs ns → ns.length ≤ n → s₁.gens = #[] →
      codeAny (model l.prog w) callerA (.call (.ref fa) ⟨[.ref a], []⟩) (fun r s' => r = .ok (.ret (.bool true)) ∧ OldK s₁.heap s'.heap ∧ s'.os = s₁.os ∧ AllBare s'.gens) s₁) :
    WalkO q loose XP YP l.row.toRowW d [] (fun f vs => PySem.call f vs) := by
  intro w s₀ s₁ mg mb G Y fa o pm cd doc dV kV ho hd hcd hD hmg hg args vals as hpre hlay hrd hwl hlo
  obtain rfl : dV = .none := Dflts.none hD hdf
  obtain rfl : kV = .none := Dflts.noKw hD
  obtain ⟨a, vs, ns, rfl, rfl, hobj, hints, hlen⟩ := script_of hn hpre hwl
  refine enter_call (codeAny_mono (call w s₀ s₁ mg mb fa o pm cd doc a vs ns G Y ho (fd_plain hd) hcd hmg hobj hints hlen hg) fun r s' hq => ?_)
  obtain ⟨rfl, h2, h3, h4⟩ := hq
  exact ⟨.inl ⟨.bool true, .bool true, [], rfl, fun _ => rfl, .bool true, post_true l _, fun _ => ⟨List.Pairwise.nil, fun _ hm => (nomatch hm)⟩⟩, h2, h3, h4⟩
section
variable {prog : Program} {w : World} {A : Around} {E : Value → Shared → Prop} {s : Shared} {K : Frag}
def noObjs (h : Heap) : Heap := { h with objs := #[] }
def ledger (h : Heap) (L d : Addr) : List (Addr × Obj) := (List.range h.objs.size).filterMap fun a => if a = L ∨ a = d then none else (h.get? a).map fun o => (a, o)
end
end Att
namespace L2
open PySem PySem.Spec PyProof.Rows
theorem vals_ints : ∀ {vs : List Value} {ns : List Int}, IntsAre vs ns → Vals (ns.map V.int) vs
  | _, _, .nil => .nil
  | _, _, .cons n t h => .cons ⟨t, rfl⟩ (vals_ints h)
def Only (H : Hp) : Prop := ∀ b, H b = none ∨ ∃ o xs, H b = some (.frz o (.lst xs))
theorem law_call {P : Program} {w : World} {K : PySem.W.Frag} {mg mb : Str → Option Value} {CX : CXT} {k : Nat} {fa a : Addr} {fd : FuncData} {x : Str} {sp : Sp} {s₁ : Shared} {vs : List Value} {ns : List Int}
    (KX : K.In s₁.heap) (hns : s₁.heap.Ns mainGlobals mg) (hb : s₁.heap.Ns builtinsNs mb) (hbb : ∀ x : Str, x ≠ "__name__" → mb x = bootBuiltins x) (hlim : s₁.heap.NoLimit) (hg : s₁.gens = #[])
    (ha : s₁.heap.get? a = some { cls := .type "list", data := .seq vs.toArray }) (hi : IntsAre vs ns) (hl : ns.length ≤ sizeLine) (hr : Room k callerA)
    (F : ∀ base : Heap, K.In base → base.Ns mainGlobals mg → FnOk P w K mg base CX k fa fd [x] sp) (hbind : ∀ (s : Shared) (u : Value), BindsTo s fd ⟨[u], []⟩ [(x, u)])
    (hsp : ∀ H : Hp, Only H → SqL K H a (ns.map V.int) → sp [.ref a] H (fun v _ => v = .bl true) fun _ _ _ => False)
    (hCX : ∀ H e s', CX [] H s₁ (fun _ _ _ => False) e s' → False) :
    codeAny (model P w) callerA (.call (.ref fa) ⟨[.ref a], []⟩) (fun r s' => r = .ok (.ret (.bool true)) ∧ OldK s₁.heap s'.heap ∧ s'.os = s₁.os ∧ AllBare s'.gens) s₁ := by
  have rv := vals_ints hi
  have lenV := hi.length
  have core : ∀ H : Hp, Only H → SqL K H a (ns.map V.int) → HOk P w H s₁.heap → (∀ b, H b ≠ none → b = a) → (H a ≠ none → K.lookup a = none) →
      codeAny (model P w) callerA (.call (.ref fa) ⟨[.ref a], []⟩) (fun r s' => r = .ok (.ret (.bool true)) ∧ OldK s₁.heap s'.heap ∧ s'.os = s₁.os ∧ AllBare s'.gens) s₁ := by
    intro H hO hS hok hA hK
    have base_of : ∀ {b : Addr} {o : Obj}, s₁.heap.get? b = some o → H b = none → (hidT s₁.heap H).get? b = some o := fun e n => hidT_get e n
    have noA : ∀ {b : Addr} {o : Obj} {es : Array DictEntry} {ep : Nat}, s₁.heap.get? b = some o → o.data = .dict es ep → H b = none := fun {b o es ep} e d => by
      cases q : H b with
      | none => rfl
      | some u =>
        have e' : b = a := hA b (by rw [q]; simp)
        subst e'
        rw [ha] at e; cases e
        have d' : Data.seq vs.toArray _ = Data.dict es ep := d
        cases d'
    have nsK : ∀ {b : Addr} {m : Str → Option Value}, s₁.heap.Ns b m → (hidT s₁.heap H).Ns b m := fun {b m} ⟨o, es, ep, e, d, r⟩ => ⟨o, es, ep, base_of e (noA e d), d, r⟩
    have hKb : K.In (hidT s₁.heap H) := fun b o e => base_of (KX b o e) (by
      cases q : H b with
      | none => rfl
      | some u =>
        have e' : b = a := hA b (by rw [q]; simp)
        subst e'
        rw [hK (by rw [q]; simp)] at e; cases e)
    have hM : Mod K mg (hidT s₁.heap H) := ⟨hKb, nsK hns, ⟨mb, nsK hb, hbb⟩, let ⟨mc, h1, h2⟩ := hlim; ⟨mc, nsK h1, h2⟩⟩
    have e0 : Env0 P w K mg (hidT s₁.heap H) callerA [] s₁ H := ⟨rfl, hM, fun b o e => of_hidT e, Nat.le_of_eq (hidT_size _ _), trivial, fun b hb => absurd (show b ∈ ([] : List Addr) from hb) (by simp), hok, .of_eq hg⟩
    refine codeAny_mono ((F _ hKb (nsK hns)).run callerA [] s₁ H ⟨[.ref a], []⟩ [.ref a] [.ref a] _ _ hr e0 (hbind s₁ (.ref a)) (.cons rfl .nil) (hsp H hO hS)) fun r s' h => ?_
    cases r with
    | error e => exact (hCX H e s' h).elim
    | ok fl =>
      cases fl with
      | next => exact False.elim h
      | brk => exact False.elim h
      | cont => exact False.elim h
      | ret u =>
        obtain ⟨v, H', os, bare, un, hok', r', q⟩ := h
        have q' : v = .bl true := q
        subst q'
        obtain rfl : u = Value.bool true := r'
        refine ⟨rfl, OldK.of_keep fun b o e => ?_, os, bare⟩
        cases q : H b with
        | none => exact un.keep b o e q (by intro z; exact absurd (show b ∈ ([] : List Addr) from z) (by simp)) (by simp)
        | some u =>
          rcases hO b with z | ⟨ob, xs, z⟩
          · rw [q] at z; cases z
          · have z2 := un.frzs b ob _ z
            obtain ⟨e1, _⟩ := hok b _ z
            obtain ⟨e2, _⟩ := hok' b _ z2
            rw [e] at e1; cases e1
            exact e2
  cases hk : K.lookup a with
  | some o =>
    have e := KX a o hk
    rw [ha] at e
    cases e
    refine core (fun _ => none) (fun _ => .inl rfl) (.inr ⟨_, vs.toArray, _, hk, rfl, rfl, rfl, by rw [List.size_toArray, lenV]; exact hl, by simpa using rv⟩) (fun b u z => by have z' : (none : Option HO) = some u := z; cases z') (fun b z => absurd rfl z) fun z => absurd rfl z
  | none =>
    refine core (fun b => if b = a then some (.frz { cls := .type "list", data := .seq vs.toArray } (.lst (ns.map V.int))) else none) (fun b => ?_) (.inl (.inr ⟨{ cls := .type "list", data := .seq vs.toArray }, if_pos rfl⟩)) (fun b u z => ?_) (fun b z => ?_) fun _ => hk
    · by_cases hb : b = a
      · exact .inr ⟨_, _, if_pos hb⟩
      · exact .inl (if_neg hb)
    · by_cases hb : b = a
      · have z' := (if_pos hb).symm.trans z
        cases z'
        subst hb
        exact ⟨ha, by rw [List.length_map]; exact hl, vs, _, rv, ha⟩
      · have z' := (if_neg hb).symm.trans z
        cases z'
    · by_cases hb : b = a
      · exact hb
      · exact absurd (if_neg hb) z
end L2
namespace L2
open PySem PySem.Spec PyProof.Rows
abbrev KOf {K : PySem.W.Frag} {h : Heap} (_ : K.In h) : PySem.W.Frag := K
theorem walk_of {l : PySem.W.OpenLaw} {n k : Nat} {q : Program} {loose : List Str} {XP : (Str → Option Value) → Heap → Prop} {YP : World → Heap → Prop} {d : DefRec} {K : Params → PySem.W.Frag} {CX : World → CXT} {sp : World → Sp} {x : Str}
    (hn : l.most = some n) (hn2 : n ≤ sizeLine) (hdf : d.params.defaults = []) (hr : Room k callerA)
    (hY : ∀ (w : World) (h : Heap), YP w h → (K w.params).In h)
    (F : ∀ (w : World) (mg : Str → Option Value) (fa : Addr) (h : Heap), (K w.params).In h → h.Ns mainGlobals mg → mg d.name = some (.ref fa) →
      ∃ fd : FuncData, (∀ (s : Shared) (u : Value), BindsTo s fd ⟨[u], []⟩ [(x, u)]) ∧
        ∀ base : Heap, (K w.params).In base → base.Ns mainGlobals mg → FnOk l.prog w (K w.params) mg base (CX w) k fa fd [x] (sp w))
    (hsp : ∀ (w : World) (H : Hp) (a : Addr) (ns : List Int), ns.length ≤ n → Only H → SqL (K w.params) H a (ns.map V.int) → sp w [.ref a] H (fun v _ => v = .bl true) fun _ _ _ => False)
    (hCX : ∀ (w : World) (H : Hp) (s : Shared) (e : Value) (s' : Shared), CX w [] H s (fun _ _ _ => False) e s' → False) :
    PySem.W.WalkO q loose XP YP l.row.toRowW d [] (fun f vs => PySem.call f vs) := by
  refine Att.attach_call hn hdf fun w s₀ s₁ mg mb fa o pm cd doc a vs ns G Y ho hd hcd hmg hobj hints hlen hg => ?_
  have KX := hY w _ Y
  obtain ⟨fd, hb, hF⟩ := F w mg fa _ KX G.T.g hmg
  exact law_call KX G.T.g G.T.b G.T.builtins G.T.nolimit hg hobj hints (Nat.le_trans hlen hn2) hr hF hb (fun H hO hS => hsp w H a ns hlen hO hS) fun H e s' => hCX w H s₁ e s'
end L2
namespace L2
open PySem PySem.Spec PyProof.Rows
def inClass (s : Stmt) (j : Nat) : Stmt := match s with
  | .ClassDef _ _ _ body _ _ _ _ _ _ _ => body.getD j (.Pass ⟨0, 0, 0, 0⟩)
  | _ => .Pass ⟨0, 0, 0, 0⟩
def defArgs (s : Stmt) : Arguments := match s with
  | .FunctionDef _ a _ _ _ _ _ _ _ _ => a
  | _ => { posonlyargs := [], args := [], vararg := none, kwonlyargs := [], kw_defaults := [], kwarg := none, defaults := [] }
def defBody (s : Stmt) : List Stmt := match s with
  | .FunctionDef _ _ b _ _ _ _ _ _ _ => b
  | _ => []
def defScope (s : Stmt) : Scope := match s with
  | .FunctionDef _ _ _ _ _ _ sc _ _ _ => sc
  | _ => { kind := .function, names := [], isGenerator := false, isCoroutine := false }
abbrev CX0 : CXT := fun _ _ _ _ _ _ => False
abbrev E0 : XK := fun _ _ _ => False
theorem pass0 {X : Cx} : Passes CX0 X E0 := fun _ _ _ _ _ _ _ h => h.elim
structure Fun (K : PySem.W.Frag) (x qual : Str) (st : Stmt) (f : Addr) (fd : FuncData) : Prop where
  ex : ∃ (oc : Value) (od : Option Addr) (kV doc pm : Value) (an : Option Addr) (cdv ct : Value) (osl : Array (Option Value)),
    fd = PySem.W.fnOf x qual (defArgs st) (defBody st) (defScope st) .none kV doc pm an cdv ct ∧ K.lookup f = some ⟨oc, od, .func fd, osl⟩ ∧ PySem.W.codeIn K cdv qual = true
  kp : PySem.W.keepIn K (.ref f) = true
section
variable {P : Program} {w : World} {K : PySem.W.Frag} {mg : Str → Option Value} {base : Heap}
theorem Fun.ok {x qual : Str} {st : Stmt} {f : Addr} {fd : FuncData} {N ps : List Str} {k : Nat} {sp : Sp} (F : Fun K x qual st f fd) (S : FnScope N ps (defScope st)) (len : ∀ vs H Q E, sp vs H Q E → vs.length = ps.length)
    (hbody : ∀ (cdv : Value) (A : Around) (outer : List Env) (s : Shared) (H : Hp) (vs : List V) (Q : VK) (E : XK), Room k (A.deeper (envOfC qual (defScope st) s.heap.objs.size f cdv)) → sp vs H Q E →
      ∃ t, PSs (cxOf CX0 P w K mg base N qual (defScope st) f cdv A outer s H E).nox (defBody st) t ∧ t { nx := fun _ H' => Q .non H', rt := Q } (start N vs) H) : FnOk P w K mg base CX0 (k + 1) f fd ps sp := by
  obtain ⟨oc, od, kV, doc, pm, an, cdv, ct, osl, rfl, lk, hcd⟩ := F.ex
  refine fn_of lk hcd S len fun A outer s H vs Q E hr hsp => ?_
  obtain ⟨t, h, q⟩ := hbody cdv A outer s H vs Q E hr hsp
  exact ⟨t, h.nox, q⟩
theorem Fun.binds {x qual : Str} {st : Stmt} {f : Addr} {fd : FuncData} {ps : List Str} (F : Fun K x qual st f fd)
    (h : ∀ (kV doc pm : Value) (an : Option Addr) (cdv ct : Value) (us : List Value), us.length = ps.length → bindArgs (PySem.W.fnOf x qual (defArgs st) (defBody st) (defScope st) .none kV doc pm an cdv ct) ⟨us, []⟩ = pure (ps.zip us)) : Binds K fd ps [] := by
  obtain ⟨oc, od, kV, doc, pm, an, cdv, ct, osl, rfl, lk, hcd⟩ := F.ex
  exact .all (h kV doc pm an cdv ct)
theorem fun_mk {x qual : Str} {st : Stmt} {f : Addr} {oc : Value} {od an : Option Addr} {osl : Array (Option Value)} {kV doc pm cdv ct : Value} (l : K.lookup f = some ⟨oc, od, .func (PySem.W.fnOf x qual (defArgs st) (defBody st) (defScope st) .none kV doc pm an cdv ct), osl⟩)
    (c : PySem.W.codeIn K cdv qual = true) (k : PySem.W.keepIn K (.ref f) = true) : Fun K x qual st f (PySem.W.fnOf x qual (defArgs st) (defBody st) (defScope st) .none kV doc pm an cdv ct) := ⟨⟨oc, od, kV, doc, pm, an, cdv, ct, osl, rfl, l, c⟩, k⟩
end
section
variable {X : Cx}
end
theorem iteF {A B : Prop} (h : B) : if false = true then A else B := by
  rw [if_neg Bool.false_ne_true]
  exact h
theorem iteT {A B : Prop} (h : A) : if true = true then A else B := by
  rw [if_pos rfl]
  exact h
theorem ite2 {c A B : Prop} [Decidable c] (h1 : c → A) (h2 : ¬ c → B) : if c then A else B := by
  by_cases h : c
  · rw [if_pos h]
    exact h1 h
  · rw [if_neg h]
    exact h2 h
def Same (H H' : Hp) : Prop := ∀ b o, H b = some o → H' b = some o
theorem Same.refl (H : Hp) : Same H H := fun _ _ h => h
theorem Same.trans {H H1 H2 : Hp} (a : Same H H1) (b : Same H1 H2) : Same H H2 := fun c o h => b c o (a c o h)
theorem Same.free {H H' : Hp} (e : Same H H') {l : Addr} (h : H' l = Option.none) : H l = Option.none := by
  cases q : H l with
  | none => rfl
  | some o =>
    rw [e l o q] at h
    cases h
theorem Same.seq {K : PySem.W.Frag} {H H' : Hp} {a : Addr} {xs : List V} (e : Same H H') (h : SqL K H a xs) : SqL K H' a xs := by
  rcases h with (h | ⟨o, h⟩) | h
  · exact .inl (.inl (e _ _ h))
  · exact .inl (.inr ⟨o, e _ _ h⟩)
  · exact .inr h
end L2
namespace L2
open PySem PySem.Spec PyProof.Rows
section
variable {κ : Type} [DecidableEq κ]
def valV (kvs : List (κ × V)) (k : κ) : Option V := (kvs.find? fun kv => decide (kv.1 = k)).map (·.2)
def putK (kvs : List (κ × V)) (k : κ) (v : V) : List (κ × V) :=
  if (kvs.any fun kv => decide (kv.1 = k)) = true then kvs.map (fun kv => if kv.1 = k then (kv.1, v) else kv) else kvs ++ [(k, v)]
def dropK (kvs : List (κ × V)) (k : κ) : List (κ × V) := kvs.filter fun kv => decide (kv.1 ≠ k)
theorem valV_pos {p : κ × V} {r : List (κ × V)} {k : κ} (e : p.1 = k) : valV (p :: r) k = some p.2 := by simp [valV, List.find?_cons, e]
theorem valV_neg {p : κ × V} {r : List (κ × V)} {k : κ} (e : ¬ p.1 = k) : valV (p :: r) k = valV r k := by simp [valV, List.find?_cons, e]
theorem valV_any (k : κ) : ∀ kvs : List (κ × V), (kvs.any fun kv => decide (kv.1 = k)) = (valV kvs k).isSome
  | [] => rfl
  | p :: r => by
    rw [List.any_cons]
    by_cases e : p.1 = k
    · simp only [valV_pos e, decide_eq_true e, Bool.true_or, Option.isSome_some]
    · rw [valV_neg e, decide_eq_false e, Bool.false_or]; exact valV_any k r
theorem valV_map (k j : κ) (y : V) : ∀ kvs : List (κ × V), valV (kvs.map fun kv => if kv.1 = k then (kv.1, y) else kv) j = (valV kvs j).map fun x => if j = k then y else x
  | [] => rfl
  | p :: r => by
    have ih := valV_map k j y r
    rw [List.map_cons]
    by_cases h : p.1 = k
    · rw [if_pos h]
      by_cases e : p.1 = j
      · rw [valV_pos (p := (p.1, y)) e, valV_pos e, Option.map_some, if_pos (e.symm.trans h)]
      · rw [valV_neg (p := (p.1, y)) e, valV_neg e, ih]
    · rw [if_neg h]
      by_cases e : p.1 = j
      · rw [valV_pos (p := p) e, valV_pos e, Option.map_some, if_neg (fun z => h (e.trans z))]
      · rw [valV_neg (p := p) e, valV_neg e, ih]
theorem valV_snoc (k j : κ) (y : V) : ∀ kvs : List (κ × V), valV kvs k = none → valV (kvs ++ [(k, y)]) j = if j = k then some y else valV kvs j
  | [], _ => by
    by_cases e : k = j
    · rw [if_pos e.symm]; exact valV_pos (p := (k, y)) e
    · rw [if_neg (fun z => e z.symm)]; exact valV_neg (p := (k, y)) e
  | p :: r, hn => by
    rw [List.cons_append]
    have hk : ¬ p.1 = k := fun z => by rw [valV_pos z] at hn; cases hn
    rw [valV_neg hk] at hn
    have ih := valV_snoc k j y r hn
    by_cases e : p.1 = j
    · rw [valV_pos e, valV_pos e, if_neg (fun z => hk (e.trans z))]
    · rw [valV_neg e, valV_neg e, ih]
theorem valV_put (kvs : List (κ × V)) (k j : κ) (y : V) : valV (putK kvs k y) j = if j = k then some y else valV kvs j := by
  unfold putK
  by_cases a : (kvs.any fun kv => decide (kv.1 = k)) = true
  · rw [if_pos a, valV_map]
    rw [valV_any] at a
    by_cases e : j = k
    · obtain ⟨x, hx⟩ := Option.isSome_iff_exists.mp a
      rw [if_pos e, e, hx, Option.map_some, if_pos rfl]
    · rw [if_neg e]
      cases valV kvs j with
      | none => rfl
      | some x => rw [Option.map_some, if_neg e]
  · rw [if_neg a]
    refine valV_snoc k j y kvs ?_
    rw [valV_any] at a
    cases q : valV kvs k with
    | none => rfl
    | some x => rw [q] at a; exact (a rfl).elim
theorem length_putK (kvs : List (κ × V)) (k : κ) (v : V) : (putK kvs k v).length ≤ kvs.length + 1 := by
  unfold putK
  split
  · rw [List.length_map]; omega
  · rw [List.length_append, List.length_cons, List.length_nil]; omega
theorem putK_new {kvs : List (κ × V)} {k : κ} (v : V) (h : valV kvs k = none) : putK kvs k v = kvs ++ [(k, v)] := by
  unfold putK
  rw [valV_any, h]
  exact if_neg (by decide)
theorem RelO.isSome_eq {o : Option V} {u : Option Value} (r : RelO o u) : o.isSome = u.isSome := by
  cases o with
  | none => cases u with
    | none => rfl
    | some _ => exact (show False from r).elim
  | some _ => cases u with
    | none => exact (show False from r).elim
    | some _ => rfl
theorem RelO.getD {o : Option V} {u : Option Value} {d : V} {d' : Value} (r : RelO o u) (rd : RelV d d') : RelV (o.getD d) (u.getD d') := by
  cases o with
  | none => cases u with
    | none => exact rd
    | some _ => exact (show False from r).elim
  | some _ => cases u with
    | none => exact (show False from r).elim
    | some _ => exact r
theorem KV.val {kvs : List (κ × V)} {vs : List (κ × Value)} (r : KV kvs vs) (k : κ) : RelO (valV kvs k) (valueAt vs k) := by
  unfold KV at r
  induction r with
  | nil => exact True.intro
  | @cons p q ps qs h t ih =>
    obtain ⟨h1, h2⟩ := h
    by_cases e : p.1 = k
    · have e' : q.1 = k := h1.symm.trans e
      have b : valueAt (q :: qs) k = some q.2 := by simp [valueAt, List.find?_cons, e']
      rw [valV_pos e, b]; exact h2
    · have e' : ¬ q.1 = k := fun z => e (h1.trans z)
      have b : valueAt (q :: qs) k = valueAt qs k := by simp [valueAt, List.find?_cons, e']
      rw [valV_neg e, b]; exact ih
theorem KV.any {kvs : List (κ × V)} {vs : List (κ × Value)} (r : KV kvs vs) (k : κ) : (kvs.any fun kv => decide (kv.1 = k)) = vs.any fun kv => decide (kv.1 = k) := by
  unfold KV at r
  induction r with
  | nil => rfl
  | cons h t ih => rw [List.any_cons, List.any_cons, ih, h.1]
theorem KV.repl {kvs : List (κ × V)} {vs : List (κ × Value)} (r : KV kvs vs) (k : κ) {y : V} {u : Value} (ry : RelV y u) :
    KV (kvs.map fun kv => if kv.1 = k then (kv.1, y) else kv) (vs.map fun kv => if kv.1 = k then (kv.1, u) else kv) := by
  unfold KV at r ⊢
  induction r with
  | nil => exact .nil
  | @cons p q ps qs h t ih =>
    rw [List.map_cons, List.map_cons]
    refine .cons ?_ ih
    obtain ⟨h1, h2⟩ := h
    by_cases e : p.1 = k
    · rw [if_pos e, if_pos (h1.symm.trans e)]; exact ⟨h1, ry⟩
    · rw [if_neg e, if_neg (fun z => e (h1.trans z))]; exact ⟨h1, h2⟩
theorem KV.put {kvs : List (κ × V)} {vs : List (κ × Value)} (r : KV kvs vs) (k : κ) {y : V} {u : Value} (ry : RelV y u) : KV (putK kvs k y) (stored vs k u) := by
  unfold putK stored
  rw [r.any k]
  by_cases e : (vs.any fun kv => decide (kv.1 = k)) = true
  · rw [if_pos e, if_pos e]; exact r.repl k ry
  · rw [if_neg e, if_neg e]; exact Paired.snoc r ⟨rfl, ry⟩
theorem KV.drop {kvs : List (κ × V)} {vs : List (κ × Value)} (r : KV kvs vs) (k : κ) : KV (dropK kvs k) (without vs k) := by
  unfold KV at r ⊢
  unfold dropK without
  induction r with
  | nil => exact .nil
  | @cons p q ps qs h t ih =>
    obtain ⟨h1, h2⟩ := h
    rw [List.filter_cons, List.filter_cons]
    by_cases e : p.1 = k
    · have a : ¬ decide (p.1 ≠ k) = true := by simp [e]
      have b : ¬ decide (q.1 ≠ k) = true := by simp [h1.symm.trans e]
      rw [if_neg a, if_neg b]; exact ih
    · have e' : ¬ q.1 = k := fun z => e (h1.trans z)
      have a : decide (p.1 ≠ k) = true := by simp [e]
      have b : decide (q.1 ≠ k) = true := by simp [e']
      rw [if_pos a, if_pos b]; exact .cons ⟨h1, h2⟩ ih
theorem KV.keys {kvs : List (κ × V)} {vs : List (κ × Value)} (r : KV kvs vs) : kvs.map (·.1) = vs.map (·.1) := by
  unfold KV at r
  induction r with
  | nil => rfl
  | cons h t ih => rw [List.map_cons, List.map_cons, ih, h.1]
theorem KV.length {kvs : List (κ × V)} {vs : List (κ × Value)} (r : KV kvs vs) : kvs.length = vs.length := Paired.length r
end
theorem kV_is {P : Program} {w : World} {k : Key} {u : Value} (r : RelV (kV k) u) : (mixKind P w).is k u = true := by
  cases k with
  | inl i => obtain ⟨t, e⟩ := (show ∃ t, u = Value.int i t from r); subst e; exact mixKind_int P w i t
  | inr x => obtain ⟨t, e⟩ := (show ∃ t, u = Value.str x t from r); subst e; exact mixKind_str P w x t
theorem items_are {P : Program} {w : World} : ∀ {ks : List Key} {us : List Value}, Vals (ks.map kV) us → ItemsAre (mixKind P w) ks us
  | [], _, r => by rw [List.map_nil] at r; cases r; exact .nil
  | k :: ks, _, r => by
    rw [List.map_cons] at r
    cases r with
    | cons h t => exact .cons (kV_is h) (items_are t)
abbrev KT (H : Hp) : List (List Key × V) → List (List Key × Addr × Value) → Prop := Paired fun p q => p.1 = q.1 ∧ H q.2.1 = some (.tup (p.1.map kV)) ∧ RelV p.2 q.2.2
theorem KT.val {H : Hp} {kvs : List (List Key × V)} {xs : List (List Key × Addr × Value)} (r : KT H kvs xs) (k : List Key) : RelO (valV kvs k) ((atKey xs k).map (·.2)) := by
  induction r with
  | nil => exact True.intro
  | @cons p q ps qs h t ih =>
    obtain ⟨h1, _, h2⟩ := h
    by_cases e : p.1 = k
    · have e' : q.1 = k := h1.symm.trans e
      have b : atKey (q :: qs) k = some q.2 := by simp [atKey, List.find?_cons, e']
      rw [valV_pos e, b]; exact h2
    · have e' : ¬ q.1 = k := fun z => e (h1.trans z)
      have b : atKey (q :: qs) k = atKey qs k := by simp [atKey, List.find?_cons, e']
      rw [valV_neg e, b]; exact ih
theorem KT.repl {H : Hp} {kvs : List (List Key × V)} {xs : List (List Key × Addr × Value)} (r : KT H kvs xs) (k : List Key) {y : V} {u : Value} (ry : RelV y u) :
    KT H (kvs.map fun kv => if kv.1 = k then (kv.1, y) else kv) (xs.map (putAt k u)) := by
  induction r with
  | nil => exact .nil
  | @cons p q ps qs h t ih =>
    rw [List.map_cons, List.map_cons]
    refine .cons ?_ ih
    obtain ⟨h1, h2, h3⟩ := h
    unfold putAt
    by_cases e : p.1 = k
    · rw [if_pos e, if_pos (h1.symm.trans e)]; exact ⟨h1, h2, ry⟩
    · rw [if_neg e, if_neg (fun z => e (h1.trans z))]; exact ⟨h1, h2, h3⟩
theorem KT.put {H : Hp} {kvs : List (List Key × V)} {xs : List (List Key × Addr × Value)} (r : KT H kvs xs) (k : List Key) {b : Addr} {y : V} {u : Value} (hb : H b = some (.tup (k.map kV))) (ry : RelV y u) :
    KT H (putK kvs k y) (storedH xs k b u) := by
  have e : (kvs.any fun kv => decide (kv.1 = k)) = (atKey xs k).isSome := by
    rw [valV_any, (r.val k).isSome_eq, Option.isSome_map]
  unfold putK storedH
  rw [e]
  by_cases q : (atKey xs k).isSome = true
  · rw [if_pos q, if_pos q]; exact r.repl k ry
  · rw [if_neg q, if_neg q]; exact Paired.snoc r ⟨rfl, hb, ry⟩
theorem KT.keeps {H H' : Hp} {kvs : List (List Key × V)} {xs : List (List Key × Addr × Value)} (r : KT H kvs xs) (ht : ∀ b ys, H b = some (.tup ys) → H' b = some (.tup ys)) : KT H' kvs xs :=
  Paired.mapP r fun _ _ z => ⟨z.1, ht _ _ z.2.1, z.2.2⟩
section
variable {P : Program} {w : World} {H : Hp} {h : Heap} {a : Addr}
theorem rd_of {u : HO} (ok : HOk P w H h) (e : Rd H a u) : ObjOk P w H h a u := e.ok ok
theorem dk_rd {kvs : List (Key × V)} (ok : HOk P w H h) (e : Rd H a (.dK kvs)) : kvs.length ≤ sizeLine ∧ (a == sysModules) = false ∧ ∃ vs, KV kvs vs ∧ h.DictOf (mixKind P w) a vs :=
  show ObjOk P w H h a (.dK kvs) from rd_of ok e
theorem dk_of {kvs : List (Key × V)} (ok : HOk P w H h) (e : H a = some (.dK kvs)) : kvs.length ≤ sizeLine ∧ (a == sysModules) = false ∧ ∃ vs, KV kvs vs ∧ h.DictOf (mixKind P w) a vs := dk_rd ok (.inl e)
theorem key_of {ks : List Key} (ok : HOk P w H h) (e : H a = some (.tup (ks.map kV))) : (tupleKind (mixKind P w)).is h ks a := by
  obtain ⟨_, its, r, o, h1, h2, n, h3⟩ := (show ObjOk P w H h a (.tup (ks.map kV)) from ok a _ e)
  exact ⟨o, its.toArray, n, h1, h2, h3, by simpa using items_are r⟩
theorem dt_rd {kvs : List (List Key × V)} (ok : HOk P w H h) (e : Rd H a (.dT kvs)) : kvs.length ≤ sizeLine ∧ (a == sysModules) = false ∧
    ∃ xs, KT H kvs xs ∧ h.DictOfH (tupleKind (mixKind P w)) a xs := by
  obtain ⟨z, y, xs, r, o, es, ep, h1, h2, h3, h4, h5⟩ := (show ObjOk P w H h a (.dT kvs) from rd_of ok e)
  refine ⟨z, y, xs, r, o, es, ep, h1, h2, h3, h4, fun x hx => ?_, h5⟩
  have all : ∀ {l : List (List Key × V)} {m : List (List Key × Addr × Value)}, KT H l m → ∀ x ∈ m, (tupleKind (mixKind P w)).is h x.1 x.2.1 := by
    intro l m q
    induction q with
    | nil => intro x hx; exact nomatch hx
    | @cons p q ps qs hq t ih =>
      intro x hx
      rcases List.mem_cons.mp hx with e | hx
      · subst e
        exact key_of ok (by rw [← hq.1]; exact hq.2.1)
      · exact ih x hx
  exact all r x hx
theorem dt_of {kvs : List (List Key × V)} (ok : HOk P w H h) (e : H a = some (.dT kvs)) : kvs.length ≤ sizeLine ∧ (a == sysModules) = false ∧
    ∃ xs, KT H kvs xs ∧ h.DictOfH (tupleKind (mixKind P w)) a xs := dt_rd ok (.inl e)
end
def DGet (H : Hp) (a : Addr) (y : V) (r : Option V) : Prop :=
  (∃ kvs k, Rd H a (.dK kvs) ∧ y = kV k ∧ r = valV kvs k) ∨ ∃ kvs k b, Rd H a (.dT kvs) ∧ y = .ref b ∧ H b = some (.tup (k.map kV)) ∧ r = valV kvs k
def DPut (H : Hp) (a : Addr) (y v : V) (H' : Hp) : Prop :=
  (∃ kvs k, H a = some (.dK kvs) ∧ y = kV k ∧ kvs.length < sizeLine ∧ H' = upd H a (.dK (putK kvs k v))) ∨
  ∃ kvs k b, H a = some (.dT kvs) ∧ y = .ref b ∧ H b = some (.tup (k.map kV)) ∧ kvs.length < sizeLine ∧ H' = upd H a (.dT (putK kvs k v))
theorem DGet.k {H : Hp} {a : Addr} {kvs : List (Key × V)} {k : Key} (e : H a = some (.dK kvs)) : DGet H a (kV k) (valV kvs k) := .inl ⟨kvs, k, .inl e, rfl, rfl⟩
theorem DGet.t {H : Hp} {a b : Addr} {kvs : List (List Key × V)} {k : List Key} (e : H a = some (.dT kvs)) (eb : H b = some (.tup (k.map kV))) : DGet H a (.ref b) (valV kvs k) := .inr ⟨kvs, k, b, .inl e, rfl, eb, rfl⟩
theorem DPut.k {H : Hp} {a : Addr} {kvs : List (Key × V)} {k : Key} {v : V} (e : H a = some (.dK kvs)) (hl : kvs.length < sizeLine) : DPut H a (kV k) v (upd H a (.dK (putK kvs k v))) := .inl ⟨kvs, k, e, rfl, hl, rfl⟩
theorem DPut.t {H : Hp} {a b : Addr} {kvs : List (List Key × V)} {k : List Key} {v : V} (e : H a = some (.dT kvs)) (eb : H b = some (.tup (k.map kV))) (hl : kvs.length < sizeLine) :
    DPut H a (.ref b) v (upd H a (.dT (putK kvs k v))) := .inr ⟨kvs, k, b, e, rfl, eb, hl, rfl⟩
section
variable {X : Cx} {pins : List (Addr × Obj)} {σ : St} {H : Hp} {s : Shared} {a : Addr} {y v : V} {u r : Value} {o : Option V} {A : Around} {E : Value → Shared → Prop}
theorem Inv.big (I : Inv X pins σ H s) : sysModules < s.heap.objs.size := by
  have h : mainGlobals < s.heap.objs.size := (I.mod.glob.keeps I.bk).lt
  exact Nat.lt_trans (by decide) h
theorem d_getItem {Q : Value → Shared → Prop} (hu : A.units + 1 < cLine) (I : Inv X pins σ H s) (g : DGet H a y (some v)) (ry : RelV y u) (h : ∀ w' s', Inv X pins σ H s' → RelV v w' → Q w' s') :
    wpAny (model X.prog X.w) A (getItem (.ref a) u) Q E s := by
  rcases g with ⟨kvs, k, e, ey, l⟩ | ⟨kvs, k, b, e, ey, eb, l⟩
  · subst ey
    obtain ⟨z, hd, vs, rel, dd⟩ := dk_rd I.hok e
    obtain ⟨w', hw, rw'⟩ := RelO.some_of (v := v) (o := valueAt vs k) (by rw [l]; exact rel.val k)
    exact wpAny_getItem_of (kV_is ry) dd.mapOf hw (h w' _ (I.tok _) rw')
  · subst ey
    cases (show u = Value.ref b from ry)
    obtain ⟨z, hd, xs, rel, dd⟩ := dt_rd I.hok e
    obtain ⟨w', hw, rw'⟩ := RelO.some_of (v := v) (o := (atKey xs k).map (·.2)) (by rw [l]; exact rel.val k)
    obtain ⟨p, hp, hp2⟩ := Option.map_eq_some_iff.mp hw
    refine wpAny_getItem_heap (tupleKind_room_in1 hu) (key_of I.hok eb) dd hp ?_
    rw [hp2]
    exact h w' _ (I.tok _) rw'
theorem d_in {Q : Value → Shared → Prop} (hu : A.units + 1 < cLine) (I : Inv X pins σ H s) (g : DGet H a y o) (ry : RelV y u) (h : ∀ s', Inv X pins σ H s' → Q (.bool o.isSome) s') :
    wpAny (model X.prog X.w) A (compareOp .In u (.ref a)) Q E s := by
  rcases g with ⟨kvs, k, e, ey, l⟩ | ⟨kvs, k, b, e, ey, eb, l⟩
  · subst ey
    obtain ⟨z, hd, vs, rel, dd⟩ := dk_rd I.hok e
    refine wpAny_in_of (kV_is ry) hd dd.mapOf ?_
    rw [← (rel.val k).isSome_eq, ← l]
    exact h _ (I.tok _)
  · subst ey
    cases (show u = Value.ref b from ry)
    obtain ⟨z, hd, xs, rel, dd⟩ := dt_rd I.hok e
    refine wpAny_in_heap (tupleKind_room_in1 hu) (key_of I.hok eb) hd dd ?_
    have q := (rel.val k).isSome_eq
    rw [Option.isSome_map] at q
    rw [← q, ← l]
    exact h _ (I.tok _)
theorem d_notIn {Q : Value → Shared → Prop} (hu : A.units + 1 < cLine) (I : Inv X pins σ H s) (g : DGet H a y o) (ry : RelV y u) (h : ∀ s', Inv X pins σ H s' → Q (.bool (!o.isSome)) s') :
    wpAny (model X.prog X.w) A (compareOp .NotIn u (.ref a)) Q E s := by
  rcases g with ⟨kvs, k, e, ey, l⟩ | ⟨kvs, k, b, e, ey, eb, l⟩
  · subst ey
    obtain ⟨z, hd, vs, rel, dd⟩ := dk_rd I.hok e
    refine wpAny_notIn_of (kV_is ry) hd dd.mapOf ?_
    rw [← (rel.val k).isSome_eq, ← l]
    exact h _ (I.tok _)
  · subst ey
    cases (show u = Value.ref b from ry)
    obtain ⟨z, hd, xs, rel, dd⟩ := dt_rd I.hok e
    refine wpAny_notIn_heap (tupleKind_room_in1 hu) (key_of I.hok eb) hd dd ?_
    have q := (rel.val k).isSome_eq
    rw [Option.isSome_map] at q
    rw [← q, ← l]
    exact h _ (I.tok _)
theorem d_write {h' : Heap} {t' : Nat} {ob : HO} (I : Inv X pins σ H s) (mu : Mut (H a)) (hs : Heap.SameBut a s.heap h') (he : ∃ q, h'.get? a = some q) (new : ObjOk X.prog X.w (upd H a ob) h' a ob) :
    Inv X pins σ (upd H a ob) { s with heap := h', toks := t' } :=
  I.write (x := a) (e := a) mu (.inl rfl) (fun b q hb z => (hs.2 b hb).trans z) he new
theorem dk_new {P : Program} {w : World} {H' : Hp} {h' : Heap} {kvs : List (Key × V)} {vs : List (Key × Value)} (z : kvs.length ≤ sizeLine) (hd : (a == sysModules) = false) (rel : KV kvs vs) (dd : h'.DictOf (mixKind P w) a vs) :
    ObjOk P w H' h' a (.dK kvs) := ⟨z, hd, vs, rel, dd⟩
theorem d_setItem {H' : Hp} {Q : Unit → Shared → Prop} (hu : A.units + 1 < cLine) (I : Inv X pins σ H s) (g : DPut H a y v H') (ry : RelV y u) (rv : RelV v r) (h : ∀ s', Inv X pins σ H' s' → Q () s') :
    wpAny (model X.prog X.w) A (setItem (.ref a) u r) Q E s := by
  rcases g with ⟨kvs, k, e, ey, l, eH⟩ | ⟨kvs, k, b, e, ey, eb, l, eH⟩
  · subst ey eH
    obtain ⟨z, hd, vs, rel, dd⟩ := dk_of I.hok e
    have hz : vs.length ≤ sizeLine := by rw [← rel.length]; exact z
    have hl : (putK kvs k v).length ≤ sizeLine := by have := length_putK kvs k v; omega
    refine wpAny_setItem_pairs (hsz := hz) (kV_is ry) dd fun h' dd' hs => h _ ?_
    have he : ∃ q, h'.get? a = some q := let ⟨q, _, _, hq, _⟩ := dd'; ⟨q, hq⟩
    exact d_write I (by rw [e]; exact True.intro) hs he (dk_new hl hd (rel.put k rv) dd')
  · subst ey eH
    cases (show u = Value.ref b from ry)
    obtain ⟨z, hd, xs, rel, dd⟩ := dt_of I.hok e
    have hz : xs.length ≤ sizeLine := by rw [← Paired.length rel]; exact z
    have hl : (putK kvs k v).length ≤ sizeLine := by have := length_putK kvs k v; omega
    refine wpAny_setItem_heap (hsz := hz) (tupleKind_room_in1 hu) (key_of I.hok eb) dd fun h' dd' hs => h _ ?_
    obtain ⟨q, es, ep, hq, h2, h3, h4, _, h5⟩ := dd'
    refine d_write I (by rw [e]; exact True.intro) hs ⟨q, hq⟩ ⟨hl, hd, _, (rel.put k eb rv).keeps fun c ys ec => ?_, q, es, ep, hq, h2, h3, h4, h5⟩
    rw [upd_ne (ne_of ec e (fun z => nomatch z))]
    exact ec
end
section
variable {X : Cx} {pins : List (Addr × Obj)} {σ : St} {H : Hp} {s : Shared} {a : Addr} {kvs : List (Key × V)} {k : Key} {u : Value} {A : Around} {E : Value → Shared → Prop}
end
def NoSl (i : Expr) : Prop := ∀ ov iv, subscripted i false ov iv = operate [ov, iv] (getItem ov iv)
theorem subD_of {prog : Program} {w : World} {A : Around} {E : Value → Shared → Prop} {s : Shared} {env : Env} {value slice : Expr} {pos : Pos} {T id : String} {Q : Value → Shared → Prop}
    (hl : typeLookup (.type T) "__getitem__" = pure (some (.builtin id))) (hs : NoSl slice)
    (h : wpAny (model prog w) A (eval value env) (fun o s₁ => wpAny (model prog w) A (eval slice env) (fun i s₂ => s₂.TypeIs o T ∧ wpAny (model prog w) A (getItem o i) Q E s₂) E s₁) E s) :
    wpAny (model prog w) A (eval (.Subscript value slice pos) env) Q E s := by
  refine Subscript_ (wpAny_mono h (fun o s₁ h₁ => wpAny_mono h₁ (fun i s₂ h₂ => ?_) fun _ _ x => x) fun _ _ x => x)
  obtain ⟨hT, h₂⟩ := h₂
  unfold subscriptTail
  refine wpAny_bind ?_
  rw [getitemInPython_of_ne hT.not_modules]
  refine wpAny_bind (wpAny_specialOf hT hl ?_)
  have fin : wpAny (model prog w) A (subscripted slice false o i) (fun r s₃ => wpAny (model prog w) A (letTemporaryGo value o r >>= fun _ => pure r) Q E s₃) E s₂ := by
    rw [hs o i]
    exact wpAny_operating (wpAny_mono h₂ (fun r s₃ h₃ => wpAny_bind (wpAny_letTemporaryGo (wpAny_pure h₃))) fun _ _ x => x)
  first
    | exact wpAny_pure (wpAny_bind fin)
    | exact wpAny_bind (wpAny_pure (wpAny_bind fin))
    | exact wpAny_bind fin
theorem dict_typeIs {X : Cx} {pins : List (Addr × Obj)} {σ : St} {H : Hp} {s : Shared} {a : Addr} {y : V} {o : Option V} (I : Inv X pins σ H s) (g : DGet H a y o) : s.TypeIs (.ref a) "dict" := by
  rcases g with ⟨kvs, k, e, _, _⟩ | ⟨kvs, k, b, e, _, _, _⟩
  · obtain ⟨_, _, vs, _, dd⟩ := dk_rd I.hok e
    exact dd.typeIs
  · obtain ⟨_, _, xs, _, dd⟩ := dt_rd I.hok e
    exact dd.typeIs
def tDGet (td ty : TE) : TE := fun σ H Q => td σ H fun x H1 => ty σ H1 fun y H2 => ∃ a v, x = .ref a ∧ DGet H2 a y (some v) ∧ Q v H2
def tDIn (ty td : TE) : TE := fun σ H Q => ty σ H fun y H1 => td σ H1 fun x H2 => ∃ a o, x = .ref a ∧ DGet H2 a y o ∧ Q (.bl o.isSome) H2
def tDNotIn (ty td : TE) : TE := fun σ H Q => ty σ H fun y H1 => td σ H1 fun x H2 => ∃ a o, x = .ref a ∧ DGet H2 a y o ∧ Q (.bl (!o.isSome)) H2
def sDPut (td ty tv : TE) : TS := fun D σ H => tv σ H fun v H1 => td σ H1 fun x H2 => ty σ H2 fun y H3 => ∃ a H4, x = .ref a ∧ DPut H3 a y v H4 ∧ D.nx σ H4
def sDAug (td ty tv : TE) (rd : V → V → Hp → VK → Prop) : TS := fun D σ H => td σ H fun x H1 => ty σ H1 fun y H2 => ∃ a v, x = .ref a ∧ DGet H2 a y (some v) ∧
  tv σ H2 fun y2 H3 => rd v y2 H3 fun z H4 => ∃ H5, DPut H4 a y z H5 ∧ D.nx σ H5
def sDDel (td ty : TE) : TS := fun D σ H => td σ H fun x H1 => ty σ H1 fun y H2 => ∃ a kvs k, x = .ref a ∧ H2 a = some (.dK kvs) ∧ y = kV k ∧ (valV kvs k).isSome = true ∧ D.nx σ (upd H2 a (.dK (dropK kvs k)))
section
variable {X : Cx} {o i e value : Expr} {pos pos' tpos : Pos} {td ty tv : TE}
theorem pe_dget (hu : X.A.units + 1 < cLine) (ho : PE X o td) (hi : PE X i ty) (hs : NoSl i) : PE X (.Subscript o i pos) (tDGet td ty) := by
  intro pins s σ H Q I h
  refine subD_of PySem.F.slot_dict_getitem.lookup hs (thn (ho pins s σ H _ I h) fun u s1 ⟨x, H1, I1, rx, q1⟩ => thn (hi pins s1 σ H1 _ I1 q1) fun iv s2 ⟨y, H2, I2, ry, a, v, ex, g, q2⟩ => ?_)
  subst ex
  obtain rfl : u = Value.ref a := rx
  exact ⟨dict_typeIs I2 g, d_getItem hu I2 g ry fun w' s3 I3 rw' => ⟨v, H2, I3, rw', q2⟩⟩
theorem pc_din (hu : X.A.units + 1 < cLine) (hi : PE X i ty) (ho : PE X o td) : PC X .In i o (tDIn ty td) := by
  intro pins s σ H Q I h
  refine thn (hi pins s σ H _ I h) fun iv s1 ⟨y, H1, I1, ry, q1⟩ => thn (ho pins s1 σ H1 _ I1 q1) fun u s2 ⟨x, H2, I2, rx, a, ov, ex, g, q2⟩ => ?_
  subst ex
  obtain rfl : u = Value.ref a := rx
  exact d_in hu I2 g ry fun s3 I3 => ⟨.bl ov.isSome, H2, I3, rfl, q2⟩
theorem pc_dnotin (hu : X.A.units + 1 < cLine) (hi : PE X i ty) (ho : PE X o td) : PC X .NotIn i o (tDNotIn ty td) := by
  intro pins s σ H Q I h
  refine thn (hi pins s σ H _ I h) fun iv s1 ⟨y, H1, I1, ry, q1⟩ => thn (ho pins s1 σ H1 _ I1 q1) fun u s2 ⟨x, H2, I2, rx, a, ov, ex, g, q2⟩ => ?_
  subst ex
  obtain rfl : u = Value.ref a := rx
  exact d_notIn hu I2 g ry fun s3 I3 => ⟨.bl (!ov.isSome), H2, I3, rfl, q2⟩
theorem ps_dput (hu : X.A.units + 1 < cLine) (ho : PE X o td) (hi : PE X i ty) (hv : PE X value tv) (hs : swapsWith value (some (.Subscript o i pos')) pos.line X.env = pure false) :
    PS X (.Assign [.Subscript o i pos'] value pos) (sDPut td ty tv) := by
  intro pins s σ H D I h
  refine wpAny_Assign_Subscript (thn (hv pins s σ H _ I h) fun r s1 ⟨v, H1, I1, rv, q1⟩ => thn (ho pins s1 σ H1 _ I1 q1) fun u s2 ⟨x, H2, I2, rx, q2⟩ => thn (hi pins s2 σ H2 _ I2 q2) fun iv s3 ⟨y, H3, I3, ry, a, H4, ex, g, q3⟩ => ?_) hs
  subst ex
  obtain rfl : u = Value.ref a := rx
  exact d_setItem hu I3 g ry rv fun s4 I4 => ⟨σ, H4, I4, q3⟩
end
theorem dk_empty {P : Program} {w : World} {H : Hp} (h : Heap) (hb : sysModules < h.objs.size) : ObjOk P w H (h.push { cls := .type "dict", data := .dict #[] }) h.objs.size (.dK []) :=
  ⟨Nat.zero_le _, beq_eq_false_iff_ne.mpr (Ne.symm (Nat.ne_of_lt hb)), [], .nil, Heap.DictOf.new h⟩
theorem dt_empty {P : Program} {w : World} {H : Hp} (h : Heap) (hb : sysModules < h.objs.size) : ObjOk P w H (h.push { cls := .type "dict", data := .dict #[] }) h.objs.size (.dT []) :=
  ⟨Nat.zero_le _, beq_eq_false_iff_ne.mpr (Ne.symm (Nat.ne_of_lt hb)), [], .nil, _, #[], 0, Heap.get?_push_size _ rfl, ⟨rfl, rfl, rfl⟩, rfl, rfl, List.nodup_nil⟩
def tDNewK : TE := fun _ H Q => ∀ p, H p = none → Q (.ref p) (upd H p (.dK []))
def tDNewT : TE := fun _ H Q => ∀ p, H p = none → Q (.ref p) (upd H p (.dT []))
section
variable {X : Cx} {pos : Pos}
theorem pe_dnewK : PE X (.Dict [] [] pos) tDNewK := fun pins s σ H Q I h =>
  wpAny_Dict_empty ⟨.ref s.heap.objs.size, _, I.laid (a := s.heap.objs.size) (o := .dK []) (t' := s.toks) (fun _ _ q => Heap.get?_push_of_some _ q) (Nat.le_refl _) (dk_empty s.heap I.big), rfl, h _ (I.hok.fresh (Nat.le_refl _))⟩
theorem pe_dnewT : PE X (.Dict [] [] pos) tDNewT := fun pins s σ H Q I h =>
  wpAny_Dict_empty ⟨.ref s.heap.objs.size, _, I.laid (a := s.heap.objs.size) (o := .dT []) (t' := s.toks) (fun _ _ q => Heap.get?_push_of_some _ q) (Nat.le_refl _) (dt_empty s.heap I.big), rfl, h _ (I.hok.fresh (Nat.le_refl _))⟩
end
def tPairs : List (TE × TE) → St → Hp → (List (V × V) → Hp → Prop) → Prop
  | [], _, H, Q => Q [] H
  | (tk, tv) :: r, σ, H, Q => tk σ H fun x H1 => tv σ H1 fun y H2 => tPairs r σ H2 fun ps H3 => Q ((x, y) :: ps) H3
abbrev VV : List (V × V) → List (Value × Value) → Prop := Paired fun p q => RelV p.1 q.1 ∧ RelV p.2 q.2
def PPs (X : Cx) (pos : Pos) (keys : List (Option Expr)) (values : List Expr) (trs : List (TE × TE)) : Prop :=
  ∀ (pins : List (Addr × Obj)) (s : Shared) (σ : St) (H : Hp) (Q : List (V × V) → Hp → Prop), Inv X pins σ H s → tPairs trs σ H Q →
    wpAny (model X.prog X.w) X.A (evalPairs (pairTrees keys values X.env pos)) (fun vs s' => ∃ ps H', Inv X pins σ H' s' ∧ VV ps vs ∧ Q ps H') X.xe s
def mergeK (kvs more : List (Key × V)) : List (Key × V) := more.foldl (fun acc kv => putK acc kv.1 kv.2) kvs
def tDisp (trs : List (TE × TE)) : TE := fun σ H Q => ∀ p, H p = none → tPairs trs σ (upd H p (.dK [])) fun ps H2 => H2 p = some (.dK []) ∧ ∃ kvs : List (Key × V), ps = kvs.map (fun kv => (kV kv.1, kv.2)) ∧ kvs.length ≤ 15 ∧ Q (.ref p) (upd H2 p (.dK (mergeK [] kvs)))
structure M1 (X : Cx) (o : Expr) (m : Str) (apos : Pos) (e : Expr) (cpos : Pos) : Prop where
  base : attributeBase o m X.env (eval o X.env) = eval o X.env
  few : ((backTo cpos (starEach [e] X.env)).all (fun x => !x.1) && (backToKw cpos (keywordEach [] X.env)).all (fun x => x.1.isSome)
    && decide (([e] : List Expr).length + ([] : List Keyword).length + (if ([] : List Keyword).isEmpty then 0 else 1) < 30)) = true
  line : (apos.endLine == cpos.line) = true
  trees : backTo cpos (starEach [e] X.env) = [(false, eval e X.env)]
structure M2 (X : Cx) (o : Expr) (m : Str) (apos : Pos) (e f : Expr) (cpos : Pos) : Prop where
  base : attributeBase o m X.env (eval o X.env) = eval o X.env
  few : ((backTo cpos (starEach [e, f] X.env)).all (fun x => !x.1) && (backToKw cpos (keywordEach [] X.env)).all (fun x => x.1.isSome)
    && decide (([e, f] : List Expr).length + ([] : List Keyword).length + (if ([] : List Keyword).isEmpty then 0 else 1) < 30)) = true
  line : (apos.endLine == cpos.line) = true
  trees : backTo cpos (starEach [e, f] X.env) = [(false, eval e X.env), (false, eval f X.env)]
def IsD (H : Hp) (a : Addr) : Prop := (∃ kvs, Rd H a (.dK kvs)) ∨ ∃ kvs, Rd H a (.dT kvs)
theorem isD_at {X : Cx} {pins : List (Addr × Obj)} {σ : St} {H : Hp} {s : Shared} {a : Addr} (I : Inv X pins σ H s) (d : IsD H a) :
    s.TypeIs (.ref a) "dict" ∧ (∀ b, Value.ref a = .ref b → ∃ ob, s.heap.get? b = some ob ∧ ob.dict = none) ∧ (a == sysModules) = false := by
  rcases d with ⟨kvs, e⟩ | ⟨kvs, e⟩
  · obtain ⟨_, hd, vs, _, dd⟩ := dk_rd I.hok e
    refine ⟨dd.typeIs, fun b q => ?_, hd⟩
    cases q
    obtain ⟨ob, _, _, h1, h2, _⟩ := dd
    exact ⟨ob, h1, h2.2.1⟩
  · obtain ⟨_, hd, xs, _, dd⟩ := dt_rd I.hok e
    refine ⟨dd.typeIs, fun b q => ?_, hd⟩
    cases q
    obtain ⟨ob, _, _, h1, h2, _⟩ := dd
    exact ⟨ob, h1, h2.2.1⟩
section
variable {X : Cx} {pins : List (Addr × Obj)} {σ : St} {H : Hp} {s : Shared} {a : Addr} {y d : V} {u r : Value} {o : Option V} {A : Around} {E : Value → Shared → Prop}
theorem d_get2 {Q : Value → Shared → Prop} (hu : A.units + 1 < cLine) (I : Inv X pins σ H s) (g : DGet H a y o) (ry : RelV y u) (rd : RelV d r) (h : ∀ w' s', Inv X pins σ H s' → RelV (o.getD d) w' → Q w' s') :
    wpAny (model X.prog X.w) A (call (.builtin "dict.get") [.ref a, u, r]) Q E s := by
  rcases g with ⟨kvs, k, e, ey, l⟩ | ⟨kvs, k, b, e, ey, eb, l⟩
  · subst ey
    obtain ⟨z, hd, vs, rel, dd⟩ := dk_rd I.hok e
    refine call_meetsIn PySem.F.slot_dict_get dd.typeIs PySem.F.entry_dict_get (PySem.F.args_dict_get_3 _ _ _) (meets_dict_get_default (mixKind X.prog X.w) a (kV_is ry) hd r) ⟨_, dd.mapOf, h _ _ (I.tok _) ?_⟩
    rw [l]
    exact (rel.val k).getD rd
  · subst ey
    cases (show u = Value.ref b from ry)
    obtain ⟨z, hd, xs, rel, dd⟩ := dt_rd I.hok e
    refine call_meetsIn PySem.F.slot_dict_get dd.typeIs PySem.F.entry_dict_get (PySem.F.args_dict_get_3 _ _ _) (meetsH_dict_get_default (tupleKind (mixKind X.prog X.w)) a b hd r) ⟨tupleKind_room_in1 hu, k, xs, key_of I.hok eb, dd, h _ _ (I.tok _) ?_⟩
    rw [l]
    exact (rel.val k).getD rd
end
def tDGet1 (td ty : TE) : TE := fun σ H Q => td σ H fun x H1 => ∃ a, x = .ref a ∧ IsD H1 a ∧ ty σ H1 fun y H2 => ∃ o, DGet H2 a y o ∧ Q (o.getD .non) H2
def tDGet2 (td ty tx : TE) : TE := fun σ H Q => td σ H fun x H1 => ∃ a, x = .ref a ∧ IsD H1 a ∧ ty σ H1 fun y H2 => tx σ H2 fun z H3 => ∃ o, DGet H3 a y o ∧ Q (o.getD z) H3
def tDPop1 (td ty : TE) : TE := fun σ H Q => td σ H fun x H1 => ∃ a, x = .ref a ∧ IsD H1 a ∧ ty σ H1 fun y H2 => ∃ kvs k v, H2 a = some (.dK kvs) ∧ y = kV k ∧ valV kvs k = some v ∧ Q v (upd H2 a (.dK (dropK kvs k)))
def tDPop2 (td ty tx : TE) : TE := fun σ H Q => td σ H fun x H1 => ∃ a, x = .ref a ∧ IsD H1 a ∧ ty σ H1 fun y H2 => tx σ H2 fun z H3 => ∃ kvs k, H3 a = some (.dK kvs) ∧ y = kV k ∧
  (∀ v, valV kvs k = some v → Q v (upd H3 a (.dK (dropK kvs k)))) ∧ (valV kvs k = none → Q z H3)
section
variable {X : Cx} {o e f : Expr} {apos cpos : Pos} {td ty tx : TE}
theorem pe_dget2 (hu : X.A.units + 1 < cLine) (ho : PE X o td) (he : PE X e ty) (hf : PE X f tx) (m : M2 X o "get" apos e f cpos) : PE X (.Call (.Attribute o "get" apos) [e, f] [] cpos) (tDGet2 td ty tx) := by
  intro pins s σ H Q I h
  refine wpAny_Call_method m.base m.few m.line PySem.F.plainAttrs_dict PySem.F.slot_dict_get PySem.F.type_dict_get (thn (ho pins s σ H _ I h) fun u s1 ⟨x, H1, I1, rx, a, ex, d, q1⟩ => ?_)
  subst ex
  obtain rfl : u = Value.ref a := rx
  obtain ⟨t1, t2, _⟩ := isD_at I1 d
  refine ⟨t1, t2, ?_⟩
  rw [m.trees]
  refine Calls.callWith_builtin rfl (Calls.evalArgs_plain (Calls.spliced_cons (thn (he pins s1 σ H1 _ I1 q1) fun iv s2 ⟨y, H2, I2, ry, q2⟩ =>
    Calls.spliced_cons (thn (hf pins s2 σ H2 _ I2 q2) fun fv s3 ⟨z, H3, I3, rz, ov, g, q3⟩ => Calls.spliced_nil ?_))))
  exact d_get2 hu I3 g ry rz fun w' s4 I4 rw' => ⟨_, H3, I4, rw', q3⟩
end
section
variable {X : Cx} {pins : List (Addr × Obj)} {σ : St} {H : Hp} {s : Shared} {a : Addr} {kvs : List (Key × V)} {A : Around} {E : Value → Shared → Prop}
end
section
variable {X : Cx} {pins : List (Addr × Obj)} {σ : St} {H : Hp} {s : Shared} {a : Addr} {y : V} {u : Value} {A : Around} {E : Value → Shared → Prop}
end
end L2
namespace L2
open PySem PySem.Spec PyProof.Rows
section
variable {X : Cx}
end
section
variable {κ : Type} [DecidableEq κ]
theorem nd_snoc : ∀ {l : List κ} {k : κ}, l.Nodup → ¬ k ∈ l → (l ++ [k]).Nodup
  | [], k, _, _ => by simp
  | a :: r, k, h, hk => by
    obtain ⟨h1, h2⟩ := List.nodup_cons.mp h
    show (a :: (r ++ [k])).Nodup
    refine List.nodup_cons.mpr ⟨fun m => ?_, nd_snoc h2 fun m => hk (List.mem_cons.mpr (Or.inr m))⟩
    rcases List.mem_append.mp m with q | q
    · exact h1 q
    · exact hk (List.mem_cons.mpr (Or.inl (List.mem_singleton.mp q).symm))
end
end L2
set_option maxHeartbeats 4000000
namespace SetT
open PySem
def lcg (m i : Nat) : Nat := (i * 5 + 1) % m
def orb (m : Nat) : Nat → Nat → List Nat
  | 0, _ => []
  | n + 1, i => i :: orb m n (lcg m i)
def itr (m : Nat) : Nat → Nat → Nat
  | 0, i => i
  | n + 1, i => itr m n (lcg m i)
theorem itr_add (m : Nat) : ∀ a b i, itr m (a + b) i = itr m b (itr m a i)
  | 0, b, i => by rw [Nat.zero_add]; rfl
  | a + 1, b, i => by
    rw [show a + 1 + b = (a + b) + 1 by omega]
    exact itr_add m a b (lcg m i)
theorem orb_mem (m : Nat) : ∀ n t i, t < n → itr m t i ∈ orb m n i
  | 0, _, _, h => by omega
  | n + 1, 0, i, _ => List.mem_cons_self
  | n + 1, t + 1, i, h => List.mem_cons_of_mem _ (orb_mem m n t (lcg m i) (by omega))
theorem orb_of (m : Nat) : ∀ n i j, j ∈ orb m n i → ∃ t, t < n ∧ itr m t i = j
  | 0, _, _, h => by cases h
  | n + 1, i, j, h => by
    rcases List.mem_cons.mp h with rfl | h
    · exact ⟨0, Nat.succ_pos _, rfl⟩
    · obtain ⟨t, ht, e⟩ := orb_of m n (lcg m i) j h
      exact ⟨t + 1, Nat.succ_lt_succ ht, e⟩
def covers (m : Nat) : Bool := itr m m 0 == 0 && (List.range m).all fun j => (orb m m 0).contains j
theorem covers8 : covers 8 = true := by decide +kernel
theorem covers16 : covers 16 = true := by decide +kernel
theorem covers32 : covers 32 = true := by decide +kernel
theorem covers64 : covers 64 = true := by decide +kernel
theorem covers128 : covers 128 = true := by decide +kernel
def Pow (m : Nat) : Prop := m = 8 ∨ m = 16 ∨ m = 32 ∨ m = 64 ∨ m = 128
theorem Pow.covers {m : Nat} (h : Pow m) : SetT.covers m = true := by
  rcases h with rfl | rfl | rfl | rfl | rfl
  · exact covers8
  · exact covers16
  · exact covers32
  · exact covers64
  · exact covers128
theorem Pow.pos {m : Nat} (h : Pow m) : 8 ≤ m ∧ m ≤ 128 := by rcases h with rfl | rfl | rfl | rfl | rfl <;> decide
theorem Pow.mem {m i j : Nat} (h : Pow m) (hi : i < m) (hj : j < m) : j ∈ orb m m i := by
  have q := h.covers
  unfold SetT.covers at q
  rw [Bool.and_eq_true, List.all_eq_true, beq_iff_eq] at q
  obtain ⟨z, q⟩ := q
  obtain ⟨a, ha, ea⟩ := orb_of m m 0 i (List.contains_iff_mem.mp (q i (List.mem_range.mpr hi)))
  obtain ⟨b, hb, eb⟩ := orb_of m m 0 j (List.contains_iff_mem.mp (q j (List.mem_range.mpr hj)))
  rcases Nat.lt_or_ge b a with c | c
  · have e : itr m (b + m - a) i = j := by
      rw [← ea, ← itr_add, show a + (b + m - a) = m + b by omega, itr_add, z, eb]
    rw [← e]
    exact orb_mem m m _ i (by omega)
  · have e : itr m (b - a) i = j := by
      rw [← ea, ← itr_add, show a + (b - a) = b by omega, eb]
    rw [← e]
    exact orb_mem m m _ i (by omega)
def spots (mask : Nat) : Nat → Nat → Nat → List Nat
  | 0, _, _ => []
  | n + 1, i, p => i :: spots mask n (SetTable.leap mask i p).1 (SetTable.leap mask i p).2
theorem spots_zero (mask : Nat) : ∀ n i, spots mask n i 0 = orb (mask + 1) n i
  | 0, _ => rfl
  | n + 1, i => by
    show i :: spots mask n ((i * 5 + 1 + 0 / 32) % (mask + 1)) (0 / 32) = i :: orb (mask + 1) n (lcg (mask + 1) i)
    rw [show (0 / 32 : Nat) = 0 by decide, Nat.add_zero, spots_zero mask n]
    rfl
theorem leap_lt {mask i p : Nat} : (SetTable.leap mask i p).1 < mask + 1 := Nat.mod_lt _ (Nat.succ_pos _)
theorem spots_late {mask : Nat} : ∀ (t n i p : Nat), i < mask + 1 → p < 32 ^ t → ∃ i', i' < mask + 1 ∧ ∀ j ∈ orb (mask + 1) n i', j ∈ spots mask (t + n) i p
  | 0, n, i, p, hi, hp => by
    have e : p = 0 := by simpa using hp
    subst e
    refine ⟨i, hi, fun j hj => ?_⟩
    rw [Nat.zero_add, spots_zero]
    exact hj
  | t + 1, n, i, p, hi, hp => by
    have h2 : p / 32 < 32 ^ t := by
      rw [Nat.div_lt_iff_lt_mul (by decide)]
      rw [Nat.pow_succ] at hp
      exact hp
    obtain ⟨i', h', q⟩ := spots_late t n (SetTable.leap mask i p).1 (p / 32) leap_lt h2
    refine ⟨i', h', fun j hj => ?_⟩
    rw [show t + 1 + n = (t + n) + 1 by omega]
    exact List.mem_cons_of_mem _ (q j hj)
theorem spots_all {mask i p j : Nat} (hm : Pow (mask + 1)) (hi : i < mask + 1) (hp : p < 2 ^ 64) (hj : j < mask + 1) : j ∈ spots mask (mask + 15) i p := by
  obtain ⟨i', h', q⟩ := spots_late (mask := mask) 14 (mask + 1) i p hi (Nat.lt_of_lt_of_le hp (by decide))
  have := q j (hm.mem h' hj)
  rwa [show 14 + (mask + 1) = mask + 15 by omega] at this
abbrev Own := Array (Option Nat)
def nil? (owner : Own) (j : Nat) : Bool := (owner.getD j (some 0)).isNone
theorem run_self (mask i : Nat) : i ≤ SetTable.runEnd mask i := by unfold SetTable.runEnd; split <;> omega
theorem free_none {mask : Nat} {owner : Own} : ∀ {fuel i p : Nat}, SetTable.layClean.free mask owner fuel i p = none → ∀ j ∈ spots mask fuel i p, nil? owner j = false
  | 0, _, _, _, j, hj => by cases hj
  | fuel + 1, i, p, h, j, hj => by
    unfold SetTable.layClean.free at h
    split at h
    · cases h
    · rename_i hf
      rcases List.mem_cons.mp hj with rfl | hj
      · have := List.find?_eq_none.mp hf 0 (List.mem_range.mpr (by have := run_self mask j; omega))
        rw [Nat.add_zero] at this
        exact Bool.eq_false_iff.mpr this
      · exact free_none (fuel := fuel) h j hj
theorem free_some {mask : Nat} {owner : Own} : ∀ {fuel i p j : Nat}, SetTable.layClean.free mask owner fuel i p = some j → nil? owner j = true
  | 0, _, _, _, h => by cases h
  | fuel + 1, i, p, j, h => by
    unfold SetTable.layClean.free at h
    split at h
    · rename_i k hf
      cases h
      have := List.find?_some hf
      exact this
    · exact free_some (fuel := fuel) h
theorem nil?_iff {owner : Own} {j : Nat} : nil? owner j = true ↔ owner[j]? = some none := by
  unfold nil?
  rw [Array.getD_eq_getD_getElem?]
  cases h : owner[j]? with
  | none => simp
  | some v => cases v <;> simp
structure Lies (m : Nat) (owner : Own) (k : Nat) : Prop where
  size : owner.size = m
  lt : ∀ (j v : Nat), owner[j]? = some (some v) → v < k
  has : ∀ v : Nat, v < k → ∃ j : Nat, owner[j]? = some (some v)
  inj : ∀ (i j v : Nat), owner[i]? = some (some v) → owner[j]? = some (some v) → i = j
theorem Lies.start (m : Nat) : Lies m (Array.replicate m none) 0 where
  size := by simp
  lt := fun j v h => by
    rw [Array.getElem?_replicate] at h
    split at h <;> cases h
  has := fun v h => by omega
  inj := fun i j v h => by
    rw [Array.getElem?_replicate] at h
    split at h <;> cases h
theorem Lies.put {m k j : Nat} {owner : Own} (L : Lies m owner k) (hj : owner[j]? = some none) : Lies m (owner.setIfInBounds j (some k)) (k + 1) := by
  have hlt : j < owner.size := by
    rcases Nat.lt_or_ge j owner.size with h | h
    · exact h
    · rw [Array.getElem?_eq_none h] at hj; cases hj
  have at' : ∀ i : Nat, (owner.setIfInBounds j (some k))[i]? = if j = i then some (some k) else owner[i]? := by
    intro i
    rw [Array.getElem?_setIfInBounds]
    split
    · rename_i e; subst e; first | rfl | rw [if_pos hlt]
    · rfl
  refine ⟨by rw [Array.size_setIfInBounds]; exact L.size, fun i v h => ?_, fun v h => ?_, fun a b v ha hb => ?_⟩
  · rw [at'] at h
    split at h
    · cases h; exact Nat.lt_succ_self _
    · exact Nat.lt_succ_of_lt (L.lt i v h)
  · rcases Nat.lt_succ_iff_lt_or_eq.mp h with h | rfl
    · obtain ⟨i, hi⟩ := L.has v h
      refine ⟨i, ?_⟩
      rw [at', if_neg (fun e => by subst e; rw [hj] at hi; cases hi)]
      exact hi
    · exact ⟨j, by rw [at', if_pos rfl]⟩
  · rw [at'] at ha hb
    split at ha
    · rename_i e
      cases ha
      split at hb
      · rename_i e2; exact e.symm.trans e2
      · have := L.lt b k hb; omega
    · split at hb
      · cases hb; have := L.lt a k ha; omega
      · exact L.inj a b v ha hb
def live (m : Nat) (owner : Own) : List (Nat × Nat) := (List.range m).filterMap fun j => (owner.getD j none).map (j, ·)
theorem getD_some {owner : Own} {j v : Nat} : owner.getD j none = some v ↔ owner[j]? = some (some v) := by
  rw [Array.getD_eq_getD_getElem?]
  cases h : owner[j]? with
  | none => simp
  | some x => simp
theorem mem_live {m : Nat} {owner : Own} {p : Nat × Nat} : p ∈ live m owner ↔ p.1 < m ∧ owner[p.1]? = some (some p.2) := by
  unfold live
  rw [List.mem_filterMap]
  constructor
  · rintro ⟨j, hj, e⟩
    cases hv : owner.getD j none with
    | none => rw [hv] at e; cases e
    | some v =>
      rw [hv] at e
      cases e
      exact ⟨List.mem_range.mp hj, getD_some.mp hv⟩
  · rintro ⟨h1, h2⟩
    exact ⟨p.1, List.mem_range.mpr h1, by rw [getD_some.mpr h2]; rfl⟩
theorem Lies.nodup {m k : Nat} {owner : Own} (L : Lies m owner k) : ((live m owner).map (·.2)).Nodup := by
  have q : ∀ l : List Nat, l.Nodup → ((l.filterMap fun j => (owner.getD j none).map (j, ·)).map (·.2)).Nodup := by
    intro l
    induction l with
    | nil => intro _; exact List.nodup_nil
    | cons a r ih =>
      intro hn
      rw [List.nodup_cons] at hn
      rw [List.filterMap_cons]
      cases hv : owner.getD a none with
      | none => exact ih hn.2
      | some v =>
        show (v :: (r.filterMap fun j => (owner.getD j none).map (j, ·)).map (·.2)).Nodup
        rw [List.nodup_cons]
        refine ⟨fun h => ?_, ih hn.2⟩
        obtain ⟨p, hp, e⟩ := List.mem_map.mp h
        obtain ⟨j, hj, e2⟩ := List.mem_filterMap.mp hp
        cases hw : owner.getD j none with
        | none => rw [hw] at e2; cases e2
        | some u =>
          rw [hw] at e2
          cases e2
          have e3 : u = v := e
          subst e3
          have := L.inj a j u (getD_some.mp hv) (getD_some.mp hw)
          subst this
          exact hn.1 hj
  exact q _ List.nodup_range
theorem Lies.perm {m k : Nat} {owner : Own} (L : Lies m owner k) : ((live m owner).map (·.2)).Perm (List.range k) := by
  rw [List.perm_ext_iff_of_nodup L.nodup List.nodup_range]
  intro v
  rw [List.mem_range, List.mem_map]
  constructor
  · rintro ⟨p, hp, rfl⟩
    exact L.lt _ _ (mem_live.mp hp).2
  · intro h
    obtain ⟨j, hj⟩ := L.has v h
    have hlt : j < m := by
      rw [← L.size]
      rcases Nat.lt_or_ge j owner.size with h | h
      · exact h
      · rw [Array.getElem?_eq_none h] at hj; cases hj
    exact ⟨(j, v), mem_live.mpr ⟨hlt, hj⟩, rfl⟩
theorem Lies.length {m k : Nat} {owner : Own} (L : Lies m owner k) : (live m owner).length = k := by
  have := L.perm.length_eq
  rwa [List.length_map, List.length_range] at this
theorem Lies.room {m k : Nat} {owner : Own} (L : Lies m owner k) (h : k < m) : ∃ j, j < m ∧ nil? owner j = true := by
  refine Classical.byContradiction fun hn => ?_
  have all : ∀ j, j < m → ∃ v, owner.getD j none = some v := by
    intro j hj
    have hs : j < owner.size := by rw [L.size]; exact hj
    cases hv : owner[j] with
    | none => exact absurd ⟨j, hj, nil?_iff.mpr (by rw [Array.getElem?_eq_getElem hs, hv])⟩ hn
    | some v => exact ⟨v, getD_some.mpr (by rw [Array.getElem?_eq_getElem hs, hv])⟩
  have len : ∀ l : List Nat, (∀ j ∈ l, j < m) → (l.filterMap fun j => (owner.getD j none).map (j, ·)).length = l.length := by
    intro l
    induction l with
    | nil => intro _; rfl
    | cons a r ih =>
      intro hl
      obtain ⟨v, hv⟩ := all a (hl a List.mem_cons_self)
      rw [List.filterMap_cons, hv]
      show (_ :: _).length = _
      rw [List.length_cons, List.length_cons, ih fun j hj => hl j (List.mem_cons_of_mem _ hj)]
  have e := len (List.range m) fun j hj => List.mem_range.mp hj
  have e2 := L.length
  unfold live at e2
  rw [e, List.length_range] at e2
  omega
theorem bits_lt (h : Int) : SetTable.bits h < 2 ^ 64 := by
  unfold SetTable.bits
  have h1 : 0 ≤ h % (2 ^ 64 : Int) := Int.emod_nonneg _ (by decide)
  have h2 : h % (2 ^ 64 : Int) < 2 ^ 64 := Int.emod_lt_of_pos _ (by decide)
  omega
theorem Lies.free {mask k : Nat} {owner : Own} (L : Lies (mask + 1) owner k) (hm : Pow (mask + 1)) (h : k < mask + 1) (x : Int) :
    ∃ j, SetTable.layClean.free mask owner (SetTable.turns mask) (SetTable.bits x % (mask + 1)) (SetTable.bits x) = some j ∧ owner[j]? = some none := by
  cases e : SetTable.layClean.free mask owner (SetTable.turns mask) (SetTable.bits x % (mask + 1)) (SetTable.bits x) with
  | some j => exact ⟨j, rfl, nil?_iff.mp (free_some e)⟩
  | none =>
    obtain ⟨j, hj, q⟩ := L.room h
    have := free_none e j (spots_all hm (Nat.mod_lt _ (Nat.succ_pos _)) (bits_lt x) hj)
    rw [q] at this
    cases this
def layStep (mask : Nat) (acc : Option (Own × Nat)) (h : Int) : Option (Own × Nat) := do
  let (owner, k) ← acc
  let j ← SetTable.layClean.free mask owner (SetTable.turns mask) (SetTable.bits h % (mask + 1)) (SetTable.bits h)
  pure (owner.setIfInBounds j (some k), k + 1)
end SetT
namespace SetT
open PySem
def byTx (w : World) : Bool := w.params.followText "set-order"
def keyOf (e : Int × Value) : Str := match e.2 with
  | .str x _ => x
  | _ => ⟨#[]⟩
section
variable (prog : Program) (w : World)
def Elt (e : Int × Value) : Prop := ∃ z t, e = ((strKind prog w).hash z, Value.str z t)
structure Tab (es : Array (Int × Value)) (t : SetTable) (zs : List Str) : Prop where
  elts : ∀ e ∈ es.toList, Elt prog w e
  keys : (es.toList.map keyOf).Perm zs
  nodup : zs.Nodup
  few : zs.length < 1000
  fits : t.fits es.size = true
  led : t.led = !byTx w
  plain : es = #[] ∨ t.plain = false
def SetAt (h : Heap) (a : Addr) (zs : List Str) : Prop := ∃ o es ep t, h.get? a = some o ∧ o.ExactSet ∧ o.data = .set es ep t ∧ Tab prog w es t zs
end
section
variable {prog : Program} {w : World} {es : Array (Int × Value)} {t : SetTable} {zs : List Str} {h h' : Heap} {a : Addr}
theorem Tab.size (T : Tab prog w es t zs) : es.size = zs.length := by
  have := T.keys.length_eq
  rw [List.length_map, Array.length_toList] at this
  exact this
theorem Tab.perm {es' : Array (Int × Value)} {t' : SetTable} (T : Tab prog w es t zs) (p : es'.toList.Perm es.toList) (hf : t'.fits es'.size = true) (hl : t'.led = t.led) (hp : es' = #[] ∨ t'.plain = false) : Tab prog w es' t' zs :=
  ⟨fun e he => T.elts e (p.mem_iff.mp he), (p.map keyOf).trans T.keys, T.nodup, T.few, hf, hl.trans T.led, hp⟩
theorem Tab.to {zs' : List Str} (T : Tab prog w es t zs) (p : zs.Perm zs') : Tab prog w es t zs' :=
  ⟨T.elts, T.keys.trans p, p.nodup_iff.mp T.nodup, by rw [← p.length_eq]; exact T.few, T.fits, T.led, T.plain⟩
theorem SetAt.to {zs' : List Str} (S : SetAt prog w h a zs) (p : zs.Perm zs') : SetAt prog w h a zs' := let ⟨o, es, ep, t, h1, h2, h3, T⟩ := S; ⟨o, es, ep, t, h1, h2, h3, T.to p⟩
theorem SetAt.keep (S : SetAt prog w h a zs) (k : ∀ o, h.get? a = some o → h'.get? a = some o) : SetAt prog w h' a zs := let ⟨o, es, ep, t, h1, h2⟩ := S; ⟨o, es, ep, t, k o h1, h2⟩
theorem SetAt.typeIs {s : Shared} (S : SetAt prog w s.heap a zs) : s.TypeIs (.ref a) "set" := let ⟨o, _, _, _, h1, h2, _⟩ := S; ⟨o, h1, h2.1⟩
theorem SetAt.lt (S : SetAt prog w h a zs) : a < h.objs.size := let ⟨_, _, _, _, h1, _⟩ := S; Heap.lt_size h1
theorem SetAt.few (S : SetAt prog w h a zs) : zs.length < 1000 := let ⟨_, _, _, _, _, _, _, T⟩ := S; T.few
theorem SetAt.nodup (S : SetAt prog w h a zs) : zs.Nodup := let ⟨_, _, _, _, _, _, _, T⟩ := S; T.nodup
end
section
variable {prog : Program} {w : World} {A : Around} {E : Value → Shared → Prop} {s : Shared} {a : Addr} {zs : List Str}
theorem sz_ok {n : Nat} (h : n < 1001) : n ≤ sizeLine := by rw [sizeLine_eq]; omega
def added (zs : List Str) (z : Str) : List Str := if z ∈ zs then zs else zs ++ [z]
theorem pick_perm {α : Type} : ∀ (l : List α) (j : Nat) (hj : j < l.length), (l[j] :: l.eraseIdx j).Perm l
  | [], _, h => by simp at h
  | x :: r, 0, _ => List.Perm.refl _
  | x :: r, j + 1, h => (List.Perm.swap x _ _).trans ((pick_perm r j (Nat.lt_of_succ_lt_succ h)).cons x)
end
end SetT
namespace SetT
open PySem
section
variable {prog : Program} {w : World} {A : Around} {E : Value → Shared → Prop} {s : Shared} {a : Addr} {zs : List Str}
variable {o : Obj} {es : Array (Int × Value)} {ep : Nat} {t : SetTable}
end
end SetT
namespace SetT
open PySem
open Builtin.Frozenset
def powB (m : Nat) : Bool := m == 8 || m == 16 || m == 32 || m == 64 || m == 128
section
variable {prog : Program} {w : World} {A : Around} {E : Value → Shared → Prop} {s : Shared} {a : Addr} {zs : List Str}
structure Bare (w : World) (t : SetTable) : Prop where
  place : t.place = #[]
  dummies : t.dummies = #[]
  led : t.led = !byTx w
  plain : t.plain = true
variable {o : Obj} {ep : Nat} {t : SetTable}
def flipped (zs : List Str) (z : Str) : List Str := if z ∈ zs then zs.erase z else zs ++ [z]
end
end SetT
namespace SetT
open PySem
open Builtin.Frozenset
section
variable {prog : Program} {w : World} {A : Around} {E : Value → Shared → Prop} {s : Shared} {a r : Addr} {za zr : List Str}
end
end SetT
namespace SetT
open PySem
open Builtin.Frozenset
def made (zs : List Str) : List Str := zs.foldl added []
section
variable {prog : Program} {w : World} {A : Around} {E : Value → Shared → Prop} {s : Shared}
def setNew (w : World) : Obj := { cls := .type "set", dict := none, data := .set #[] 0 (.fresh 0 0 (!byTx w)) }
variable {R : Result → Shared → Prop} {I : Addr} {fp wr : List Addr} {G : Array GenState → Array GenState → Prop} {n : Nat} {P : Nat → Value → Prop} {St : Nat → Shared → Prop}
end
end SetT
namespace SetT
open PySem
open Builtin.Frozenset
def itO (first : Value) (i : Nat) (a : Addr) (n ep : Nat) : Obj := { cls := .type "set_iterator", data := .fields #[first, .int i 0, .ref a, .int n 0, .int ep 0] }
def tupO (ys : List Nat) : Obj := { cls := .type "tuple", data := .seq (ys.map fun (i : Nat) => rawInt i).toArray }
inductive Way (w : World) (h : Heap) (a tp : Addr) (es : Array (Int × Value)) (ep : Nat) (t : SetTable) (ws : List (Int × Value)) (i : Nat) : Value → Prop where
  | drawn (ys : List Nat) (ht : h.get? tp = some (tupO ys)) (hl : ys.length = es.size) (hw : ∀ j : Nat, ∀ y, ys[j]? = some y → es[y]? = ws[j]?) : Way w h a tp es ep t ws i (.ref tp)
  | text (c : Int) (hb : byTx w = true) (hw : ws = (pickOrder (w.params.setOrder a ep) es).toList) : Way w h a tp es ep t ws i (.int c 0)
  | one (c : Nat) (hb : byTx w = false) (hs : es.size ≤ 1) (hw : ws = es.toList) (hc : SetTable.below t.place c = i) : Way w h a tp es ep t ws i (.int c 0)
section
variable {prog : Program} {w : World} {A : Around} {E : Value → Shared → Prop} {s : Shared} {a tp it : Addr} {zs : List Str} {o : Obj} {es : Array (Int × Value)} {ep : Nat} {t : SetTable} {ws : List (Int × Value)} {i : Nat} {first : Value}
theorem Way.keep {h h' : Heap} (W : Way w h a tp es ep t ws i first) (k : ∀ o, h.get? tp = some o → h'.get? tp = some o) : Way w h' a tp es ep t ws i first := by
  cases W with
  | drawn ys ht hl hw => exact .drawn ys (k _ ht) hl hw
  | text c hb hw => exact .text c hb hw
  | one c hb hs hw hc => exact .one c hb hs hw hc
end
end SetT
namespace SetT
open PySem PySem.Spec
open Builtin.Frozenset
section
variable {prog : Program} {w : World} {A : Around} {E : Value → Shared → Prop} {s : Shared} {a tp it : Addr} {zs : List Str} {o : Obj} {es : Array (Int × Value)} {ep : Nat} {t : SetTable} {ws : List (Int × Value)} {i : Nat} {first : Value}
end
end SetT
namespace L2
open PySem PySem.Spec PyProof.Rows
def Its (z : Str) : It := ⟨fun i _ => i < z.cps.size, fun i H x H' => H' = H ∧ ∃ c, z.cps[i]? = some c ∧ x = .str ⟨#[c]⟩, fun i _ => z.cps.size ≤ i⟩
def iStr (tl : TE) : TI := fun σ H R => tl σ H fun x H1 => ∃ z, x = .str z ∧ R (Its z) H1
section
variable {X : Cx} {tg : Expr}
end
theorem lookup_relabel_vis {env : Env} : ∀ {names : List (Str × NameKind)} {x : Str} {k' : NameKind},
    (names.map fun (n, k) => if (k == NameKind.free && env.scope.kind == .function && env.kindOf n == some .cell) then (n, NameKind.cell) else (n, k)).lookup x = some k' →
    ∃ k, names.lookup x = some k ∧ (k' = k ∨ (k = .free ∧ k' = .cell))
  | [], _, _, h => by simp at h
  | (n, k) :: r, x, k', h => by
    have ih := @lookup_relabel_vis env r x k'
    change List.lookup x ((if (k == NameKind.free && env.scope.kind == .function && env.kindOf n == some .cell) = true then (n, NameKind.cell) else (n, k)) :: _) = _ at h
    cases hx : x == n with
    | true =>
      by_cases hc : (k == NameKind.free && env.scope.kind == .function && env.kindOf n == some .cell) = true
      · rw [if_pos hc] at h
        simp only [List.lookup_cons, hx] at h
        cases h
        have hk : k = .free := by
          have := (Bool.and_eq_true _ _ ▸ (Bool.and_eq_true _ _ ▸ hc).1).1
          cases k <;> first | rfl | (exact absurd this (by decide))
        exact ⟨k, by simp [List.lookup_cons, hx], .inr ⟨hk, rfl⟩⟩
      · rw [if_neg hc] at h
        simp only [List.lookup_cons, hx] at h
        cases h
        exact ⟨k, by simp [List.lookup_cons, hx], .inl rfl⟩
    | false =>
      have h2 : ∃ k, r.lookup x = some k ∧ (k' = k ∨ (k = .free ∧ k' = .cell)) := by
        by_cases hc : (k == NameKind.free && env.scope.kind == .function && env.kindOf n == some .cell) = true
        · rw [if_pos hc] at h
          simp only [List.lookup_cons, hx] at h
          exact ih h
        · rw [if_neg hc] at h
          simp only [List.lookup_cons, hx] at h
          exact ih h
      obtain ⟨k2, e2, r2⟩ := h2
      exact ⟨k2, by simp [List.lookup_cons, hx, e2], r2⟩
def closeL (names : List (Str × NameKind)) (cells : List (Str × Addr)) (acc : List (Str × Addr)) : List (Str × Addr) :=
  names.foldl (fun a x => if x.2 == .free then (match cells.lookup x.1 with | some c => (x.1, c) :: a | none => a) else a) acc
theorem closure_eq {scope : Scope} {env : Env} (h : ∀ x ∈ scope.names, x.2 = .free → ∃ c, env.cells.lookup x.1 = some c) : closureFor scope env = pure (closeL scope.names env.cells []) := by
  have all : ∀ (l : List (Str × NameKind)) (acc : List (Str × Addr)), (∀ x ∈ l, x.2 = .free → ∃ c, env.cells.lookup x.1 = some c) →
      (forIn l acc fun (x : Str × NameKind) (cs : List (Str × Addr)) => (if x.2 == .free then (do let c ← cellOf env x.1; pure (ForInStep.yield ((x.1, c) :: cs))) else pure (ForInStep.yield cs) : Sem _)) = pure (closeL l env.cells acc) := by
    intro l
    induction l with
    | nil => intro acc _; rfl
    | cons x r ih =>
      intro acc hl
      rw [List.forIn_cons]
      have hr : ∀ y ∈ r, y.2 = .free → ∃ c, env.cells.lookup y.1 = some c := fun y hy => hl y (List.mem_cons_of_mem _ hy)
      cases hk : x.2 == .free with
      | true =>
        have hkk : x.2 = .free := by
          revert hk
          cases x.2 <;> intro hk <;> first | rfl | (exact absurd hk (by decide))
        obtain ⟨c, hc⟩ := hl x List.mem_cons_self hkk
        simp only [if_true, cellOf, hc]
        rw [show closeL (x :: r) env.cells acc = closeL r env.cells ((x.1, c) :: acc) by unfold closeL; rw [List.foldl_cons]; simp [hk, hc]]
        exact ih _ hr
      | false =>
        simp only [Bool.false_eq_true, if_false]
        rw [show closeL (x :: r) env.cells acc = closeL r env.cells acc by unfold closeL; rw [List.foldl_cons]; simp [hk]]
        exact ih _ hr
  have q := all scope.names [] h
  simp only [closureFor]
  exact (congrArg (· >>= fun r => pure r) q).trans rfl
end L2
namespace L2
open PySem PySem.Spec PyProof.Rows
theorem closeL_sub : ∀ (names : List (Str × NameKind)) (cells acc : List (Str × Addr)), (∀ x c, (x, c) ∈ acc → cells.lookup x = some c) → ∀ x c, (x, c) ∈ closeL names cells acc → cells.lookup x = some c
  | [], _, _, h => h
  | y :: r, cells, acc, h => by
    have e : closeL (y :: r) cells acc = closeL r cells (if y.2 == .free then (match cells.lookup y.1 with | some c => (y.1, c) :: acc | none => acc) else acc) := rfl
    rw [e]
    refine closeL_sub r cells _ ?_
    cases hk : y.2 == .free with
    | false => simpa using h
    | true =>
      cases hc : cells.lookup y.1 with
      | none => simpa using h
      | some c =>
        intro x d hx
        simp only [if_true] at hx
        rcases List.mem_cons.mp hx with e | hx
        · cases e; exact hc
        · exact h x d hx
theorem closeL_keep : ∀ (names : List (Str × NameKind)) (cells acc : List (Str × Addr)) (x : Str) (c : Addr), (x, c) ∈ acc → (x, c) ∈ closeL names cells acc
  | [], _, _, _, _, h => h
  | y :: r, cells, acc, x, c, h => by
    have e : closeL (y :: r) cells acc = closeL r cells (if y.2 == .free then (match cells.lookup y.1 with | some c => (y.1, c) :: acc | none => acc) else acc) := rfl
    rw [e]
    refine closeL_keep r cells _ x c ?_
    cases hk : y.2 == .free with
    | false => simpa using h
    | true =>
      cases hc : cells.lookup y.1 with
      | none => simpa using h
      | some d => simp only [if_true]; exact List.mem_cons_of_mem _ h
theorem closeL_has : ∀ (names : List (Str × NameKind)) (cells acc : List (Str × Addr)) (x : Str) (c : Addr), (x, NameKind.free) ∈ names → cells.lookup x = some c → (x, c) ∈ closeL names cells acc
  | [], _, _, _, _, h, _ => by cases h
  | y :: r, cells, acc, x, c, h, hc => by
    have e : closeL (y :: r) cells acc = closeL r cells (if y.2 == .free then (match cells.lookup y.1 with | some c => (y.1, c) :: acc | none => acc) else acc) := rfl
    rw [e]
    rcases List.mem_cons.mp h with e2 | h
    · subst e2
      refine closeL_keep r cells _ x c ?_
      have : (NameKind.free == NameKind.free) = true := rfl
      simp only [hc, this, if_true]
      exact List.mem_cons_self
    · exact closeL_has r cells _ x c h hc
theorem lookup_of_mem_some {α : Type} : ∀ {l : List (Str × α)} {x : Str} {c : α}, (x, c) ∈ l → ∃ d, l.lookup x = some d
  | [], _, _, h => by cases h
  | (n, d) :: r, x, c, h => by
    cases hx : x == n with
    | true => exact ⟨d, by simp [List.lookup_cons, hx]⟩
    | false =>
      rcases List.mem_cons.mp h with e | h
      · cases e; simp at hx
      · obtain ⟨d', e⟩ := lookup_of_mem_some h
        exact ⟨d', by simp [List.lookup_cons, hx, e]⟩
section
variable {prog : Program} {w : World} {A : Around} {R : Result → Shared → Prop} {s : Shared}
theorem codeAny_compLoop_gen {elt target iter : Expr} {ifs : List Expr} {scope : Scope} {pos : Pos} {it acc : Value} {env : Env} (I : Nat → Shared → Prop)
    (turn : ∀ n s, I n s → wpAny (model prog w) A (pyNext it) (fun r s₁ => match r with
      | none => R (.ok .next) s₁
      | some v => wpAny (model prog w) A (letOwnedTupleGo target it v) (fun _ s₁' => wpAny (model prog w) A (assign target env v) (fun _ s₂ =>
          wpAny (model prog w) A (forIn ifs true fun c r => if r = true then do let ok ← isTrue c env (eval c env); pure (ForInStep.yield ok) else pure (ForInStep.yield r)) (fun ok s₃ =>
            if ok = true then wpAny (model prog w) A (eval elt env) (fun x s₄ =>
              wpAny (model prog w) A (call (.builtin "list.append") [acc, x]) (fun _ s₅ => ∃ m, m < n ∧ I m s₅) (notedBy (model prog w) A env fun e s' => R (.error e) s') s₄) (notedBy (model prog w) A env fun e s' => R (.error e) s') s₃
            else ∃ m, m < n ∧ I m s₃) (notedBy (model prog w) A env fun e s' => R (.error e) s') s₂) (notedBy (model prog w) A env fun e s' => R (.error e) s') s₁') (notedBy (model prog w) A env fun e s' => R (.error e) s') s₁) (notedBy (model prog w) A env fun e s' => R (.error e) s') s)
    (n : Nat) (h : I n s) :
    codeAny (model prog w) A (.compLoop (.ListComp elt [⟨target, iter, ifs, 0⟩] scope pos) 0 it acc env) R s := by
  refine codeAny_loop rfl I (fun n s hI => ?_) n h
  show wpAny _ A ((compTurn (.ListComp elt [⟨target, iter, ifs, 0⟩] scope pos) 0 it acc env).onRaise (fun x => do noteFrame x env; theTreesLotGoes x)) _ _ s
  refine wpAny_noted ?_
  rw [compTurn_list]
  refine wpAny_bind (wpAny_standAt (wpAny_bind (wpAny_mono (turn n s hI) (fun r s₁ h₁ => ?_) fun _ _ h' => h')))
  cases r with
  | none => exact wpAny_pure h₁
  | some v =>
    refine wpAny_bind (wpAny_mono h₁ (fun _ s₁' h₁' => ?_) fun _ _ h' => h')
    refine wpAny_bind (wpAny_mono h₁' (fun _ s₂ h₂ => wpAny_bind (wpAny_mono h₂ (fun ok s₃ h₃ => ?_) fun _ _ h' => h')) fun _ _ h' => h')
    cases ok with
    | false => exact wpAny_pure ⟨rfl, h₃⟩
    | true =>
      exact wpAny_bind (wpAny_bind (wpAny_mono h₃ (fun x s₄ h₄ => wpAny_bind (wpAny_mono h₄ (fun _ s₅ h₅ => wpAny_pure (wpAny_pure ⟨rfl, h₅⟩)) fun _ _ h' => h')) fun _ _ h' => h'))
end
def PIf (X : Cx) (ifs : List Expr) (t : TT) : Prop :=
  ∀ (pins : List (Addr × Obj)) (s : Shared) (σ : St) (H : Hp) (Q : Bool → Hp → Prop), Inv X pins σ H s → t σ H Q →
    wpAny (model X.prog X.w) X.A (forIn ifs true fun c r => if r = true then do let ok ← isTrue c X.env (eval c X.env); pure (ForInStep.yield ok) else pure (ForInStep.yield r)) (TP X pins σ Q) X.xe s
def tYes : TT := fun _ H Q => Q true H
theorem pif_nil {X : Cx} : PIf X [] tYes := fun _ _ _ H _ I h => wpAny_tests_nil ⟨H, I, h⟩
theorem pif_one {X : Cx} {c : Expr} {t : TT} (h : PT X c t) : PIf X [c] t := fun pins s σ H Q I hq => wpAny_tests_one (h pins s σ H Q I hq)
def cxComp (X : Cx) (N' : List Str) (scope : Scope) (cl : List (Str × Addr)) (C : Addr) (s₀ : Shared) (H₀ : Hp) (ex : List Addr) : Cx :=
  { prog := X.prog, w := X.w, K := X.K, mg := X.mg, base := X.base, A := X.A, N := N', s₀ := s₀, H₀ := H₀, env := compEnvC scope cl C X.env, outer := X.stack, stack := X.stack, ex := ex, fn := fun _ => false, calm := X.calm, pn := [], xe := fun _ _ => False }
def compOk (sc scope : Scope) (N N' : List Str) : Bool :=
  (match scope.kind with | .function => true | _ => false) &&
  scope.names.all (fun y => match y.2 with
    | .cell => false
    | .local => (match scope.names.lookup y.1 with | some .local => true | _ => false)
    | .free => (match sc.names.lookup y.1 with | some .cell => true | some .free => true | _ => false)
    | _ => true) &&
  (List.range N'.length).all fun i => match N'[i]? with
    | none => true
    | some x => match scope.names.lookup x with
      | some .local => decide (N.length ≤ i)
      | some .free => decide (N[i]? = some x)
      | _ => true
structure CompOk (sc scope : Scope) (N N' : List Str) : Prop where
  kind : scope.kind = .function
  cell : ∀ y ∈ scope.names, y.2 ≠ .cell
  names : ∀ y ∈ scope.names, y.2 = .local → scope.names.lookup y.1 = some .local
  free : ∀ y ∈ scope.names, y.2 = .free → sc.names.lookup y.1 = some .cell ∨ sc.names.lookup y.1 = some .free
  own : ∀ (i : Nat) x, N'[i]? = some x → scope.names.lookup x = some .local → N.length ≤ i
  out : ∀ (i : Nat) x, N'[i]? = some x → scope.names.lookup x = some .free → N[i]? = some x
theorem CompOk.of {sc scope : Scope} {N N' : List Str} (h : compOk sc scope N N' = true) : CompOk sc scope N N' := by
  unfold compOk at h
  rw [Bool.and_eq_true, Bool.and_eq_true] at h
  obtain ⟨⟨h1, h2⟩, h3⟩ := h
  have h2' := List.all_eq_true.mp h2
  have h3' := List.all_eq_true.mp h3
  refine ⟨?_, fun y hy e => ?_, fun y hy e => ?_, fun y hy e => ?_, fun i x hi e => ?_, fun i x hi e => ?_⟩
  · revert h1; cases scope.kind <;> intro h1 <;> first | rfl | cases h1
  · have q := h2' y hy
    rw [e] at q
    cases q
  · have q := h2' y hy
    rw [e] at q
    simp only at q
    split at q
    · assumption
    · cases q
  · have q := h2' y hy
    rw [e] at q
    simp only at q
    split at q
    · exact .inl (by assumption)
    · exact .inr (by assumption)
    · cases q
  · have q := h3' i (List.mem_range.mpr (List.getElem?_eq_some_iff.mp hi).1)
    rw [hi] at q
    simp only [e] at q
    exact of_decide_eq_true q
  · have q := h3' i (List.mem_range.mpr (List.getElem?_eq_some_iff.mp hi).1)
    rw [hi] at q
    simp only [e] at q
    exact of_decide_eq_true q
section
variable {X : Cx} {pins : List (Addr × Obj)} {σ : St} {H : Hp} {s : Shared}
theorem inv_comp {N' : List Str} {scope : Scope} {n : Nat} {fp : List Addr} {h₁ : Heap} {t' : Nat} {m : Str → Option Value} (I : Inv X pins σ H s) (ck : CompOk X.env.scope scope X.N N') (hl : N'.length = X.N.length + n)
    (hns : h₁.Ns s.heap.objs.size m) (old : ∀ b o, s.heap.get? b = some o → h₁.get? b = some o) (hfp : ∀ b ∈ fp, FpOk X pins H b ∧ b < s.heap.objs.size) :
    Inv (cxComp X N' scope (closeL scope.names X.env.cells []) s.heap.objs.size s H fp) [] (σ ++ List.replicate n none) H { s with heap := h₁, toks := t' } := by
  have sub : ∀ x c, (closeL scope.names X.env.cells []).lookup x = some c → X.env.cells.lookup x = some c := fun x c e => closeL_sub _ _ _ (fun _ _ z => by simp at z) x c (PySem.mem_of_lookup e)
  have fre : H s.heap.objs.size = none := I.hok.fresh (Nat.le_refl _)
  have ok' : (cxComp X N' scope (closeL scope.names X.env.cells []) s.heap.objs.size s H fp).Ok := by
    refine ⟨I.ok.mod, ck.kind, I.ok.glob, I.ok.blt, Nat.le_refl _, fun x y c e1 e2 => I.ok.inj x y c (sub x c e1) (sub y c e2), fun x hx => ?_, fun x c hf _ => ?_, I.ok.hd, I.ok.frames, .inl rfl, fun b hb => ⟨Nat.ne_of_lt (hfp b hb).2, fun x c e => (hfp b hb).1.2.2.2.2.1 x c (sub x c e)⟩,
      I.bs, Nat.le_trans I.ok.bsz I.sz, fun b o e hb => ?_, fun b hb hf => ?_, I.stack, I.stkFree⟩
    · have hx' : (relabel scope X.env).names.lookup x = some .cell ∨ (relabel scope X.env).names.lookup x = some .free := hx
      have : ∃ k, scope.names.lookup x = some k ∧ k = .free := by
        rcases hx' with z | z
        · obtain ⟨k, e, r⟩ := lookup_relabel_vis z
          rcases r with r | ⟨r, _⟩
          · exact absurd (r.symm ▸ rfl : k = .cell) (ck.cell (x, k) (PySem.mem_of_lookup e))
          · exact ⟨k, e, r⟩
        · obtain ⟨k, e, r⟩ := lookup_relabel_vis z
          rcases r with r | ⟨r, _⟩
          · exact ⟨k, e, r.symm⟩
          · exact ⟨k, e, r⟩
      obtain ⟨k, e, rfl⟩ := this
      have hm := PySem.mem_of_lookup e
      obtain ⟨c, hc⟩ := I.ok.has x (ck.free _ hm rfl)
      exact lookup_of_mem_some (closeL_has scope.names X.env.cells [] x c hm hc)
    · cases hf
    · have := (hfp b hb).1.2.2.2.1
      rcases this with z | z
      · exact I.ok.noex b o e z
      · exact absurd (Nat.lt_of_lt_of_le (Heap.lt_size e) (Nat.le_trans I.ok.bsz z)) (Nat.lt_irrefl _)
    · rcases List.mem_cons.mp (I.stkSub b hf) with z | z
      · exact (hfp b hb).1.2.1 z
      · exact (hfp b hb).1.2.2.1 z
  refine ⟨ok', rfl, I.bare, Un.kept old, ⟨m, hns, fun i x v e1 e2 e3 => ?_⟩, fun x c e => ?_, fre, fun x c e => I.freeC x c (sub x c e), fun p hp => absurd hp (by simp [cxComp]), I.hok.kept old, ?_⟩
  · have hi : i < σ.length := by
      by_cases hi : i < σ.length
      · exact hi
      · rw [List.getElem?_append_right (by omega), List.getElem?_replicate] at e2
        split at e2 <;> cases e2
    rw [List.getElem?_append_left hi] at e2
    have e1' : N'[i]? = some x := e1
    have vis : ∃ k', (relabel scope X.env).names.lookup x = some k' ∧ (k' = .local ∨ k' = .cell ∨ k' = .free) := by
      rcases e3 with z | z | z
      · exact ⟨_, z, .inl rfl⟩
      · exact ⟨_, z, .inr (.inl rfl)⟩
      · exact ⟨_, z, .inr (.inr rfl)⟩
    obtain ⟨k', ek', hk'⟩ := vis
    obtain ⟨k, ek, r⟩ := lookup_relabel_vis ek'
    have kf : k = .free := by
      rcases r with r | ⟨r, _⟩
      · subst r
        rcases hk' with z | z | z
        · subst z
          have := ck.own i x e1' ek
          rw [I.len] at hi
          omega
        · subst z
          exact absurd rfl (ck.cell _ (PySem.mem_of_lookup ek))
        · exact z
      · exact r
    subst kf
    have hm := PySem.mem_of_lookup ek
    have hxN := ck.out i x e1' ek
    obtain ⟨m0, hn0, hl0⟩ := I.loc
    have kx := ck.free _ hm rfl
    obtain ⟨u, ru, lk⟩ := hl0 i x v hxN e2 (by rcases kx with z | z; exact .inr (.inl z); exact .inr (.inr z))
    refine ⟨u, ru, .inr ⟨?_, ?_⟩⟩
    · rcases r with r | ⟨_, r⟩
      · subst r
        exact .inr ek'
      · subst r
        exact .inl ek'
    · rcases lk with ⟨k1, _⟩ | ⟨_, c, hc, hcell⟩
      · have k1' : X.env.scope.names.lookup x = some .local := k1
        rcases kx with z | z
        · rw [k1'] at z; cases z
        · rw [k1'] at z; cases z
      · have hin := closeL_has scope.names X.env.cells [] x c hm hc
        obtain ⟨d, hd⟩ := lookup_of_mem_some hin
        have : d = c := Option.some.inj ((sub x d hd).symm.trans hc)
        subst this
        obtain ⟨o, ho, hdat⟩ := hcell
        exact ⟨d, hd, o, old _ _ ho, hdat⟩
  · obtain ⟨v, o, ho, hdat⟩ := I.cell x c (sub x c e)
    exact ⟨v, o, old _ _ ho, hdat⟩
  · rw [List.length_append, List.length_replicate, I.len]
    exact hl.symm
end
def tComp (n : Nat) (wi : TI) (g : TG) (tc : TT) (te : TE) : TE := fun σ H Q => wi σ H fun J H1 => ∀ D, H1 D = none → ∃ W : Nat → Nat → St → Hp → Prop, (∃ m, W 0 m (σ ++ List.replicate n none) (upd H1 D (.lst []))) ∧ ∀ i m σ' H', W i m σ' H' →
  (J.stop i H' ∧ Q (.ref D) H') ∨ (J.go i H' ∧ ∃ N : St → Hp → Prop, (∀ σ' H', N σ' H' → ∃ m', m' < m ∧ W (i + 1) m' σ' H') ∧ ∀ x H2, J.yld i H' x H2 → g x σ' H2 fun σ2 H3 => tc σ2 H3 fun b H4 =>
    if b = true then te σ2 H4 fun v H5 => ∃ ys, H5 D = some (.lst ys) ∧ ys.length < sizeLine ∧ N σ2 (upd H5 D (.lst (ys ++ [v]))) else N σ2 H4)
theorem thnF {α : Type} {t : Sem α} {Q Q' : α → Shared → Prop} {M : Model} {A : Around} {E : Value → Shared → Prop} {s : Shared} (h : wpAny M A t Q (fun _ _ => False) s) (hQ : ∀ a s, Q a s → Q' a s) : wpAny M A t Q' E s := wpAny_mono h hQ fun _ _ z => z.elim
section
variable {X : Cx} {elt tg iter : Expr} {ifs : List Expr} {scope : Scope} {pos : Pos} {N' : List Str} {n : Nat} {wi : TI} {g : TG} {tc : TT} {te : TE}
theorem comp_core {pins : List (Addr × Obj)} {σ : St} {H2 : Hp} {s2 : Shared} {E : Value → Shared → Prop} {RR : Value → Addr → Result → Shared → Prop} {it : Addr} {fp : List Addr} {tn : Nat → Heap → Prop} {J : It} {Q : VK}
    (hc : X.calm = true) (ck : CompOk X.env.scope scope X.N N') (hl : N'.length = X.N.length + n)
    (hg : ∀ cl C s₀ H₀ ex, PG (cxComp X N' scope cl C s₀ H₀ ex) tg g) (hif : ∀ cl C s₀ H₀ ex, PIf (cxComp X N' scope cl C s₀ H₀ ex) ifs tc) (he : ∀ cl C s₀ H₀ ex, PE (cxComp X N' scope cl C s₀ H₀ ex) elt te)
    (I2 : Inv X pins σ H2 s2) (T : Turn X.prog X.w X.K tg J fp it tn) (st2 : tn 0 s2.heap) (f2 : ∀ b ∈ fp, FpOk X pins H2 b)
    (q : ∀ D, H2 D = none → ∃ W : Nat → Nat → St → Hp → Prop, (∃ m, W 0 m (σ ++ List.replicate n none) (upd H2 D (.lst []))) ∧ ∀ i m σ' H', W i m σ' H' →
      (J.stop i H' ∧ Q (.ref D) H') ∨ (J.go i H' ∧ ∃ N : St → Hp → Prop, (∀ σ' H', N σ' H' → ∃ m', m' < m ∧ W (i + 1) m' σ' H') ∧ ∀ x H2, J.yld i H' x H2 → g x σ' H2 fun σ2 H3 => tc σ2 H3 fun b H4 =>
        if b = true then te σ2 H4 fun v H5 => ∃ ys, H5 D = some (.lst ys) ∧ ys.length < sizeLine ∧ N σ2 (upd H5 D (.lst (ys ++ [v]))) else N σ2 H4))
    (hRR : ∀ D C H' s' m, Inv X pins σ H' s' → s'.heap.Ns C m → H' C = none → C ≠ X.env.locals → X.s₀.heap.objs.size ≤ C → (∀ x c, X.env.cells.lookup x = some c → c ≠ C) → (∀ p ∈ X.pn ++ pins, p.1 ≠ C) → Q (.ref D) H' → RR (.ref D) C (.ok .next) s') :
    wpAny (model X.prog X.w) X.A (newList []) (fun acc s₃ => wpAny (model X.prog X.w) X.A (newFunctionEnv scope X.env.globals (closeL scope.names X.env.cells []) [] X.env.qual none .none (some X.env)) (fun cenv s₄ =>
      codeAny (model X.prog X.w) X.A (.compStart (.ListComp elt [⟨tg, iter, ifs, 0⟩] scope pos) 0 (.ref it) acc { cenv with scope := relabel scope X.env }) (RR acc cenv.locals) s₄) E s₃) E s2 := by
  refine wpAny_newObj_type (wpAny_newFunctionEnv ck.cell (by intro y hy; simp at hy) (fun h₁ hns₁ hsb₁ => ?_) ck.kind) (by show (0 : Nat) ≤ sizeLine; exact Nat.zero_le _)
  have hD : H2 s2.heap.objs.size = none := I2.hok.fresh (Nat.le_refl _)
  obtain ⟨W, ⟨m0, w0⟩, turn⟩ := q s2.heap.objs.size hD
  have fl : ∀ b ∈ fp, b < s2.heap.objs.size := fun b hb => by
    obtain ⟨o, e, _⟩ := T.obj 0 _ st2 b hb
    exact Heap.lt_size e
  have I3 : Inv X pins σ (upd H2 s2.heap.objs.size (.lst [])) { s2 with heap := s2.heap.push { cls := .type "list", dict := none, data := .seq ([] : List Value).toArray } } :=
    I2.laid (t' := s2.toks) (fun b o e => Heap.get?_push_of_some _ e) (Nat.le_refl _) (show ObjOk X.prog X.w _ _ _ (.lst []) from ⟨Nat.zero_le _, [], 0, .nil, Heap.get?_push_size _ rfl⟩)
  generalize hs3 : ({ s2 with heap := s2.heap.push { cls := .type "list", dict := none, data := .seq ([] : List Value).toArray } } : Shared) = s3 at I3 hns₁ hsb₁ ⊢
  have hz3 : s3.heap.objs.size = s2.heap.objs.size + 1 := by rw [← hs3]; exact Heap.size_push ..
  have old2 : ∀ b o, s2.heap.get? b = some o → s3.heap.get? b = some o := fun b o e => by rw [← hs3]; exact Heap.get?_push_of_some _ e
  have old : ∀ b o, s3.heap.get? b = some o → h₁.get? b = some o := fun b o e =>
    hsb₁.extBut b o (Nat.ne_of_lt (Heap.lt_size e)) (Heap.get?_push_of_some _ e)
  have f3 : ∀ b ∈ fp, FpOk X pins (upd H2 s2.heap.objs.size (.lst [])) b ∧ b < s3.heap.objs.size := fun b hb => by
    refine ⟨⟨?_, (f2 b hb).2⟩, by rw [hz3]; exact Nat.lt_succ_of_lt (fl b hb)⟩
    rw [upd_ne (Nat.ne_of_lt (fl b hb))]
    exact (f2 b hb).1
  have I4 := fun (t' : Nat) => inv_comp (N' := N') (scope := scope) (n := n) (fp := fp) (h₁ := h₁) (t' := t') I3 ck hl hns₁ old f3
  generalize hX : cxComp X N' scope (closeL scope.names X.env.cells []) s3.heap.objs.size s3 (upd H2 s2.heap.objs.size (.lst [])) fp = X' at I4
  have eP : X'.prog = X.prog := by rw [← hX]; rfl
  have ew : X'.w = X.w := by rw [← hX]; rfl
  have eK : X'.K = X.K := by rw [← hX]; rfl
  have eA : X'.A = X.A := by rw [← hX]; rfl
  have eE : X'.env = compEnvC scope (closeL scope.names X.env.cells []) s3.heap.objs.size X.env := by rw [← hX]; rfl
  have ec : X'.calm = true := by rw [← hX]; exact hc
  have ex' : X'.xe = fun _ _ => False := by rw [← hX]; rfl
  have hg' : PG X' tg g := by rw [← hX]; exact hg _ _ _ _ _
  have hif' : PIf X' ifs tc := by rw [← hX]; exact hif _ _ _ _ _
  have he' : PE X' elt te := by rw [← hX]; exact he _ _ _ _ _
  have stat : ∀ {H' : Hp}, (∀ b ∈ fp, H' b = none) → ∀ b ∈ fp, FpOk X' [] H' b := fun hn b hb => by
    refine ⟨hn b hb, ?_, ?_, ?_, ?_, ?_⟩
    · rw [eE]; exact Nat.ne_of_lt (f3 b hb).2
    · rw [← hX]
      intro hf
      rcases List.mem_cons.mp (I3.stkSub b hf) with z | z
      · exact (f3 b hb).1.2.1 z
      · exact (f3 b hb).1.2.2.1 z
    · rw [← hX]; exact .inl hb
    · rw [eE]
      intro x c e
      exact (f3 b hb).1.2.2.2.2.1 x c (closeL_sub _ _ _ (fun _ _ z => by simp at z) x c (PySem.mem_of_lookup e))
    · rw [← hX]; intro p hp; exact absurd hp (by simp [cxComp])
  have fin : ∀ {σ' : St} {H' : Hp} {s' : Shared}, Inv X' [] σ' H' s' → Q (.ref s2.heap.objs.size) H' → RR (.ref s2.heap.objs.size) s3.heap.objs.size (.ok .next) s' := fun {σ' H' s'} I' q' => by
    obtain ⟨m', hn', _⟩ := id I'.loc
    rw [eE] at hn'
    have hos : s'.os = s3.os := by have := I'.os; rw [← hX] at this; exact this
    have hun : Un (frs X.stack) fp (upd H2 s2.heap.objs.size (.lst [])) H' s3.heap s'.heap := by have := I'.base; rw [← hX] at this; exact this
    have hok : HOk X.prog X.w H' s'.heap := by have := I'.hok; rw [eP, ew] at this; exact this
    have IX : Inv X pins σ H' s' := I3.call' (ch := fp) hos hun hok I'.bare fun b hb => ⟨(f3 b hb).1.2.2.2.1, (f3 b hb).1.2.1, (f3 b hb).1.2.2.2.2.1, (f3 b hb).1.2.2.2.2.2⟩
    have hfr := I'.free
    rw [eE] at hfr
    refine hRR _ _ H' s' m' IX hn' hfr (Nat.ne_of_gt I3.lt) I3.sz (fun x c e z => ?_) (fun p hp z => ?_) q'
    · obtain ⟨v, o, ho, _⟩ := I3.cell x c e
      exact absurd (Heap.lt_size ho) (by rw [z]; exact Nat.lt_irrefl _)
    · exact absurd (Heap.lt_size (I3.pin p hp).1) (by rw [z]; exact Nat.lt_irrefl _)
  have loop : ∀ t', codeAny (model X.prog X.w) X.A (.compLoop (.ListComp elt [⟨tg, iter, ifs, 0⟩] scope pos) 0 (.ref it) (.ref s2.heap.objs.size) (compEnvC scope (closeL scope.names X.env.cells []) s3.heap.objs.size X.env)) (RR (.ref s2.heap.objs.size) s3.heap.objs.size) { s3 with heap := h₁, toks := t' } := fun t' => by
    refine codeAny_compLoop_gen (fun k s' => ∃ i σ' H', Inv X' [] σ' H' s' ∧ tn i s'.heap ∧ (∀ b ∈ fp, H' b = none) ∧ W i k σ' H') ?_ m0
      ⟨0, _, _, I4 t', T.keep 0 _ _ st2 fun b _ o e => old b o (old2 b o e), fun b hb => (f3 b hb).1.1, w0⟩
    rintro k s4 ⟨i, σ4, H4, J4, st4, fr4, w4⟩
    rw [← eP, ← ew, ← eA, ← eE]
    rcases turn i k σ4 H4 w4 with ⟨stop, qn⟩ | ⟨go, N, hN, step⟩
    · have d1 := T.done X' eP ew eK ec i [] s4 σ4 H4 (fun _ _ => False) J4 (stat fr4) st4 stop
      rw [← eP, ← ew] at d1
      refine thnF d1 fun r s5 ⟨hr, I5⟩ => ?_
      subst hr
      exact fin I5 qn
    · have d1 := T.item X' eP ew eK ec i [] s4 σ4 H4 (fun _ _ => False) J4 (stat fr4) st4 go
      rw [← eP, ← ew] at d1
      refine thnF d1 fun r s5 ⟨u, hr, h5⟩ => ?_
      subst hr
      refine thnF h5 fun _ s6 ⟨x, H6, I6, r6, y6, st6, fr6⟩ => ?_
      have I6' := I6.pinned (stat fr6) (T.obj _ _ st6)
      have again : ∀ {σ7 : St} {H7 : Hp} {s7 : Shared}, Inv X' ([] ++ pinsAt fp s6.heap) σ7 H7 s7 → N σ7 H7 → ∃ m, m < k ∧ ∃ i σ' H', Inv X' [] σ' H' s7 ∧ tn i s7.heap ∧ (∀ b ∈ fp, H' b = none) ∧ W i m σ' H' := fun {σ7 H7 s7} I7 n7 => by
        obtain ⟨m', hm, w7⟩ := hN σ7 H7 n7
        refine ⟨m', hm, i + 1, σ7, H7, I7.unpinned, T.keep _ _ _ st6 fun b hb o e => (I7.pin (b, o) (List.mem_append_right _ (List.mem_append_right _ (mem_pinsAt hb e)))).1, fun b hb => ?_, w7⟩
        obtain ⟨o, e, d⟩ := T.obj _ _ st6 b hb
        exact (I7.pin (b, o) (List.mem_append_right _ (List.mem_append_right _ (mem_pinsAt hb e)))).2.1
      have a1 := hg' _ s6 σ4 H6 x u _ I6' r6 (step x H6 y6)
      rw [ex'] at a1
      refine thnF a1 fun _ s7 ⟨σ7, H7, I7, q7⟩ => ?_
      have a2 := hif' _ s7 σ7 H7 _ I7 q7
      rw [ex'] at a2
      refine thnF a2 fun ok s8 ⟨H8, I8, q8⟩ => ?_
      cases ok with
      | false =>
        rw [if_neg Bool.false_ne_true] at q8 ⊢
        exact again I8 q8
      | true =>
        rw [if_pos rfl] at q8 ⊢
        have a3 := he' _ s8 σ7 H8 _ I8 q8
        rw [ex'] at a3
        refine thnF a3 fun v s9 ⟨vv, H9, I9, r9, ys, hy, hz, q9⟩ => ?_
        have a4 := mt_append (X := X') _ s9 σ7 H9 (.ref s2.heap.objs.size) [vv] (.ref s2.heap.objs.size) [v] (fun _ H' => N σ7 H') I9 rfl (.cons r9 .nil) ⟨_, ys, vv, rfl, rfl, hy, hz, q9⟩
        rw [ex'] at a4
        exact thnF a4 fun _ s10 ⟨_, H10, I10, _, q10⟩ => again I10 q10
  refine codeAny_compStart_list (loop _) (T.self _ 0 _ _ _ ?_ (loop _))
  exact T.keep 0 _ _ st2 fun b _ o e => old b o (old2 b o e)
theorem pe_comp (sc : Scope) (N N' : List Str) (n : Nat) (hi : PI X tg iter wi)
    (hg : ∀ cl C s₀ H₀ ex, PG (cxComp X N' scope cl C s₀ H₀ ex) tg g) (hif : ∀ cl C s₀ H₀ ex, PIf (cxComp X N' scope cl C s₀ H₀ ex) ifs tc) (he : ∀ cl C s₀ H₀ ex, PE (cxComp X N' scope cl C s₀ H₀ ex) elt te)
    (hc : X.calm = true := by rfl) (hsc : X.env.scope = sc := by rfl) (hN : X.N = N := by rfl) (hk : compOk sc scope N N' = true := by decide +kernel) (hl : N'.length = N.length + n := by rfl)
    (hs : ∀ x, foldedSetIterable iter X.env x = pure x := by intro _; rfl) : PE X (.ListComp elt [⟨tg, iter, ifs, 0⟩] scope pos) (tComp n wi g tc te) := by
  intro pins s σ H Q I h
  subst hsc hN
  have ck := CompOk.of hk
  rw [eval_ListComp]
  refine wpAny_comprehension_free (use := none) rfl hs (closure_eq fun x hx hf => I.ok.has x.1 (ck.free x hx hf)) ck.kind ck.names (thn (hi pins s σ H _ I h) fun v s1 h1 => thn h1 fun itv s2 h2 => ?_)
  obtain ⟨it, fp, tn, J, H2, e, I2, T, st2, f2, q⟩ := h2
  subst e
  refine comp_core (RR := fun acc C => compPost (model X.prog X.w) X.A X.xe none (EP X pins σ Q) acc C) hc ck hl hg hif he I2 T st2 f2 q ?_
  intro D C H' s' m IX hn hC c1 c2 c3 c4 qq
  exact ⟨m, hn, fun h' hs' => ⟨.ref D, H', IX.turned (t' := s'.toks) (fun b o hb e => hs'.extBut b o hb e) hC (Ne.symm (Ne.symm c1)) (.inr c2) c3 c4, rfl, qq⟩⟩
theorem ps_setC {y : Str} {py spos : Pos} {i : Nat} (sc : Scope) (N N' : List Str) (n : Nat) (hnd : X.N.Nodup) (hiN : X.N[i]? = some y) (hy : Loc X.env.scope y) (hi : PI X tg iter wi)
    (hg : ∀ cl C s₀ H₀ ex, PG (cxComp X N' scope cl C s₀ H₀ ex) tg g) (hif : ∀ cl C s₀ H₀ ex, PIf (cxComp X N' scope cl C s₀ H₀ ex) ifs tc) (he : ∀ cl C s₀ H₀ ex, PE (cxComp X N' scope cl C s₀ H₀ ex) elt te)
    (hsw : swapsWith (.ListComp elt [⟨tg, iter, ifs, 0⟩] scope pos) (some (.Name y py)) spos.line X.env = pure true := by rfl)
    (hc : X.calm = true := by rfl) (hsc : X.env.scope = sc := by rfl) (hN : X.N = N := by rfl) (hk : compOk sc scope N N' = true := by decide +kernel) (hl : N'.length = N.length + n := by rfl)
    (hs : ∀ x, foldedSetIterable iter X.env x = pure x := by intro _; rfl) (hf : X.fn y = true ∨ X.env.scope.names.lookup y = some .local := by first | exact .inl rfl | exact .inr rfl | assumption) :
    PS X (.Assign [.Name y py] (.ListComp elt [⟨tg, iter, ifs, 0⟩] scope pos) spos) (tAsg (tComp n wi g tc te) (gName i)) := by
  intro pins s σ H D I h
  subst hsc hN
  have ck := CompOk.of hk
  rw [exec_Assign_Name_used _ _ _ _ hsw]
  refine wpAny_bind (wpAny_standAt (wpAny_bind ?_))
  show wpAny _ X.A (do let _ ← comprehension (.ListComp elt [⟨tg, iter, ifs, 0⟩] scope pos) scope X.env _ (newList []) false (eval iter X.env) (some (assign (.Name y py) X.env))) _ _ s
  refine wpAny_bind (wpAny_mono (wpAny_comprehension_free (use := some (assign (.Name y py) X.env)) (Q := fun _ s' => SP X pins D .next s') rfl hs (closure_eq fun x hx hf => I.ok.has x.1 (ck.free x hx hf)) ck.kind ck.names
    (thn (hi pins s σ H _ I h) fun v s1 h1 => thn h1 fun itv s2 h2 => ?_)) (fun _ s' hq => wpAny_pure (wpAny_pure hq)) fun _ _ e => e)
  obtain ⟨it, fp, tn, J, H2, e, I2, T, st2, f2, q⟩ := h2
  subst e
  refine comp_core (Q := fun x H1 => gName i x σ H1 D.nx) (RR := fun acc C => compPost (model X.prog X.w) X.A X.xe (some (assign (.Name y py) X.env)) (fun _ s' => SP X pins D .next s') acc C) hc ck hl hg hif he I2 T st2 f2 q ?_
  intro D' C H' s' m IX hn hC c1 c2 c3 c4 qq
  show wpAny _ X.A (assign (.Name y py) X.env (.ref D')) _ _ _
  refine wpAny_assign_Name (store_ok2 IX hnd hiN hy (v := .ref D') rfl (fun s'' I'' hsb => ?_) hf)
  obtain ⟨a, hsb, ha⟩ := hsb
  have hCa : C ≠ a := by
    rcases ha with ha | ha
    · rw [ha]; exact c1
    · exact Ne.symm (c3 _ _ ha)
  refine ⟨m, hn.sameBut hsb hCa, fun h' hs' => ⟨_, H', I''.turned (t' := s''.toks) (fun b o hb e => hs'.extBut b o hb e) hC c1 (.inr c2) c3 c4, qq⟩⟩
end
end L2
namespace L2
open PySem PySem.Spec PyProof.Rows
section
variable {X : Cx}
def rSlS : V → Option Int → Option Int → Hp → VK → Prop := fun x lo hi H Q => ∃ z, x = .str z ∧ z.length ≤ sizeLine ∧ Q (.str (Txt.slice z lo hi)) H
theorem op_repS : OpR X (binaryOp .Mult) (fun x y H Q => ∃ z i, x = .str z ∧ y = .int i ∧ 0 ≤ i ∧ i ≤ 100000 ∧ z.length * i.toNat ≤ 100000 ∧ Q (.str (Txt.mul z i)) H) := by
  intro pins s σ H x y v u Q I rx ry h
  obtain ⟨z, i, rfl, rfl, h0, h1, h2, q⟩ := h
  obtain ⟨t, rfl⟩ := rx
  obtain ⟨t', rfl⟩ := ry
  have hsz : sizeLine = 16777216 := sizeLine_eq
  refine SB.mul ⟨?_, fun h3 h4 => ?_, fun h3 h4 => ?_⟩ fun t' k => ⟨.str _, H, I.tok k, ⟨_, rfl⟩, q⟩
  · rw [decide_eq_false (by omega), decide_eq_false (by omega)]; rfl
  · have h5 : (z.length : Int) ≤ 100000 := by
      have h6 : z.length * 1 ≤ z.length * i.toNat := Nat.mul_le_mul_left _ (by omega)
      omega
    have h7 : (100000 : Int) ≤ (2 ^ 63 - 1) / i := by
      rw [Int.le_ediv_iff_mul_le (by omega)]
      have : (100000 : Int) * i ≤ 100000 * 100000 := Int.mul_le_mul_of_nonneg_left h1 (by decide)
      have e : (2 : Int) ^ 63 - 1 = 9223372036854775807 := by decide
      omega
    omega
  · unfold Builtin.Str.tooLong
    rw [hsz]
    exact decide_eq_false (by omega)
end
end L2
namespace L2
open PySem PySem.Spec PyProof.Rows
def isStar : Expr → Bool
  | .Starred _ _ => true
  | _ => false
def noStar (es : List Expr) : Bool := es.all fun e => !isStar e
theorem star_one (e : Expr) (es : List Expr) (env : Env) (h : isStar e = false) : starEach (e :: es) env = (false, eval e env) :: starEach es env := by
  cases e <;> first | rfl | (exact absurd h (by simp [isStar]))
theorem star_any (pos : Pos) (env : Env) : ∀ es : List Expr, noStar es = true → (backTo pos (starEach es env)).any (·.1) = false
  | [], _ => rfl
  | e :: es, h => by
    have h' : (!isStar e) = true ∧ noStar es = true := by
      have := h
      unfold noStar at this ⊢
      rw [List.all_cons, Bool.and_eq_true] at this
      exact this
    have hs : isStar e = false := by
      have := h'.1
      cases q : isStar e with
      | true => rw [q] at this; cases this
      | false => rfl
    rw [star_one e es env hs]
    show (false || (backTo pos (starEach es env)).any (·.1)) = false
    rw [star_any pos env es h'.2]; rfl
theorem noStar_cons {e : Expr} {es : List Expr} (h : noStar (e :: es) = true) : isStar e = false ∧ noStar es = true := by
  unfold noStar at h ⊢
  rw [List.all_cons, Bool.and_eq_true] at h
  refine ⟨?_, h.2⟩
  cases q : isStar e with
  | true => rw [q] at h; cases h.1
  | false => rfl
section
variable {X : Cx} {CX : CXT} {k : Nat} {f C : Addr} {fd : FuncData} {ps : List Str} {sp : Sp} {dvs : List V} {ds : List Value} {E : XK} {x m : Str} {p pos apos : Pos} {e o : Expr} {es : List Expr} {ta te : TE} {t : TA} {id T : String} {r : List V → Hp → VK → Prop}
theorem pac (ha : PE X e te) (hr : PA X es t) (hs : isStar e = false := by rfl) : PA X (e :: es) (tCons te t) := pa_cons ha hr (star_one _ _ _ hs)
theorem pcall (F : FnOk X.prog X.w X.K X.mg X.base CX k f fd ps sp) (hr : Room k X.A) (hm : X.mg x = some (.ref f)) (hk : PySem.W.keepIn X.K (.ref f) = true) (hb : Binds X.K fd ps []) (hx : Passes CX X E)
    (ha : PA X (e :: es) t) (hg : Gl X x := by rfl) (hdb : (x == ("__debug__" : Str)) = false := by decide) (hs : noStar (e :: es) = true := by rfl) : PE X (.Call (.Name x p) (e :: es) [] pos) (tCall sp [] E t) :=
  pe_call F hr hg hm hk hb .nil hx ha hdb (star_one _ _ _ (noStar_cons hs).1) (star_any _ _ _ (noStar_cons hs).2)
theorem pblt (hc : CallR X (.builtin id) r) (hm : X.mg x = none) (hv : bootBuiltins x = some (.builtin id)) (ha : PA X (e :: es) t) (hg : Gl X x := by rfl) (hn : x ≠ "__name__" := by decide) (hdb : (x == ("__debug__" : Str)) = false := by decide)
    (hs : noStar (e :: es) = true := by rfl) : PE X (.Call (.Name x p) (e :: es) [] pos) (tCB r t) :=
  pe_callB hc hg hm hv ha hn hdb (star_one _ _ _ (noStar_cons hs).1) (star_any _ _ _ (noStar_cons hs).2)
theorem ptyp (hc : CallR X (.type T) r) (hm : X.mg x = none) (hv : bootBuiltins x = some (.type T)) (ha : PA X (e :: es) t) (hg : Gl X x := by rfl) (hn : x ≠ "__name__" := by decide) (hdb : (x == ("__debug__" : Str)) = false := by decide)
    (hs : noStar (e :: es) = true := by rfl) : PE X (.Call (.Name x p) (e :: es) [] pos) (tCB r t) :=
  pe_callTy hc hg hm hv ha hn hdb (star_one _ _ _ (noStar_cons hs).1) (star_any _ _ _ (noStar_cons hs).2)
end
end L2
namespace L2
open PySem PySem.Spec PyProof.Rows
structure Ev (X : Cx) (e : Expr) (σ : St) (H : Hp) (Q : VK) : Prop where
  run : ∀ (pins : List (Addr × Obj)) (s : Shared), Inv X pins σ H s → wpAny (model X.prog X.w) X.A (eval e X.env) (EP X pins σ Q) X.xe s
structure Et (X : Cx) (e : Expr) (σ : St) (H : Hp) (Q : Bool → Hp → Prop) : Prop where
  run : ∀ (pins : List (Addr × Obj)) (s : Shared), Inv X pins σ H s → wpAny (model X.prog X.w) X.A (isTrue e X.env (eval e X.env)) (TP X pins σ Q) X.xe s
structure Ew (X : Cx) (e : Expr) (σ : St) (H : Hp) (Q : Bool → Hp → Prop) : Prop where
  run : ∀ (whole : Sem Value) (pins : List (Addr × Obj)) (s : Shared), Inv X pins σ H s → wpAny (model X.prog X.w) X.A (isTrue e X.env whole) (TP X pins σ Q) X.xe s
structure Ea (X : Cx) (es : List Expr) (σ : St) (H : Hp) (Q : List V → Hp → Prop) : Prop where
  run : ∀ (pos : Pos) (pins : List (Addr × Obj)) (s : Shared), Inv X pins σ H s → wpAny (model X.prog X.w) X.A (spliced (backTo pos (starEach es X.env))) (AP X pins σ Q) X.xe s
structure Eo (X : Cx) (e : Option Expr) (σ : St) (H : Hp) (Q : Option Int → Hp → Prop) : Prop where
  run : ∀ (pins : List (Addr × Obj)) (s : Shared), Inv X pins σ H s → wpAny (model X.prog X.w) X.A (evalPart e X.env) (fun u s' => ∃ o H', Inv X pins σ H' s' ∧ IsPart u o ∧ Q o H') X.xe s
structure Eg (X : Cx) (e : Expr) (v : V) (σ : St) (H : Hp) (Q : St → Hp → Prop) : Prop where
  run : ∀ (pins : List (Addr × Obj)) (s : Shared) (u : Value), Inv X pins σ H s → RelV v u → wpAny (model X.prog X.w) X.A (assign e X.env u) (fun _ s' => ∃ σ' H', Inv X pins σ' H' s' ∧ Q σ' H') X.xe s
structure Run (X : Cx) (l : List Stmt) (D : Ends) (σ : St) (H : Hp) : Prop where
  run : ∀ (pins : List (Addr × Obj)) (s : Shared), Inv X pins σ H s → wpAny (model X.prog X.w) X.A (execs l X.env) (SP X pins D) X.xe s
def tEv (X : Cx) (e : Expr) : TE := fun σ H Q => Ev X e σ H Q
def tEt (X : Cx) (e : Expr) : TT := fun σ H Q => Et X e σ H Q
def tEw (X : Cx) (e : Expr) : TT := fun σ H Q => Ew X e σ H Q
def tEa (X : Cx) (es : List Expr) : TA := fun σ H Q => Ea X es σ H Q
def tEo (X : Cx) (e : Option Expr) : TO := fun σ H Q => Eo X e σ H Q
def tEg (X : Cx) (e : Expr) : TG := fun v σ H Q => Eg X e v σ H Q
def tRun (X : Cx) (l : List Stmt) : TS := fun D σ H => Run X l D σ H
section
variable {X : Cx} {e a b c o : Expr} {es : List Expr} {st : Stmt} {rest body els : List Stmt} {σ : St} {H : Hp} {Q : VK} {T : Bool → Hp → Prop} {L : List V → Hp → Prop} {D : Ends} {pos p p2 : Pos}
theorem pe_ev : PE X e (tEv X e) := fun pins s _ _ _ I h => h.run pins s I
theorem pt_et : PT X e (tEt X e) := fun pins s _ _ _ I h => h.run pins s I
theorem pw_ew : PW X e (tEw X e) := fun wh pins s _ _ _ I h => h.run wh pins s I
theorem pa_ea : PA X es (tEa X es) := fun pos pins s _ _ _ I h => h.run pos pins s I
theorem po_eo {e : Option Expr} : PO X e (tEo X e) := fun pins s _ _ _ I h => h.run pins s I
theorem pg_eg : PG X e (tEg X e) := fun pins s _ _ _ u _ I r h => h.run pins s u I r
theorem pss_run {l : List Stmt} : PSs X l (tRun X l) := fun pins s _ _ _ I h => h.run pins s I
theorem ev_of {t : TE} (h1 : PE X e t) (h2 : t σ H Q) : Ev X e σ H Q := ⟨fun pins s I => h1 pins s σ H Q I h2⟩
theorem et_of {t : TT} (h1 : PT X e t) (h2 : t σ H T) : Et X e σ H T := ⟨fun pins s I => h1 pins s σ H T I h2⟩
theorem ew_of {t : TT} (h1 : PW X e t) (h2 : t σ H T) : Ew X e σ H T := ⟨fun wh pins s I => h1 wh pins s σ H T I h2⟩
theorem ea_of {t : TA} (h1 : PA X es t) (h2 : t σ H L) : Ea X es σ H L := ⟨fun pos pins s I => h1 pos pins s σ H L I h2⟩
theorem eo_of {e : Option Expr} {t : TO} {R : Option Int → Hp → Prop} (h1 : PO X e t) (h2 : t σ H R) : Eo X e σ H R := ⟨fun pins s I => h1 pins s σ H R I h2⟩
theorem eg_of {t : TG} {v : V} {R : St → Hp → Prop} (h1 : PG X e t) (h2 : t v σ H R) : Eg X e v σ H R := ⟨fun pins s u I r => h1 pins s σ H v u R I r h2⟩
theorem run_cons {t : TS} (h1 : PS X st t) (h2 : t { D with nx := fun σ' H' => Run X rest D σ' H' } σ H) : Run X (st :: rest) D σ H := ⟨fun pins s I => pss_cons h1 pss_run pins s σ H D I h2⟩
theorem run_nil (h : D.nx σ H) : Run X [] D σ H := ⟨fun pins s I => pss_nil pins s σ H D I h⟩
theorem Ev.mono {Q' : VK} (h : Ev X e σ H Q) (f : ∀ v H', Q v H' → Q' v H') : Ev X e σ H Q' := ⟨fun pins s I => thn (h.run pins s I) fun _ _ ⟨v, H', I', r, q⟩ => ⟨v, H', I', r, f v H' q⟩⟩
theorem Et.mono {T' : Bool → Hp → Prop} (h : Et X e σ H T) (f : ∀ v H', T v H' → T' v H') : Et X e σ H T' := ⟨fun pins s I => thn (h.run pins s I) fun v _ ⟨H', I', q⟩ => ⟨H', I', f v H' q⟩⟩
theorem Ea.mono {L' : List V → Hp → Prop} (h : Ea X es σ H L) (f : ∀ v H', L v H' → L' v H') : Ea X es σ H L' := ⟨fun pos pins s I => thn (h.run pos pins s I) fun _ _ ⟨v, H', I', r, q⟩ => ⟨v, H', I', r, f v H' q⟩⟩
theorem ev_v (i : Nat) {x : Str} {v : V} (h : Q v H) (hv : σ[i]? = some (some v) := by rfl) (hN : X.N[i]? = some x := by rfl) (hs : Vis X.env.scope x := by first | exact Or.inl rfl | exact Or.inr (Or.inl rfl) | exact Or.inr (Or.inr rfl)) (hd : (x == ("__debug__" : Str)) = false := by decide)
    (hcd : (x == ("__classdict__" : Str)) = false := by decide) : Ev X (.Name x p) σ H Q := ev_of (pe_var (i := i) hN hs hd hcd) ⟨v, hv, h⟩
theorem ev_int {i : Int} {j : Nat} (h : Q (.int i) H) : Ev X (.Constant (.int i) j p) σ H Q := ev_of (pe_int) h
theorem ev_bl {i : Bool} {j : Nat} (h : Q (.bl i) H) : Ev X (.Constant (.bool i) j p) σ H Q := ev_of (pe_bl) h
theorem ev_str {i : Str} {j : Nat} (h : Q (.str i) H) : Ev X (.Constant (.str i) j p) σ H Q := ev_of (pe_str) h
theorem ev_op {op : Operator} {r : R2} (ho : OpR X (binaryOp op) r) (h : Ev X a σ H fun x H1 => Ev X b σ H1 fun y H2 => r x y H2 Q) : Ev X (.BinOp a op b pos) σ H Q := ev_of (pe_op ho pe_ev pe_ev) h
theorem ev_cmp {op : CmpOp} {r : R2} (ho : OpR X (compareOp op) r) (h : Ev X a σ H fun x H1 => Ev X b σ H1 fun y H2 => r x y H2 Q) (hm : behindInMarks op b = false := by with_unfolding_all rfl) : Ev X (.Compare a [op] [b] pos) σ H Q := ev_of (pe_cmpR ho pe_ev pe_ev hm) h
theorem ev_ix {r : R2} (hr : IxR X r) (h : Ev X a σ H fun x H1 => Ev X b σ H1 fun y H2 => r x y H2 Q) (hs : PlainIx b := by intro _ _; rfl) : Ev X (.Subscript a b pos) σ H Q := ev_of (pe_ix hr pe_ev pe_ev hs) h
theorem ev_slice {r : V → Option Int → Option Int → Hp → VK → Prop} {lo hi : Option Expr} (hr : SlR X r) (h : Ev X a σ H fun x H1 => Eo X lo σ H1 fun l H2 => Eo X hi σ H2 fun u H3 => r x l u H3 Q) : Ev X (.Subscript a (.Slice lo hi none p2) pos) σ H Q := ev_of (pe_slice hr pe_ev po_eo po_eo) h
theorem eo_none {R : Option Int → Hp → Prop} (h : R none H) : Eo X none σ H R := eo_of (po_none) h
theorem eo_some {R : Option Int → Hp → Prop} (h : Ev X a σ H fun x H1 => ∃ i, x = .int i ∧ R (some i) H1) : Eo X (some a) σ H R := eo_of (po_some pe_ev) h
theorem ea_nil (h : L [] H) : Ea X [] σ H L := ea_of (pa_nil) h
theorem ea_cons (h : Ev X e σ H fun x H1 => Ea X es σ H1 fun xs H2 => L (x :: xs) H2) (hs : isStar e = false := by rfl) : Ea X (e :: es) σ H L := ea_of (pac pe_ev pa_ea hs) h
theorem ev_tup {k : Nat} (h : Ea X es σ H fun xs H1 => xs.length ≤ sizeLine ∧ ∀ p, H1 p = none → Q (.ref p) (upd H1 p (.tup xs))) : Ev X (.Tuple es k pos) σ H Q := ev_of (pe_tup pa_ea) h
theorem ev_lst (h : Ea X es σ H fun xs H1 => xs.length ≤ sizeLine ∧ ∀ p, H1 p = none → Q (.ref p) (upd H1 p (.lst xs))) : Ev X (.List es pos) σ H Q := ev_of (pe_lst pa_ea) h
theorem ev_call {CX : CXT} {k : Nat} {f : Addr} {fd : FuncData} {ps : List Str} {sp : Sp} {E : XK} {x : Str} (F : FnOk X.prog X.w X.K X.mg X.base CX k f fd ps sp) (hr : Room k X.A) (hm : X.mg x = some (.ref f)) (hk : PySem.W.keepIn X.K (.ref f) = true) (hb : Binds X.K fd ps []) (hx : Passes CX X E)
    (h : Ea X (e :: es) σ H fun vs H1 => sp vs H1 Q E) (hg : Gl X x := by rfl) (hdb : (x == ("__debug__" : Str)) = false := by decide) (hs : noStar (e :: es) = true := by rfl) : Ev X (.Call (.Name x p) (e :: es) [] pos) σ H Q :=
  ev_of (pcall F hr hm hk hb hx pa_ea hg hdb hs) (show Ea X (e :: es) σ H _ from h.mono fun vs H1 q => by rw [List.append_nil]; exact q)
theorem ev_blt {id : String} {r : List V → Hp → VK → Prop} {x : Str} (hc : CallR X (.builtin id) r) (hm : X.mg x = none) (hv : bootBuiltins x = some (.builtin id)) (h : Ea X (e :: es) σ H fun vs H1 => r vs H1 Q) (hg : Gl X x := by rfl) (hn : x ≠ "__name__" := by decide) (hdb : (x == ("__debug__" : Str)) = false := by decide)
    (hs : noStar (e :: es) = true := by rfl) : Ev X (.Call (.Name x p) (e :: es) [] pos) σ H Q := ev_of (pblt hc hm hv pa_ea hg hn hdb hs) h
theorem ev_typ {T : String} {r : List V → Hp → VK → Prop} {x : Str} (hc : CallR X (.type T) r) (hm : X.mg x = none) (hv : bootBuiltins x = some (.type T)) (h : Ea X (e :: es) σ H fun vs H1 => r vs H1 Q) (hg : Gl X x := by rfl) (hn : x ≠ "__name__" := by decide) (hdb : (x == ("__debug__" : Str)) = false := by decide)
    (hs : noStar (e :: es) = true := by rfl) : Ev X (.Call (.Name x p) (e :: es) [] pos) σ H Q := ev_of (ptyp hc hm hv pa_ea hg hn hdb hs) h
theorem et_cmp {op : CmpOp} {r : R2} (ho : OpR X (compareOp op) r) (h : Ev X a σ H fun x H1 => Ev X b σ H1 fun y H2 => r x y H2 fun z H3 => ∃ k, z = .bl k ∧ T k H3) (hm : behindInMarks op b = false := by with_unfolding_all rfl) : Et X (.Compare a [op] [b] pos) σ H T := et_of (pt_cmpR ho pe_ev pe_ev hm) h
theorem et_truth (h : Ev X e σ H fun x H1 => ∃ k, TruV X.K x H1 k ∧ T k H1) (he : ∀ whole, isTrue e X.env whole = (do let v ← whole; standAt e.pos; holding [v] (truthy v)) := by intro _; rfl) : Et X e σ H T := et_of (pt_truth pe_ev he) h
theorem et_bool (h : Ew X e σ H T) : Et X e σ H T := ⟨fun pins s I => h.run _ pins s I⟩
theorem ew_and (h : Et X a σ H fun k H1 => if k = true then Ew X (.BoolOp .And (b :: es) pos) σ H1 T else T false H1) : Ew X (.BoolOp .And (a :: b :: es) pos) σ H T := ew_of (pw_and pt_et pw_ew) h
theorem ew_and1 (h : Et X a σ H T) : Ew X (.BoolOp .And [a] pos) σ H T := ew_of (pw_and1 pt_et) h
theorem eg_name (i : Nat) {x : Str} {v : V} {R : St → Hp → Prop} (hN : X.N.Nodup) (h : R (σ.set i (some v)) H) (hi : X.N[i]? = some x := by rfl) (hx : Loc X.env.scope x := by first | exact Or.inl rfl | exact Or.inr rfl) (hf : X.fn x = true ∨ X.env.scope.names.lookup x = some .local := by first | exact .inl rfl | exact .inr rfl | assumption) : Eg X (.Name x p) v σ H R := eg_of (pg_name hN hi hx hf) h
theorem run_set (i : Nat) {x : Str} {pos' : Pos} (hN : X.N.Nodup) (h : Ev X e σ H fun v H1 => Run X rest D (σ.set i (some v)) H1) (hi : X.N[i]? = some x := by rfl) (hx : Loc X.env.scope x := by first | exact Or.inl rfl | exact Or.inr rfl) (hs : swapsWith e (some (.Name x pos')) pos.line X.env = pure false := by rfl)
    (hf : X.fn x = true ∨ X.env.scope.names.lookup x = some .local := by first | exact .inl rfl | exact .inr rfl | assumption) : Run X (.Assign [.Name x pos'] e pos :: rest) D σ H := run_cons (ps_set hN hi hx pe_ev hs hf) h
theorem run_if (h : Et X c σ H fun k H1 => if k = true then Run X body { D with nx := fun σ' H' => Run X rest D σ' H' } σ H1 else Run X els { D with nx := fun σ' H' => Run X rest D σ' H' } σ H1) : Run X (.If c body els pos :: rest) D σ H := run_cons (ps_if pt_et pss_run pss_run) h
theorem run_ifJ (φ ψ : Prop) (hc : ∀ T : Bool → Hp → Prop, (∀ k : Bool, (k = true → φ) → (k = false → ψ) → T k H) → Et X c σ H T) (ht : φ → Run X body { D with nx := fun σ' H' => Run X rest D σ' H' } σ H) (hu : ψ → Run X els { D with nx := fun σ' H' => Run X rest D σ' H' } σ H) : Run X (.If c body els pos :: rest) D σ H :=
  run_if (hc _ fun k p q => by
    cases k with
    | true => rw [if_pos rfl]; exact ht (p rfl)
    | false => rw [if_neg Bool.false_ne_true]; exact hu (q rfl))
theorem run_ret (h : Ev X e σ H D.rt) : Run X (.Return (some e) pos :: rest) D σ H := run_cons (ps_ret pe_ev) h
theorem run_expr (h : Ev X e σ H fun _ H1 => Run X rest D σ H1) (hs : swapsWith e none pos.line X.env = pure false := by rfl) : Run X (.Expr e pos :: rest) D σ H := run_cons (ps_expr pe_ev hs) h
theorem run_asg {tg : Expr} (h : Ev X e σ H fun v H1 => Eg X tg v σ H1 fun σ' H' => Run X rest D σ' H') (hs : swapsWithSole [tg] e pos.line X.env = pure false := by rfl) (hw : swappedStores [tg] e X.env = pure none := by rfl)
    (h1 : (assignEach [tg] X.env).map (·.2) = [assign tg X.env] := by rfl) : Run X (.Assign [tg] e pos :: rest) D σ H := run_cons (ps_asg pe_ev pg_eg hs hw h1) h
def Loop (X : Cx) (tg : Expr) (body : List Stmt) (J : It) (D : Ends) (after : St → Hp → Prop) (σ : St) (H : Hp) : Prop :=
  ∃ W : Nat → Nat → St → Hp → Prop, (∃ m, W 0 m σ H) ∧ ∀ i m σ H, W i m σ H → (J.stop i H ∧ after σ H) ∨ (J.go i H ∧ ∃ N : St → Hp → Prop, (∀ σ' H', N σ' H' → ∃ m', m' < m ∧ W (i + 1) m' σ' H') ∧
    ∀ x H', J.yld i H x H' → Eg X tg x σ H' fun σ2 H2 => Run X body { D with nx := N, ct := N, bk := after } σ2 H2)
theorem run_for {tg iter : Expr} {wi : TI} (hi : PI X tg iter wi) (h : wi σ H fun J H1 => Loop X tg body J D (fun σ' H' => Run X rest D σ' H') σ H1) (hp : PassesOwn (model X.prog X.w) X.A X.env X.xe := by exact PassesOwn.never) (hc : X.calm = true := by rfl)
    (hs : ∀ x, foldedSetIterable iter X.env x = pure x := by intro _; rfl) : Run X (.For tg iter body [] pos :: rest) D σ H := run_cons (ps_for hp hc hi pg_eg pss_run hs) h
theorem run_forR1 {tg : Expr} {q : Pos} (hm : X.mg "range" = none) (h : Ev X a σ H fun x H1 => ∃ j : Int, x = .int j ∧ -(2 ^ 62) ≤ j ∧ j < 2 ^ 62 ∧ Loop X tg body (Itr 0 j.toNat) D (fun σ' H' => Run X rest D σ' H') σ H1) (hg : Gl X "range" := by rfl) (hp : PassesOwn (model X.prog X.w) X.A X.env X.xe := by exact PassesOwn.never) (hc : X.calm = true := by rfl) (hs : isStar a = false := by rfl) :
    Run X (.For tg (.Call (.Name "range" q) [a] [] p) body [] pos :: rest) D σ H :=
  run_for (wi := iRng1 (tEa X [a])) (pi_range1 hg hm pa_ea (star_one a [] _ hs)) (show Ea X [a] σ H _ from ea_cons (h.mono fun x H1 ⟨j, e, h1, h2, h3⟩ => ea_nil ⟨j, by rw [e], h1, h2, h3⟩) hs) hp hc (by intro _; rfl)
theorem run_forT {tg iter : Expr} (h : Ev X iter σ H fun x H1 => ∃ a, x = .ref a ∧ (∃ xs, SqT X.K H1 a xs) ∧ Loop X tg body (Itt X.K a) D (fun σ' H' => Run X rest D σ' H') σ H1) (hp : PassesOwn (model X.prog X.w) X.A X.env X.xe := by exact PassesOwn.never) (hc : X.calm = true := by rfl)
    (hs : ∀ x, foldedSetIterable iter X.env x = pure x := by intro _; rfl) : Run X (.For tg iter body [] pos :: rest) D σ H := run_for (pi_tup pe_ev) h hp hc hs
theorem run_forL {tg iter : Expr} (h : Ev X iter σ H fun x H1 => ∃ a, x = .ref a ∧ (∃ xs, SqL X.K H1 a xs) ∧ Loop X tg body (Itl X.K a) D (fun σ' H' => Run X rest D σ' H') σ H1) (hp : PassesOwn (model X.prog X.w) X.A X.env X.xe := by exact PassesOwn.never) (hc : X.calm = true := by rfl)
    (hs : ∀ x, foldedSetIterable iter X.env x = pure x := by intro _; rfl) : Run X (.For tg iter body [] pos :: rest) D σ H := run_for (pi_list pe_ev) h hp hc hs
theorem loop_range {tg : Expr} {lo : Int} {n : Nat} {after : St → Hp → Prop} (Pv : Nat → St → Hp → Prop) (h0 : Pv 0 σ H)
    (hs : ∀ i σ H, i < n → Pv i σ H → Eg X tg (.int (lo + i)) σ H fun σ2 H2 => Run X body { D with nx := Pv (i + 1), ct := Pv (i + 1), bk := after } σ2 H2) (hd : ∀ σ H, Pv n σ H → after σ H) : Loop X tg body (Itr lo n) D after σ H := by
  refine ⟨fun i m σ H => m = n - i ∧ i ≤ n ∧ Pv i σ H, ⟨n, by simp, Nat.zero_le _, h0⟩, ?_⟩
  rintro i m σ H ⟨rfl, hi, p⟩
  by_cases hlt : i < n
  · refine .inr ⟨hlt, Pv (i + 1), fun σ' H' p' => ⟨n - (i + 1), by omega, rfl, hlt, p'⟩, fun x H' y => ?_⟩
    obtain ⟨e, y⟩ := y
    subst e y
    exact hs i σ _ hlt p
  · have e : i = n := by omega
    subst e
    exact .inl ⟨Nat.le_refl _, hd σ H p⟩
theorem loop_tup {tg : Expr} {at_ : Addr} {xs : List V} {after : St → Hp → Prop} (Pv : Nat → St → Hp → Prop) (h0 : Pv 0 σ H) (hl : ∀ i σ H, i ≤ xs.length → Pv i σ H → SqT X.K H at_ xs)
    (hs : ∀ i x σ H, xs[i]? = some x → Pv i σ H → Eg X tg x σ H fun σ2 H2 => Run X body { D with nx := Pv (i + 1), ct := Pv (i + 1), bk := after } σ2 H2) (hd : ∀ σ H, Pv xs.length σ H → after σ H) : Loop X tg body (Itt X.K at_) D after σ H := by
  refine ⟨fun i m σ H => m = xs.length - i ∧ i ≤ xs.length ∧ Pv i σ H, ⟨xs.length, by simp, Nat.zero_le _, h0⟩, ?_⟩
  rintro i m σ H ⟨rfl, hi, p⟩
  have q := hl i σ H hi p
  by_cases hlt : i < xs.length
  · refine .inr ⟨⟨xs, xs[i], q, by simp [hlt]⟩, Pv (i + 1), fun σ' H' p' => ⟨xs.length - (i + 1), by omega, rfl, hlt, p'⟩, fun x H' y => ?_⟩
    obtain ⟨e, y⟩ := y
    subst e
    exact hs i x σ _ (y xs q) p
  · have e : i = xs.length := by omega
    subst e
    exact .inl ⟨⟨xs, q, Nat.le_refl _⟩, hd σ H p⟩
theorem loop_list {tg : Expr} {at_ : Addr} {xs : List V} {after : St → Hp → Prop} (Pv : Nat → St → Hp → Prop) (h0 : Pv 0 σ H) (hl : ∀ i σ H, i ≤ xs.length → Pv i σ H → SqL X.K H at_ xs)
    (hs : ∀ i x σ H, xs[i]? = some x → Pv i σ H → Eg X tg x σ H fun σ2 H2 => Run X body { D with nx := Pv (i + 1), ct := Pv (i + 1), bk := after } σ2 H2) (hd : ∀ σ H, Pv xs.length σ H → after σ H) : Loop X tg body (Itl X.K at_) D after σ H := by
  refine ⟨fun i m σ H => m = xs.length - i ∧ i ≤ xs.length ∧ Pv i σ H, ⟨xs.length, by simp, Nat.zero_le _, h0⟩, ?_⟩
  rintro i m σ H ⟨rfl, hi, p⟩
  have q := hl i σ H hi p
  by_cases hlt : i < xs.length
  · refine .inr ⟨⟨xs, xs[i], q, by simp [hlt]⟩, Pv (i + 1), fun σ' H' p' => ⟨xs.length - (i + 1), by omega, rfl, hlt, p'⟩, fun x H' y => ?_⟩
    obtain ⟨e, y⟩ := y
    subst e
    exact hs i x σ _ (y xs q) p
  · have e : i = xs.length := by omega
    subst e
    exact .inl ⟨⟨xs, q, Nat.le_refl _⟩, hd σ H p⟩
theorem Fun.go {P : Program} {w : World} {K : PySem.W.Frag} {mg : Str → Option Value} {base : Heap} {x qual : Str} {st : Stmt} {f : Addr} {fd : FuncData} {N ps : List Str} {k : Nat} {sp : Sp} (F : Fun K x qual st f fd) (S : FnScope N ps (defScope st)) (len : ∀ vs H Q E, sp vs H Q E → vs.length = ps.length)
    (hbody : ∀ (cdv : Value) (A : Around) (outer : List Env) (s : Shared) (H : Hp) (vs : List V) (Q : VK) (E : XK), Room k (A.deeper (envOfC qual (defScope st) s.heap.objs.size f cdv)) → sp vs H Q E →
      Run (cxOf CX0 P w K mg base N qual (defScope st) f cdv A outer s H E).nox (defBody st) { nx := fun _ H' => Q .non H', rt := Q } (start N vs) H) : FnOk P w K mg base CX0 (k + 1) f fd ps sp :=
  F.ok S len fun cdv A outer s H vs Q E hr hsp => ⟨_, pss_run, hbody cdv A outer s H vs Q E hr hsp⟩
end
end L2
namespace L2
open PySem PySem.Spec PyProof.Rows
structure Ei (X : Cx) (ifs : List Expr) (σ : St) (H : Hp) (Q : Bool → Hp → Prop) : Prop where
  run : ∀ (pins : List (Addr × Obj)) (s : Shared), Inv X pins σ H s →
    wpAny (model X.prog X.w) X.A (forIn ifs true fun c r => if r = true then do let ok ← isTrue c X.env (eval c X.env); pure (ForInStep.yield ok) else pure (ForInStep.yield r)) (TP X pins σ Q) X.xe s
def CEv (X : Cx) (N' : List Str) (scope : Scope) (e : Expr) (σ : St) (H : Hp) (Q : VK) : Prop := ∀ cl C s₀ H₀ ex, Ev (cxComp X N' scope cl C s₀ H₀ ex) e σ H Q
def CEg (X : Cx) (N' : List Str) (scope : Scope) (e : Expr) (v : V) (σ : St) (H : Hp) (Q : St → Hp → Prop) : Prop := ∀ cl C s₀ H₀ ex, Eg (cxComp X N' scope cl C s₀ H₀ ex) e v σ H Q
def CEi (X : Cx) (N' : List Str) (scope : Scope) (ifs : List Expr) (σ : St) (H : Hp) (Q : Bool → Hp → Prop) : Prop := ∀ cl C s₀ H₀ ex, Ei (cxComp X N' scope cl C s₀ H₀ ex) ifs σ H Q
def CompL (X : Cx) (N' : List Str) (scope : Scope) (tg : Expr) (ifs : List Expr) (elt : Expr) (J : It) (D : Addr) (after : Hp → Prop) (σ : St) (H : Hp) : Prop :=
  ∃ W : Nat → Nat → St → Hp → Prop, (∃ m, W 0 m σ H) ∧ ∀ i m σ' H', W i m σ' H' →
    (J.stop i H' ∧ after H') ∨ (J.go i H' ∧ ∃ N : St → Hp → Prop, (∀ σ' H', N σ' H' → ∃ m', m' < m ∧ W (i + 1) m' σ' H') ∧ ∀ x H2, J.yld i H' x H2 → CEg X N' scope tg x σ' H2 fun σ2 H3 => CEi X N' scope ifs σ2 H3 fun b H4 =>
      if b = true then CEv X N' scope elt σ2 H4 fun v H5 => ∃ ys, H5 D = some (.lst ys) ∧ ys.length < sizeLine ∧ N σ2 (upd H5 D (.lst (ys ++ [v]))) else N σ2 H4)
section
variable {X : Cx} {elt tg iter c : Expr} {ifs : List Expr} {scope : Scope} {pos p : Pos} {wi : TI} {σ : St} {H : Hp} {Q : VK} {T : Bool → Hp → Prop} {rest : List Stmt} {D : Ends}
theorem ei_nil (h : T true H) : Ei X [] σ H T := ⟨fun pins s I => pif_nil pins s σ H T I h⟩
theorem ei_one (h : Et X c σ H T) : Ei X [c] σ H T := ⟨fun pins s I => pif_one pt_et pins s σ H T I h⟩
theorem ev_comp (sc : Scope) (N N' : List Str) (n : Nat) (hi : PI X tg iter wi)
    (h : wi σ H fun J H1 => ∀ D, H1 D = none → CompL X N' scope tg ifs elt J D (fun H' => Q (.ref D) H') (σ ++ List.replicate n none) (upd H1 D (.lst [])))
    (hc : X.calm = true := by rfl) (hsc : X.env.scope = sc := by rfl) (hN : X.N = N := by rfl) (hk : compOk sc scope N N' = true := by decide +kernel) (hl : N'.length = N.length + n := by rfl)
    (hs : ∀ x, foldedSetIterable iter X.env x = pure x := by intro _; rfl) : Ev X (.ListComp elt [⟨tg, iter, ifs, 0⟩] scope pos) σ H Q :=
  ev_of (pe_comp (g := fun v σ H Q => CEg X N' scope tg v σ H Q) (tc := fun σ H Q => CEi X N' scope ifs σ H Q) (te := fun σ H Q => CEv X N' scope elt σ H Q) sc N N' n hi
    (fun cl C s₀ H₀ ex pins s σ H v u Q I r h => (h cl C s₀ H₀ ex).run pins s u I r) (fun cl C s₀ H₀ ex pins s σ H Q I h => (h cl C s₀ H₀ ex).run pins s I) (fun cl C s₀ H₀ ex pins s σ H Q I h => (h cl C s₀ H₀ ex).run pins s I) hc hsc hN hk hl hs) h
theorem run_setC (i : Nat) {y : Str} {py spos : Pos} (sc : Scope) (N N' : List Str) (n : Nat) (hnd : X.N.Nodup) (hi : PI X tg iter wi)
    (h : wi σ H fun J H1 => ∀ A, H1 A = none → CompL X N' scope tg ifs elt J A (fun H' => Run X rest D (σ.set i (some (.ref A))) H') (σ ++ List.replicate n none) (upd H1 A (.lst [])))
    (hiN : X.N[i]? = some y := by rfl) (hy : Loc X.env.scope y := by first | exact Or.inl rfl | exact Or.inr rfl)
    (hsw : swapsWith (.ListComp elt [⟨tg, iter, ifs, 0⟩] scope pos) (some (.Name y py)) spos.line X.env = pure true := by rfl)
    (hc : X.calm = true := by rfl) (hsc : X.env.scope = sc := by rfl) (hN : X.N = N := by rfl) (hk : compOk sc scope N N' = true := by decide +kernel) (hl : N'.length = N.length + n := by rfl)
    (hs : ∀ x, foldedSetIterable iter X.env x = pure x := by intro _; rfl) (hf : X.fn y = true ∨ X.env.scope.names.lookup y = some .local := by first | exact .inl rfl | exact .inr rfl | assumption) :
    Run X (.Assign [.Name y py] (.ListComp elt [⟨tg, iter, ifs, 0⟩] scope pos) spos :: rest) D σ H :=
  run_cons (ps_setC (g := fun v σ H Q => CEg X N' scope tg v σ H Q) (tc := fun σ H Q => CEi X N' scope ifs σ H Q) (te := fun σ H Q => CEv X N' scope elt σ H Q) sc N N' n hnd hiN hy hi
    (fun cl C s₀ H₀ ex pins s σ H v u Q I r h => (h cl C s₀ H₀ ex).run pins s u I r) (fun cl C s₀ H₀ ex pins s σ H Q I h => (h cl C s₀ H₀ ex).run pins s I) (fun cl C s₀ H₀ ex pins s σ H Q I h => (h cl C s₀ H₀ ex).run pins s I) hsw hc hsc hN hk hl hs hf) h
end
end L2
namespace SetT
open PySem PySem.Spec PyProof.Rows
theorem lt_dec (a b : List Nat) : ltCps a b = decide (a < b) := ltCps_eq a b
theorem rising_all : ∀ (l : List Str) (p : Str), risingS p l = true → ∀ x ∈ l, p.cps.toList ≤ x.cps.toList
  | [], _, _, x, hx => by cases hx
  | y :: r, p, h, x, hx => by
    unfold risingS at h
    rw [Bool.and_eq_true, Bool.not_eq_true', lt_dec, decide_eq_false_iff_not] at h
    have h1 : p.cps.toList ≤ y.cps.toList := h.1
    rcases List.mem_cons.mp hx with rfl | hx
    · exact h1
    · exact List.le_trans h1 (rising_all r y h.2 x hx)
theorem rising_sorted {p : Str} : ∀ {l : List Str}, risingS p l = true → sortedS l = true
  | [], _ => rfl
  | y :: r, h => by
    unfold risingS at h
    rw [Bool.and_eq_true] at h
    exact h.2
theorem str_ext {a b : Str} (h : a.cps.toList = b.cps.toList) : a = b := by
  cases a; cases b
  simp only at h
  have := Array.toList_inj.mp h
  rw [this]
section
variable {prog : Program} {w : World} {A : Around} {E : Value → Shared → Prop} {s : Shared} {a : Addr} {zs : List Str}
end
end SetT
namespace L2
open PySem PySem.Spec PyProof.Rows SetT
def SetO (prog : Program) (w : World) (a : Addr) (zs : List Str) : HO := .ext fun h => SetAt prog w h a zs
section
variable {X : Cx} {pins : List (Addr × Obj)} {σ : St} {H : Hp} {s s' : Shared} {a : Addr} {zs : List Str}
theorem Inv.like (I : Inv X pins σ H s) (e1 : s'.heap = s.heap) (e2 : s'.gens = s.gens) (e3 : s'.os = s.os) : Inv X pins σ H s' := by
  obtain ⟨h, g, d, t, o⟩ := s
  obtain ⟨h', g', d', t', o'⟩ := s'
  simp only at e1 e2 e3
  subst e1 e2 e3
  exact ⟨I.ok, I.os, I.bare, I.base, I.loc, I.cell, I.free, I.freeC, I.pin, I.hok, I.len⟩
theorem Inv.laid' {o : HO} (I : Inv X pins σ H s) (k : ∀ b u, s.heap.get? b = some u → s'.heap.get? b = some u) (e2 : s'.gens = s.gens) (e3 : s'.os = s.os) (hp : s.heap.objs.size ≤ a) (new : ObjOk X.prog X.w (upd H a o) s'.heap a o) : Inv X pins σ (upd H a o) s' :=
  (I.laid (t' := s.toks) k hp new).like (s' := s') rfl e2 e3
theorem Inv.set (I : Inv X pins σ H s) (h : H a = some (SetO X.prog X.w a zs)) : SetAt X.prog X.w s.heap a zs := (I.hok a _ h).1
theorem strs_of_vals : ∀ {zs : List Str} {us : List Value}, Vals (zs.map V.str) us → StrsAre us zs
  | [], _, .nil => .nil
  | z :: r, _, .cons q qs => by
    obtain ⟨t, rfl⟩ := q
    exact .cons z t (strs_of_vals qs)
theorem vals_of_strs : ∀ {us : List Value} {zs : List Str}, StrsAre us zs → Vals (zs.map V.str) us
  | _, _, .nil => .nil
  | _, _, .cons z t q => .cons ⟨t, rfl⟩ (vals_of_strs q)
theorem call_sorted_strs : CallR X (.builtin "sorted") (fun xs H Q => ∃ p zs, xs = [.ref p] ∧ SqL X.K H p (zs.map V.str) ∧ zs.length < 64 ∧ ∀ l ss, H l = none → ss.Perm zs → sortedS ss = true → Q (.ref l) (upd H l (.lst (ss.map V.str)))) := by
  intro pins s σ H xs us Q I r h
  obtain ⟨p, zs, rfl, hp, hl, q⟩ := h
  obtain ⟨u, rfl, ru⟩ := vals1 r
  cases (show u = Value.ref p from ru)
  obtain ⟨its, rv, pl, hz⟩ := I.list hp
  have e1 := rv.length
  rw [List.length_map] at e1
  refine PyProof.Rows.sorted_strs pl.isList (strs_of_vals rv) (by omega) fun out ss hS hpm hso => ?_
  obtain ⟨e, he⟩ := sortedAll_at s.heap its out
  have hlen : ss.length ≤ sizeLine := by rw [hpm.length_eq]; exact sz_ok (by omega)
  refine ⟨.ref _, _, I.laid' (s' := { s with heap := sortedAll s.heap its out }) (fun b u hb => sortedAll_old hb) rfl rfl (Nat.le_succ _) (show ObjOk X.prog X.w _ _ _ (.lst (ss.map V.str)) from ⟨by rw [List.length_map]; exact hlen, out.toList, e, vals_of_strs hS, he⟩), rfl, q _ ss (I.hok.fresh (Nat.le_succ _)) hpm hso⟩
end
end L2
namespace L2
open PySem PySem.Spec PyProof.Rows
section
variable {X : Cx} {o e : Expr} {σ : St} {H : Hp} {Q : VK} {ap cp : Pos}
theorem ev_append (h : Ev X o σ H fun x H1 => ∃ l, x = .ref l ∧ (∃ xs, H1 l = some (.lst xs)) ∧ Ev X e σ H1 fun y H2 => ∃ xs, H2 l = some (.lst xs) ∧ xs.length < sizeLine ∧ Q .non (upd H2 l (.lst (xs ++ [y]))))
    (hbase : attributeBase o "append" X.env (eval o X.env) = eval o X.env := by rfl)
    (hfew : ((backTo cp (starEach [e] X.env)).all (fun x => !x.1) && (backToKw cp (keywordEach [] X.env)).all (fun x => x.1.isSome) && decide ([e].length + ([] : List Keyword).length + (if ([] : List Keyword).isEmpty then 0 else 1) < 30)) = true := by rfl)
    (hline : (ap.endLine == cp.line) = true := by rfl) (hs : starEach [e] X.env = (false, eval e X.env) :: starEach [] X.env := by rfl) (hplain : (backTo cp (starEach [] X.env)).any (·.1) = false := by rfl) (hst : isStar e = false := by rfl) :
    Ev X (.Call (.Attribute o "append" ap) [e] [] cp) σ H Q := by
  refine ev_of (pe_bm PySem.F.plainAttrs_list PySem.F.slot_list_append PySem.F.type_list_append mt_append pe_ev (pa_ea (es := [e])) hbase hfew hline hs hplain) (h.mono fun x H1 ⟨l, ex, ⟨xs, hl⟩, h2⟩ => ?_)
  subst ex
  refine ⟨.inl ⟨rfl, xs, SqL.of hl⟩, ?_⟩
  exact ea_cons (h2.mono fun y H2 ⟨ys, hy, hz, q⟩ => ea_nil ⟨l, ys, y, rfl, rfl, hy, hz, q⟩) hst
end
section
variable {X : Cx} {c : Expr} {body els rest : List Stmt} {D : Ends} {σ : St} {H : Hp} {pos : Pos}
theorem Run.nx {M M' : St → Hp → Prop} {l : List Stmt} (h : Run X l { D with nx := M } σ H) (f : ∀ σ' H', M σ' H' → M' σ' H') : Run X l { D with nx := M' } σ H :=
  ⟨fun pins s I => thn (h.run pins s I) fun fl s' q => by
    cases fl with
    | next =>
      obtain ⟨σ', H', I', m⟩ := q
      exact ⟨σ', H', I', f σ' H' m⟩
    | _ => exact q⟩
theorem run_ifM (φ ψ : Prop) (M : St → Hp → Prop) (hc : ∀ T : Bool → Hp → Prop, (∀ k : Bool, (k = true → φ) → (k = false → ψ) → T k H) → Et X c σ H T) (ht : φ → Run X body { D with nx := M } σ H) (hu : ψ → Run X els { D with nx := M } σ H)
    (hr : ∀ σ' H', M σ' H' → Run X rest D σ' H') : Run X (.If c body els pos :: rest) D σ H :=
  run_ifJ φ ψ hc (fun p => (ht p).nx hr) (fun p => (hu p).nx hr)
end
def EqD (X : Cx) (H : Hp) (k : Nat) (x y : V) (b : Bool) : Prop := ∀ (pins : List (Addr × Obj)) (σ : St) (s : Shared) (A : Around) (u v : Value), Inv X pins σ H s → A.units + k < cLine → RelV x u → RelV y v → SeqAt.EqAt A s u v b
def RcD (X : Cx) (H : Hp) (k : Nat) (x y : V) (b : Bool) : Prop := ∀ (pins : List (Addr × Obj)) (σ : St) (s : Shared) (A : Around) (u v : Value), Inv X pins σ H s → A.units + k < cLine → RelV x u → RelV y v → SeqAt.RcAt A s u v b
def RnD (X : Cx) (H : Hp) (k : Nat) (x y : V) (b : Bool) : Prop := ∀ (pins : List (Addr × Obj)) (σ : St) (s : Shared) (A : Around) (u v : Value), Inv X pins σ H s → A.units + k < cLine → RelV x u → RelV y v → SeqAt.RcNeAt A s u v (!b)
section
variable {X : Cx} {H : Hp} {k : Nat} {a b : Addr} {xs ys : List V}
theorem eqD_flat {x y : V} (fx : flatV x = true) (fy : flatV y = true) : EqD X H k x y (eqV x y) := fun _ _ _ _ _ _ _ _ rx ry => eqAt_V rx ry fx fy
theorem vals_at {us : List Value} (r : Vals xs us) {j : Nat} (h : j < us.length) : ∃ x, xs[j]? = some x ∧ RelV x us[j] := by
  have hl := r.length
  have hj : j < xs.length := by omega
  obtain ⟨u, e, q⟩ := r.get (List.getElem?_eq_getElem hj)
  rw [List.getElem?_eq_getElem h] at e
  cases e
  exact ⟨_, List.getElem?_eq_getElem hj, q⟩
theorem rcD_list (e : Nat → Bool) (ha : SqL X.K H a xs) (hb : SqL X.K H b ys) (hl : xs.length = ys.length) (he : ∀ j x y, xs[j]? = some x → ys[j]? = some y → EqD X H k x y (e j)) : RcD X H (k + 1) (.ref a) (.ref b) ((List.range xs.length).all e) := fun pins σ s A u v I hu rx ry => by
  cases rx
  cases ry
  obtain ⟨i1, r1, p1, _⟩ := I.list ha
  obtain ⟨i2, r2, p2, _⟩ := I.list hb
  have l1 := r1.length
  have l2 := r2.length
  have q := SeqAt.RcAt.lists (A := A) (e := e) p1.isList p2.isList (by simp; omega) (by omega) fun j h1 h2 => by
    obtain ⟨x, ex, qx⟩ := vals_at r1 (j := j) (by simpa using h1)
    obtain ⟨y, ey, qy⟩ := vals_at r2 (j := j) (by simpa using h2)
    exact he j x y ex ey pins σ s A.in1 _ _ I (by show A.units + 1 + k < cLine; omega) (by simpa using qx) (by simpa using qy)
  rw [List.size_toArray, ← l1] at q
  exact q
theorem rnD_list (e : Nat → Bool) (ha : SqL X.K H a xs) (hb : SqL X.K H b ys) (hl : xs.length = ys.length) (he : ∀ j x y, xs[j]? = some x → ys[j]? = some y → EqD X H k x y (e j)) : RnD X H (k + 1) (.ref a) (.ref b) ((List.range xs.length).all e) := fun pins σ s A u v I hu rx ry => by
  cases rx
  cases ry
  obtain ⟨i1, r1, p1, _⟩ := I.list ha
  obtain ⟨i2, r2, p2, _⟩ := I.list hb
  have l1 := r1.length
  have l2 := r2.length
  have q := SeqAt.RcNeAt.lists (A := A) (e := e) p1.isList p2.isList (by simp; omega) (by omega) fun j h1 h2 => by
    obtain ⟨x, ex, qx⟩ := vals_at r1 (j := j) (by simpa using h1)
    obtain ⟨y, ey, qy⟩ := vals_at r2 (j := j) (by simpa using h2)
    exact he j x y ex ey pins σ s A.in1 _ _ I (by show A.units + 1 + k < cLine; omega) (by simpa using qx) (by simpa using qy)
  rw [List.size_toArray, ← l1] at q
  exact q
theorem rnD_lens (ha : SqL X.K H a xs) (hb : SqL X.K H b ys) (hl : xs.length ≠ ys.length) : RnD X H k (.ref a) (.ref b) false := fun pins σ s A u v I hu rx ry => by
  cases rx
  cases ry
  obtain ⟨i1, r1, p1, _⟩ := I.list ha
  obtain ⟨i2, r2, p2, _⟩ := I.list hb
  have l1 := r1.length
  have l2 := r2.length
  exact SeqAt.RcNeAt.lists_lengths p1.isList p2.isList (by simp; omega) (by omega)
theorem rcD_tup (e : Nat → Bool) (ha : SqT X.K H a xs) (hb : SqT X.K H b ys) (hl : xs.length = ys.length) (he : ∀ j x y, xs[j]? = some x → ys[j]? = some y → EqD X H k x y (e j)) : RcD X H (k + 1) (.ref a) (.ref b) ((List.range xs.length).all e) := fun pins σ s A u v I hu rx ry => by
  cases rx
  cases ry
  obtain ⟨i1, r1, p1, _⟩ := I.tuple ha
  obtain ⟨i2, r2, p2, _⟩ := I.tuple hb
  have l1 := r1.length
  have l2 := r2.length
  have q := SeqAt.RcAt.tuples (A := A) (e := e) p1 p2 (by omega) fun j h1 h2 => by
    obtain ⟨x, ex, qx⟩ := vals_at r1 (j := j) (by simpa using h1)
    obtain ⟨y, ey, qy⟩ := vals_at r2 (j := j) (by simpa using h2)
    exact he j x y ex ey pins σ s A.in1 _ _ I (by show A.units + 1 + k < cLine; omega) (by simpa using qx) (by simpa using qy)
  rw [List.size_toArray, List.size_toArray, ← l1, ← l2, hl, Nat.min_self, ← hl] at q
  simpa using q
theorem all_true (n : Nat) : (List.range n).all (fun _ => true) = true := by simp
theorem op_eqD (hu : X.A.units + 100 < cLine) : OpR X (compareOp .Eq) (fun x y H Q => ∃ k c, k ≤ 100 ∧ RcD X H k x y c ∧ Q (.bl c) H) := by
  intro pins s σ H x y v u Q I rx ry h
  obtain ⟨k, c, hk, hc, q⟩ := h
  exact hc pins σ s X.A v u I (by omega) rx ry X.prog X.w X.xe _ ⟨.bl c, H, I, rfl, q⟩
theorem op_neD (hu : X.A.units + 100 < cLine) : OpR X (compareOp .NotEq) (fun x y H Q => ∃ k c, k ≤ 100 ∧ RnD X H k x y c ∧ Q (.bl (!c)) H) := by
  intro pins s σ H x y v u Q I rx ry h
  obtain ⟨k, c, hk, hc, q⟩ := h
  exact hc pins σ s X.A v u I (by omega) rx ry X.prog X.w X.xe _ ⟨.bl (!c), H, I, rfl, q⟩
end
end L2
namespace L2
open PySem PySem.Spec PyProof.Rows
section
variable {X : Cx} {H : Hp} {k : Nat} {a b : Addr} {xs ys : List V}
theorem rnD_tup (e : Nat → Bool) (ha : SqT X.K H a xs) (hb : SqT X.K H b ys) (hl : xs.length = ys.length) (he : ∀ j x y, xs[j]? = some x → ys[j]? = some y → EqD X H k x y (e j)) : RnD X H (k + 1) (.ref a) (.ref b) ((List.range xs.length).all e) := fun pins σ s A u v I hu rx ry => by
  cases rx
  cases ry
  obtain ⟨i1, r1, p1, _⟩ := I.tuple ha
  obtain ⟨i2, r2, p2, _⟩ := I.tuple hb
  have l1 := r1.length
  have l2 := r2.length
  have q := SeqAt.RcNeAt.tuples (A := A) (e := e) p1 p2 (by omega) fun j h1 h2 => by
    obtain ⟨x, ex, qx⟩ := vals_at r1 (j := j) (by simpa using h1)
    obtain ⟨y, ey, qy⟩ := vals_at r2 (j := j) (by simpa using h2)
    exact he j x y ex ey pins σ s A.in1 _ _ I (by show A.units + 1 + k < cLine; omega) (by simpa using qx) (by simpa using qy)
  rw [List.size_toArray, List.size_toArray, ← l1, ← l2, hl, Nat.min_self, ← hl] at q
  simpa using q
end
section
variable {X : Cx} {o e f c : Expr} {σ : St} {H : Hp} {Q : VK} {T : Bool → Hp → Prop} {ap cp pos : Pos} {body rest : List Stmt} {D : Ends}
theorem ev_m0 {name : Str} {Ty id : String} {r : V → List V → Hp → VK → Prop} (pa : PlainAttrs Ty) (slot : Slot Ty name id) (hty : typeOf (.builtin id) = pure (.type "method_descriptor")) (hm : MtR X id r)
    (h : Ev X o σ H fun x H1 => tyV X.K Ty x H1 ∧ r x [] H1 Q) (hbase : attributeBase o name X.env (eval o X.env) = eval o X.env := by rfl) (hline : (ap.endLine == cp.line) = true := by rfl) : Ev X (.Call (.Attribute o name ap) [] [] cp) σ H Q :=
  ev_of (pe_bm0 pa slot hty hm pe_ev hbase hline) h
theorem ev_m1 {name : Str} {Ty id : String} {r : V → List V → Hp → VK → Prop} (pa : PlainAttrs Ty) (slot : Slot Ty name id) (hty : typeOf (.builtin id) = pure (.type "method_descriptor")) (hm : MtR X id r)
    (h : Ev X o σ H fun x H1 => tyV X.K Ty x H1 ∧ Ev X e σ H1 fun y H2 => r x [y] H2 Q) (hbase : attributeBase o name X.env (eval o X.env) = eval o X.env := by rfl)
    (hfew : ((backTo cp (starEach [e] X.env)).all (fun x => !x.1) && (backToKw cp (keywordEach [] X.env)).all (fun x => x.1.isSome) && decide ([e].length + ([] : List Keyword).length + (if ([] : List Keyword).isEmpty then 0 else 1) < 30)) = true := by rfl)
    (hline : (ap.endLine == cp.line) = true := by rfl) (hs : starEach [e] X.env = (false, eval e X.env) :: starEach [] X.env := by rfl) (hplain : (backTo cp (starEach [] X.env)).any (·.1) = false := by rfl) (hst : isStar e = false := by rfl) : Ev X (.Call (.Attribute o name ap) [e] [] cp) σ H Q :=
  ev_of (pe_bm pa slot hty hm pe_ev (pa_ea (es := [e])) hbase hfew hline hs hplain) (h.mono fun x H1 ⟨t, h2⟩ => ⟨t, ea_cons (h2.mono fun y H2 q => ea_nil q) hst⟩)
theorem ev_m2 {name : Str} {Ty id : String} {r : V → List V → Hp → VK → Prop} (pa : PlainAttrs Ty) (slot : Slot Ty name id) (hty : typeOf (.builtin id) = pure (.type "method_descriptor")) (hm : MtR X id r)
    (h : Ev X o σ H fun x H1 => tyV X.K Ty x H1 ∧ Ev X e σ H1 fun y H2 => Ev X f σ H2 fun z H3 => r x [y, z] H3 Q) (hbase : attributeBase o name X.env (eval o X.env) = eval o X.env := by rfl)
    (hfew : ((backTo cp (starEach [e, f] X.env)).all (fun x => !x.1) && (backToKw cp (keywordEach [] X.env)).all (fun x => x.1.isSome) && decide ([e, f].length + ([] : List Keyword).length + (if ([] : List Keyword).isEmpty then 0 else 1) < 30)) = true := by rfl)
    (hline : (ap.endLine == cp.line) = true := by rfl) (hs : starEach [e, f] X.env = (false, eval e X.env) :: starEach [f] X.env := by rfl) (hplain : (backTo cp (starEach [f] X.env)).any (·.1) = false := by rfl) (hst : isStar e = false := by rfl) (hsf : isStar f = false := by rfl) : Ev X (.Call (.Attribute o name ap) [e, f] [] cp) σ H Q :=
  ev_of (pe_bm pa slot hty hm pe_ev (pa_ea (es := [e, f])) hbase hfew hline hs hplain) (h.mono fun x H1 ⟨t, h2⟩ => ⟨t, ea_cons (h2.mono fun y H2 h3 => ea_cons (h3.mono fun z H3 q => ea_nil q) hsf) hst⟩)
def insertAt (xs : List V) (i : Nat) (y : V) : List V := xs.take i ++ y :: xs.drop i
def rInsert : V → List V → Hp → VK → Prop := fun x vs H Q => ∃ l xs i y, x = .ref l ∧ vs = [.int i, y] ∧ H l = some (.lst xs) ∧ 0 ≤ i ∧ i.toNat ≤ xs.length ∧ xs.length < sizeLine ∧ Q .non (upd H l (.lst (insertAt xs i.toNat y)))
theorem fits_ix {i : Int} (h0 : 0 ≤ i) (h : i ≤ 16777216) : ¬ (!Builtin.List.listFitsIndex i) = true := by
  have e : Builtin.List.listFitsIndex i = true := by
    unfold Builtin.List.listFitsIndex
    rw [Bool.and_eq_true, decide_eq_true_eq, decide_eq_true_eq]
    omega
  rw [e]
  exact Bool.false_ne_true
theorem mt_insert : MtM X "list.insert" rInsert := by
  intro pins s σ H x vs v us Q I rx rv h
  obtain ⟨l, xs, i, y, rfl, rfl, hH, h0, hi, hz, q⟩ := h
  cases rx
  obtain ⟨u, w', rfl, ru, rw'⟩ := rv.two
  obtain ⟨tk, rfl⟩ := ru
  obtain ⟨z, its, n, r, hl, e⟩ := I.lstM hH
  have hs : sizeLine = 16777216 := sizeLine_eq
  have z2 : its.toArray.size ≤ sizeLine := by rw [List.size_toArray, ← hl]; exact z
  have mm := AutoSeq1.list_insert_list_int_val_1 l its.toArray n i tk w' (fits_ix h0 (by omega)) z2
  refine call_meets F.slot_list_insert ⟨_, e, rfl⟩ F.entry_list_insert (F.args_list_insert_3 _ _ _) mm ⟨e, ?_⟩
  have ef : (fun xs : Array Value => have k := if i < 0 then (i + (xs.size : Int)).toNat else min i.toNat xs.size; (xs.extract 0 k).push w' ++ xs.extract k) its.toArray = (its.take i.toNat ++ w' :: its.drop i.toNat).toArray := by
    have hn : ¬ i < 0 := by omega
    have hm : min i.toNat its.length = i.toNat := by omega
    simp only [hn, if_false, List.size_toArray, hm]
    apply Array.ext'
    simp
    exact List.take_of_length_le (by simp)
  refine ⟨.non, _, I.lset (its' := its.take i.toNat ++ w' :: its.drop i.toNat) hH e ef ((r.take i.toNat).append (.cons rw' (r.drop i.toNat))) ?_, rfl, q⟩
  rw [List.length_append, List.length_cons, List.length_take, List.length_drop]
  omega
def rSetDef : V → List V → Hp → VK → Prop := fun x vs H Q => ∃ a kvs k y, x = .ref a ∧ vs = [kV k, y] ∧ H a = some (.dK kvs) ∧ kvs.length < sizeLine ∧
  ((∃ v, valV kvs k = some v ∧ Q v H) ∨ (valV kvs k = none ∧ Q y (upd H a (.dK (putK kvs k y)))))
theorem mt_setdef : MtM X "dict.setdefault" rSetDef := by
  intro pins s σ H x vs v us Q I rx rv h
  obtain ⟨a, kvs, k, y, rfl, rfl, hH, hz, q⟩ := h
  cases rx
  obtain ⟨u, w', rfl, ru, rw'⟩ := rv.two
  obtain ⟨z, hd, rs, rel, dd⟩ := dk_of I.hok hH
  have hl := rel.length
  refine call_meetsIn F.slot_dict_setdefault dd.typeIs F.entry_dict_setdefault (F.args_dict_setdefault_3 _ _ _) (kt_meets_setdefault (mixKind X.prog X.w) a (kV_is ru) hd w') ⟨rs, dd, by omega, fun v hv => ?_, fun hn h' dd' hs => ?_⟩
  · have rv2 := rel.val k
    rw [hv] at rv2
    rcases q with ⟨v', e', q⟩ | ⟨e', _⟩
    · rw [e'] at rv2
      exact ⟨v', H, I.tok _, rv2, q⟩
    · rw [e'] at rv2
      exact rv2.elim
  · have rv2 := rel.val k
    rw [hn] at rv2
    rcases q with ⟨v', e', _⟩ | ⟨e', q⟩
    · rw [e'] at rv2
      exact rv2.elim
    · have he : ∃ q, h'.get? a = some q := let ⟨q, _, _, hq, _⟩ := dd'; ⟨q, hq⟩
      have hl2 : (putK kvs k y).length ≤ sizeLine := by have := length_putK kvs k y; omega
      exact ⟨y, _, d_write I (by rw [hH]; exact True.intro) hs he (dk_new hl2 hd (rel.put k rw') dd'), rw', q⟩
theorem call_intB : CallR X (.type "int") (fun xs H Q => ∃ b : Bool, xs = [.bl b] ∧ Q (.int (if b then 1 else 0)) H) := by
  intro pins s σ H xs us Q I r h
  obtain ⟨b, rfl, q⟩ := h
  obtain ⟨u, rfl, ru⟩ := vals1 r
  cases (show u = Value.bool b from ru)
  exact call_int_bool ⟨.int (if b then 1 else 0), H, I.tok _, ⟨_, rfl⟩, q⟩
theorem run_ifH {els : List Stmt} (Φ : Bool → Hp → Prop) (M : St → Hp → Prop) (hc : Et X c σ H Φ) (ht : ∀ H1, Φ true H1 → Run X body { D with nx := M } σ H1) (hu : ∀ H1, Φ false H1 → Run X els { D with nx := M } σ H1)
    (hr : ∀ σ' H', M σ' H' → Run X rest D σ' H') : Run X (.If c body els pos :: rest) D σ H :=
  run_if (hc.mono fun k H1 p => by
    cases k with
    | true => rw [if_pos rfl]; exact (ht H1 p).nx hr
    | false => rw [if_neg Bool.false_ne_true]; exact (hu H1 p).nx hr)
theorem run_while (W : Nat → St → Hp → Prop) {m0 : Nat} (h0 : W m0 σ H)
    (turn : ∀ m σ H, W m σ H → Et X c σ H fun b H1 => if b = true then Run X body { D with nx := fun σ' H' => ∃ m', m' < m ∧ W m' σ' H', ct := fun σ' H' => ∃ m', m' < m ∧ W m' σ' H', bk := fun σ' H' => Run X rest D σ' H' } σ H1 else Run X rest D σ H1)
    (hp : PassesOwn (model X.prog X.w) X.A X.env X.xe := by exact PassesOwn.never) : Run X (.While c body [] pos :: rest) D σ H := by
  refine run_cons (ps_while hp pt_et pss_run) ⟨W, ⟨m0, h0⟩, fun m σ1 H1 w1 => (turn m σ1 H1 w1).mono fun b H2 q => ?_⟩
  cases b with
  | true =>
    rw [if_pos rfl] at q
    exact ⟨fun σ' H' => ∃ m', m' < m ∧ W m' σ' H', fun _ _ h => h, q⟩
  | false =>
    rw [if_neg Bool.false_ne_true] at q
    exact q
theorem ev_dnewK (h : ∀ p, H p = none → Q (.ref p) (upd H p (.dK []))) : Ev X (.Dict [] [] pos) σ H Q := ev_of pe_dnewK h
theorem ev_dnewT (h : ∀ p, H p = none → Q (.ref p) (upd H p (.dT []))) : Ev X (.Dict [] [] pos) σ H Q := ev_of pe_dnewT h
theorem ev_dget (hu : X.A.units + 1 < cLine) (h : Ev X o σ H fun x H1 => Ev X e σ H1 fun y H2 => ∃ a v, x = .ref a ∧ DGet H2 a y (some v) ∧ Q v H2) (hs : NoSl e := by intro _ _; rfl) : Ev X (.Subscript o e pos) σ H Q := ev_of (pe_dget hu pe_ev pe_ev hs) h
theorem et_din (hu : X.A.units + 1 < cLine) (h : Ev X e σ H fun y H1 => Ev X o σ H1 fun x H2 => ∃ a r, x = .ref a ∧ DGet H2 a y r ∧ T r.isSome H2) (hm : behindInMarks .In o = false := by with_unfolding_all rfl) : Et X (.Compare e [.In] [o] pos) σ H T :=
  et_of (pt_cmp (pc_din hu pe_ev pe_ev) hm) (h.mono fun y H1 h2 => h2.mono fun x H2 ⟨a, r, h3, h4, h5⟩ => ⟨a, r, h3, h4, _, rfl, h5⟩)
theorem et_dnotin (hu : X.A.units + 1 < cLine) (h : Ev X e σ H fun y H1 => Ev X o σ H1 fun x H2 => ∃ a r, x = .ref a ∧ DGet H2 a y r ∧ T (!r.isSome) H2) (hm : behindInMarks .NotIn o = false := by with_unfolding_all rfl) : Et X (.Compare e [.NotIn] [o] pos) σ H T :=
  et_of (pt_cmp (pc_dnotin hu pe_ev pe_ev) hm) (h.mono fun y H1 h2 => h2.mono fun x H2 ⟨a, r, h3, h4, h5⟩ => ⟨a, r, h3, h4, _, rfl, h5⟩)
theorem run_dput {p2 : Pos} (hu : X.A.units + 1 < cLine) (h : Ev X f σ H fun v H1 => Ev X o σ H1 fun x H2 => Ev X e σ H2 fun y H3 => ∃ a H4, x = .ref a ∧ DPut H3 a y v H4 ∧ Run X rest D σ H4) (hs : swapsWith f (some (.Subscript o e p2)) pos.line X.env = pure false := by rfl) :
    Run X (.Assign [.Subscript o e p2] f pos :: rest) D σ H := run_cons (ps_dput hu pe_ev pe_ev pe_ev hs) h
end
end L2
namespace Sort2
open PySem PySem.Spec PyProof.Rows
def lexLt (a b : Int × Int) : Bool := if a.1 = b.1 then decide (a.2 < b.2) else decide (a.1 < b.1)
theorem keyLt_tuples (b : Bool) (x y : Value) : keyLt' (tuples' b) x y = (do
    let xs ← Builtin.List.listItems x
    let ys ← Builtin.List.listItems y
    for ((p, q), i) in (xs.toList.zip ys.toList).zipIdx do
      if !(← eqBool p q) then return ← oneLt' (b && i == 0) p q
    return xs.size < ys.size) := rfl
section
variable {prog : Program} {w : World} {A : Around} {E : Value → Shared → Prop} {s : Shared}
def Pr (h : Heap) (a : Addr) (p : Int × Int) : Prop := ∃ o n t u, h.get? a = some o ∧ o.cls = .type "tuple" ∧ o.data = .seq #[.int p.1 t, .int p.2 u] n
theorem wp_eqInt {a b : Int} {t u : Tok} {Q : Bool → Shared → Prop} (h : Q (decide (a = b)) s) : wpAny (model prog w) A (eqBool (.int a t) (.int b u)) Q E s := by
  refine SeqAt.EqAt.int_int a t b u prog w E Q ?_
  have e : (a == b) = decide (a = b) := rfl
  rw [e]
  exact h
theorem wp_lt0 {a b : Int} {t u : Tok} {Q : Bool → Shared → Prop} (h : Q (decide (a < b)) s) : wpAny (model prog w) A (oneLt' false (.int a t) (.int b u)) Q E s := by
  rw [oneLt'_eq]
  simp only [Bool.false_eq_true, if_false]
  refine wpAny_bind ?_
  show wpAny _ _ (compareOp .Lt (.int a t) (.int b u)) _ _ _
  exact lt_int (wpAny_truthy_bool h)
theorem wp_keyLt {x y : Addr} {p q : Int × Int} {Q : Bool → Shared → Prop} (hx : Pr s.heap x p) (hy : Pr s.heap y q) (h : Q (lexLt p q) s) : wpAny (model prog w) A (keyLt' (tuples' true) (.ref x) (.ref y)) Q E s := by
  obtain ⟨ox, nx, tx, ux, hox, cx, dx⟩ := hx
  obtain ⟨oy, ny, ty, uy, hoy, cy, dy⟩ := hy
  rw [keyLt_tuples]
  refine wpAny_bind (listItems_at hox dx ?_)
  refine wpAny_bind (listItems_at hoy dy ?_)
  show wpAny _ _ (forIn [((Value.int p.1 tx, Value.int q.1 ty), 0), ((Value.int p.2 ux, Value.int q.2 uy), 1)] _ _ >>= _) _ _ _
  rw [List.forIn_cons]
  refine wpAny_bind (wpAny_bind ?_)
  dsimp only
  refine wpAny_bind (wp_eqInt ?_)
  by_cases c : p.1 = q.1
  · rw [decide_eq_true c]
    simp only [Bool.not_true, Bool.false_eq_true, if_false]
    refine wpAny_pure ?_
    dsimp only
    rw [List.forIn_cons]
    refine wpAny_bind ?_
    dsimp only
    refine wpAny_bind (wp_eqInt ?_)
    by_cases c2 : p.2 = q.2
    · rw [decide_eq_true c2]
      simp only [Bool.not_true, Bool.false_eq_true, if_false]
      refine wpAny_pure ?_
      dsimp only
      rw [List.forIn_nil]
      refine wpAny_pure (wpAny_pure ?_)
      have e : lexLt p q = false := by unfold lexLt; rw [if_pos c, c2]; simp
      rw [e] at h
      simpa using h
    · rw [decide_eq_false c2]
      simp only [Bool.not_false, if_true]
      refine wpAny_bind (wp_lt0 (wpAny_pure ?_))
      dsimp only
      refine wpAny_pure (wpAny_pure ?_)
      have e : lexLt p q = decide (p.2 < q.2) := by unfold lexLt; rw [if_pos c]
      rw [e] at h
      exact h
  · rw [decide_eq_false c]
    simp only [Bool.not_false, if_true]
    refine wpAny_bind (oneLt_int (wpAny_pure ?_))
    dsimp only
    refine wpAny_pure (wpAny_pure ?_)
    have e : lexLt p q = decide (p.1 < q.1) := by unfold lexLt; rw [if_neg c]
    rw [e] at h
    exact h
theorem sz2 {x y : Value} : (#[x, y] : Array Value).size ≤ sizeLine + 1 := by
  rw [sizeLine_eq]
  show 2 ≤ _
  decide
theorem first_eq (v : Value) : firstOfTuple' v = (do
    if (← typeOf v) != .type "tuple" then return none
    return (← Builtin.List.listItems v)[0]?) := rfl
theorem wp_first {x : Addr} {p : Int × Int} {Q : Option Value → Shared → Prop} (hx : Pr s.heap x p) (h : ∀ t, Q (some (.int p.1 t)) s) : wpAny (model prog w) A (firstOfTuple' (.ref x)) Q E s := by
  obtain ⟨ox, nx, tx, ux, hox, cx, dx⟩ := hx
  rw [first_eq]
  refine wpAny_bind (wpAny_typeOf (T := "tuple") ⟨ox, hox, cx⟩ ?_)
  rw [show (Value.type "tuple" != Value.type "tuple") = false by decide]
  simp only [Bool.false_eq_true, if_false]
  refine wpAny_bind (listItems_at hox dx ?_)
  exact wpAny_pure (h tx)
theorem wp_kind {x y : Addr} {p q : Int × Int} {Q : SortKind → Shared → Prop} (hx : Pr s.heap x p) (hy : Pr s.heap y q) (h : Q (tuples' true) s) : wpAny (model prog w) A (keyKind' #[.ref x, .ref y]) Q E s := by
  rw [keyKind'_eq, show (#[.ref x, .ref y] : Array Value) = [.ref x, .ref y].toArray from rfl, List.mapM_toArray]
  refine wpAny_bind (wpAny_map ?_)
  rw [List.mapM_cons]
  refine wpAny_bind (wp_first hx fun t => ?_)
  rw [List.mapM_cons]
  refine wpAny_bind (wpAny_bind (wp_first hy fun u => ?_))
  rw [List.mapM_nil]
  refine wpAny_bind (wpAny_pure (wpAny_pure (wpAny_pure ?_)))
  rw [if_pos (by simp)]
  refine wpAny_bind (wpAny_rule ?_)
  rw [oneTypeOnly'_eq]
  show wpAny _ _ ((Array.mapM typeOf [Value.int p.1 t, Value.int q.1 u].toArray >>= _) >>= _) _ _ _
  rw [List.mapM_toArray]
  have e1 : [Value.int p.1 t, Value.int q.1 u].mapM typeOf = (pure [Value.type "int", Value.type "int"] : Sem _) := rfl
  rw [e1]
  refine wpAny_pure ?_
  have e2 : (if ((#[Value.type "int", Value.type "int"] : Array Value).all fun x => x == (#[Value.type "int", Value.type "int"] : Array Value)[0]) = true then some (#[Value.type "int", Value.type "int"] : Array Value)[0] else none) = some (Value.type "int") := by
    rw [if_pos]
    · rfl
    · simp
  show Q (tuples' (Option.any (fun x => x != Value.type "tuple") _)) s
  rw [e2]
  exact h
theorem wp_at {st : SortSt} {x y : Addr} {p q : Int × Int} {i j : Nat} {Q : Option Bool → SortSt → Prop} (hk : kindOf st = tuples' true) (hi : (arrOf st)[i]? = some (.ref x, .ref x)) (hj : (arrOf st)[j]? = some (.ref y, .ref y)) (hx : Pr s.heap x p) (hy : Pr s.heap y q) (h : Q (some (lexLt p q)) st) :
    wpS (model prog w) A E s (ltAt' i j) Q st := by
  rw [ltAt'_eq]
  refine wpS_bind (wpS_get ?_)
  show wpS _ _ _ _ (elem' (arrOf st) i >>= fun a => elem' (arrOf st) j >>= fun b => lt' a b) Q st
  rw [elem'_eq, elem'_eq, hi, hj]
  refine wpS_bind (wpS_pure (wpS_bind (wpS_pure ?_)))
  rw [lt'_eq]
  refine wpS_bind (wpS_get ?_)
  rw [hk]
  refine wpS_bind (wpS_lift (wpAny_attempt (wp_keyLt hx hy ⟨rfl, ?_⟩)))
  exact wpS_pure h
def sorted2 (x y : Addr) (p q : Int × Int) : Array Keyed := if lexLt q p then #[(.ref y, .ref y), (.ref x, .ref x)] else #[(.ref x, .ref x), (.ref y, .ref y)]
theorem wp_count {x y : Addr} {p q : Int × Int} {Q : Option Nat → SortSt → Prop} (hx : Pr s.heap x p) (hy : Pr s.heap y q)
    (h : Q (some 2) (SortSt.mk' (tuples' true) (sorted2 x y p q) #[] 7 none)) : wpS (model prog w) A E s (countRun' 0 2) Q (SortSt.mk' (tuples' true) #[(.ref x, .ref x), (.ref y, .ref y)] #[] 7 none) := by
  rw [countRun0_eq]
  refine wpS_bind ?_
  unfold ascLoop
  refine wpS_mono (wpS_forRange (I := fun i c st => st = SortSt.mk' (tuples' true) #[(.ref x, .ref x), (.ref y, .ref y)] #[] 7 none ∧ c = (none, i) ∧ (i = 2 → lexLt q p = false))
    (Q := fun c st => st = SortSt.mk' (tuples' true) #[(.ref x, .ref x), (.ref y, .ref y)] #[] 7 none ∧ ((c = (none, 1) ∧ lexLt q p = true) ∨ (c = (none, 2) ∧ lexLt q p = false))) ?_ ?_ ⟨rfl, rfl, fun h => by cases h⟩) ?_
  · rintro i c st h1 h2 ⟨rfl, rfl, hI⟩
    have e : i = 1 := by omega
    subst e
    refine wpS_bind (wp_at rfl rfl rfl hy hx ?_)
    dsimp only
    cases hb : lexLt q p with
    | true =>
      rw [if_pos rfl]
      exact wpS_pure ⟨rfl, .inl ⟨rfl, rfl⟩⟩
    | false =>
      rw [if_neg Bool.false_ne_true]
      exact wpS_pure ⟨rfl, rfl, fun _ => rfl⟩
  · rintro c st ⟨rfl, rfl, hI⟩
    exact ⟨rfl, .inr ⟨rfl, hI rfl⟩⟩
  · rintro c st ⟨rfl, ⟨rfl, hb⟩ | ⟨rfl, hb⟩⟩
    · dsimp only
      rw [if_neg (by decide), if_neg (by decide)]
      unfold descPart
      refine wpS_bind (wpS_lift (wpAny_rule ⟨rfl, ?_⟩))
      unfold descLoop
      refine wpS_bind (wpS_mono (wpS_forRange (I := fun i c st => c = (none, 2, 0) ∧ st = SortSt.mk' (tuples' true) #[(.ref x, .ref x), (.ref y, .ref y)] #[] 7 none) (Q := fun c st => c = (none, 2, 0) ∧ st = SortSt.mk' (tuples' true) #[(.ref x, .ref x), (.ref y, .ref y)] #[] 7 none) (fun i c st h1 h2 _ => by omega) (fun c st h => h) ⟨rfl, rfl⟩) ?_)
      rintro c st ⟨rfl, rfl⟩
      dsimp only
      rw [if_neg (by decide)]
      unfold tail3
      refine wpS_bind (wpS_reverse ?_)
      unfold ascLoop
      refine wpS_bind (wpS_mono (wpS_forRange (I := fun i c st => c = (none, 2) ∧ st = SortSt.mk' (tuples' true) #[(.ref y, .ref y), (.ref x, .ref x)] #[] 7 none) (Q := fun c st => c = (none, 2) ∧ st = SortSt.mk' (tuples' true) #[(.ref y, .ref y), (.ref x, .ref x)] #[] 7 none) (fun i c st h1 h2 _ => by omega) (fun c st h => h) ⟨rfl, rfl⟩) ?_)
      rintro c st ⟨rfl, rfl⟩
      dsimp only
      refine wpS_pure ?_
      unfold sorted2 at h
      rw [if_pos hb] at h
      exact h
    · dsimp only
      rw [if_pos (by decide)]
      refine wpS_pure ?_
      unfold sorted2 at h
      rw [if_neg (by rw [hb]; exact Bool.false_ne_true)] at h
      exact h
theorem wp_runs {x y : Addr} {p q : Int × Int} {Q : Unit → SortSt → Prop} (hx : Pr s.heap x p) (hy : Pr s.heap y q) (h : ∀ st, arrOf st = sorted2 x y p q → failedOf st = none → Q () st) :
    wpS (model prog w) A E s sortRuns' Q (SortSt.mk' (tuples' true) #[(.ref x, .ref x), (.ref y, .ref y)] #[] 7 none) := by
  rw [sortRuns'_eq]
  refine wpS_bind (wpS_get ?_)
  dsimp only
  have hmr : minRun' 2 2 0 = 2 := by rw [minRun'_succ, if_pos (by decide)]
  show wpS _ _ _ _ ((forIn [0:2] _ _) >>= _) _ _
  have sz : (#[(Value.ref x, Value.ref x), (Value.ref y, Value.ref y)] : Array Keyed).size = 2 := rfl
  refine wpS_bind (wpS_mono (wpS_forRange (I := fun i c st => (i = 0 ∧ c = (none, 0) ∧ st = SortSt.mk' (tuples' true) #[(.ref x, .ref x), (.ref y, .ref y)] #[] 7 none) ∨ (1 ≤ i ∧ c = (none, 2) ∧ st = SortSt.mk' (tuples' true) (sorted2 x y p q) #[(0, 2, 0)] 7 none))
    (Q := fun c st => c = (none, 2) ∧ st = SortSt.mk' (tuples' true) (sorted2 x y p q) #[(0, 2, 0)] 7 none) ?_ ?_ (.inl ⟨rfl, rfl, rfl⟩)) ?_)
  · rintro i c st h1 h2 (⟨rfl, rfl, rfl⟩ | ⟨hi, rfl, rfl⟩)
    · dsimp only
      rw [if_neg (by show ¬ (0 ≥ 2); decide)]
      refine wpS_bind ?_
      show wpS _ _ _ _ (countRun' 0 2) _ _
      refine wp_count hx hy ?_
      dsimp only
      rw [if_neg (by show ¬ (2 < minRun' 2 2 0); rw [hmr]; decide)]
      refine wpS_bind (wpS_get ?_)
      show wpS _ _ _ _ (modify _ >>= _) _ _
      exact wpS_bind (wpS_modify (wpS_pure (.inr ⟨Nat.le_refl _, rfl, rfl⟩)))
    · dsimp only
      rw [if_pos (by show 2 ≥ 2; decide)]
      exact wpS_pure ⟨rfl, rfl⟩
  · rintro c st (⟨h1, _, _⟩ | ⟨_, hc, hs⟩)
    · exact absurd h1 (by decide)
    · exact ⟨hc, hs⟩
  · rintro c st ⟨rfl, rfl⟩
    dsimp only
    refine wpS_bind (wpS_mono (wpS_forRange (I := fun _ c st => st = SortSt.mk' (tuples' true) (sorted2 x y p q) #[(0, 2, 0)] 7 none ∧ c = (none, ())) (Q := fun c st => st = SortSt.mk' (tuples' true) (sorted2 x y p q) #[(0, 2, 0)] 7 none ∧ c = (none, ())) ?_ (fun _ _ hh => hh) ⟨rfl, rfl⟩) ?_)
    · rintro i c st _ _ ⟨rfl, rfl⟩
      refine wpS_bind (wpS_get ?_)
      rw [if_pos (by show 1 ≤ 1; decide)]
      exact wpS_pure ⟨rfl, rfl⟩
    · rintro c st ⟨rfl, rfl⟩
      exact wpS_pure (h _ rfl rfl)
theorem wp_sort2 {a x y : Addr} {p q : Int × Int} {n : Nat} {P : Fin → Shared → Prop} (ho : s.heap.get? a = some (seqObj "list" #[.ref x, .ref y] n)) (hax : a ≠ x) (hay : a ≠ y) (hx : Pr s.heap x p) (hy : Pr s.heap y q)
    (h : P (.done (.ret .none)) { s with heap := sortedHeap s.heap a [.ref x, .ref y] (if lexLt p q then #[.ref y, .ref x] else #[.ref x, .ref y]) }) :
    wpAny (model prog w) A (Builtin.«list.sort» ⟨[.ref a], [(Str.ofString "reverse", .bool true)]⟩) P E s := by
  rw [list_sort_rev]
  have ha : a < s.heap.objs.size := Heap.lt_size ho
  refine wpAny_bind (listItems_at ho rfl ?_)
  refine wpAny_bind (listUpdate_at ho rfl ?_)
  obtain ⟨e1, ho1⟩ : ∃ e1, (s.heap.update a (Obj.mapSeq fun _ => #[])).get? a = some (seqObj "list" #[] e1) := ⟨_, get?_update_seq ho (fun _ => #[])⟩
  refine wpAny_bind (seqEpoch_at ho1 rfl ?_)
  refine wpAny_bind (wpAny_newTuple ?_)
  refine wpAny_bind (wpAny_newList ?_)
  refine wpAny_holding ?_
  have ho6 : (((s.heap.update a (Obj.mapSeq fun _ => #[])).push (seqObj "tuple" [Value.ref x, Value.ref y].toArray 0)).push (seqObj "list" #[] 0)).get? a = some (seqObj "list" #[] e1) :=
    Heap.get?_push_of_some _ (Heap.get?_push_of_some _ ho1)
  show wpAny (model prog w) A _ P E { s with heap := ((s.heap.update a (Obj.mapSeq fun _ => #[])).push (seqObj "tuple" [Value.ref x, Value.ref y].toArray 0)).push (seqObj "list" #[] 0) }
  have keep : ∀ z r, a ≠ z → Pr s.heap z r → Pr (((s.heap.update a (Obj.mapSeq fun _ => #[])).push (seqObj "tuple" [Value.ref x, Value.ref y].toArray 0)).push (seqObj "list" #[] 0)) z r := by
    rintro z r hz ⟨o, m, t, u, q1, q2⟩
    exact ⟨o, m, t, u, Heap.get?_push_of_some _ (Heap.get?_push_of_some _ ((Heap.get?_update_other _ _ hz).trans q1)), q2⟩
  have kx := keep x p hax hx
  have ky := keep y q hay hy
  dsimp only
  rw [if_pos rfl]
  refine wpAny_bind (wpAny_rule ?_)
  rw [if_neg (by show ¬ (2 < 2); decide)]
  refine wpAny_bind (wp_kind kx ky ?_)
  rw [if_neg (by show ¬ (2 < 2); decide)]
  have e2 : (if true = true then ((#[Value.ref x, Value.ref y] : Array Value).zip #[Value.ref x, Value.ref y]).reverse else (#[Value.ref x, Value.ref y] : Array Value).zip #[Value.ref x, Value.ref y]) = #[(Value.ref y, Value.ref y), (Value.ref x, Value.ref x)] := by
    rw [if_pos rfl]
    simp
  rw [e2]
  refine wpAny_bind (wpAny_mono (wp_runs (Q := fun _ st => arrOf st = sorted2 y x q p ∧ failedOf st = none) ky kx fun st h1 h2 => ⟨h1, h2⟩) ?_ fun _ _ e => e)
  rintro ⟨⟨⟩, st'⟩ s' ⟨rfl, hs, hf⟩
  dsimp only
  have e3 : (if true = true then ((arrOf st').map (·.2)).reverse else (arrOf st').map (·.2)) = (if lexLt p q then #[.ref y, .ref x] else #[.ref x, .ref y]) := by
    rw [if_pos rfl, hs]
    unfold sorted2
    split <;> simp
  refine wpAny_bind (seqEpoch_at ho6 rfl ?_)
  refine wpAny_bind (listUpdate_at ho6 rfl ?_ (hsz2 := by rw [e3]; split <;> exact sz2))
  rw [hf]
  simp only [bne_self_eq_false, Bool.false_eq_true, if_false]
  refine wpAny_pure ?_
  have e4 : (fun _ : Array Value => if True then ((arrOf st').map (·.2)).reverse else (arrOf st').map (·.2)) = fun _ => (if lexLt p q then #[.ref y, .ref x] else #[.ref x, .ref y]) := by
    funext _
    rw [if_pos trivial]
    rw [if_pos rfl] at e3
    exact e3
  rw [e4]
  exact h
theorem sorted2_rev {l x y : Addr} {p q : Int × Int} {Q : Value → Shared → Prop} (hl : s.heap.IsList l #[.ref x, .ref y]) (hx : Pr s.heap x p) (hy : Pr s.heap y q)
    (h : ∀ (h' : Heap) (e : Nat), (∀ b u, s.heap.get? b = some u → h'.get? b = some u) → h'.get? (s.heap.objs.size + 1) = some (seqObj "list" (if lexLt p q then #[.ref y, .ref x] else #[.ref x, .ref y]) e) → Q (.ref (s.heap.objs.size + 1)) { s with heap := h' }) :
    wpAny (model prog w) A (call (.builtin "sorted") [.ref l] [(Str.ofString "reverse", .bool true)]) Q E s := by
  refine call_function_entry_kw kind_sorted plain_sorted entry_sorted (args_sorted_rev _ _) ?_
  unfold Builtin.«sorted»
  refine wpAny_bind (m := checkCount "sorted" 1 1 _) (wpAny_pure ?_)
  refine wpAny_bind (collect_list (vs := [.ref x, .ref y]) hl ?_)
  refine wpAny_bind (wpAny_newList ?_)
  have hsz : ((s.heap.push (seqObj "list" #[] 0)).update s.heap.objs.size (Obj.mapSeq (· ++ [Value.ref x, Value.ref y].toArray))).objs.size = s.heap.objs.size + 1 := by
    rw [Heap.size_update, size_push']
  have hoL : (((s.heap.push (seqObj "list" #[] 0)).update s.heap.objs.size (Obj.mapSeq (· ++ [Value.ref x, Value.ref y].toArray))).push (seqObj "list" [Value.ref x, Value.ref y].toArray 0)).get? (s.heap.objs.size + 1) = some (seqObj "list" [Value.ref x, Value.ref y].toArray 0) := by
    rw [← hsz]; exact Heap.get?_push_size _ rfl
  have lx : x < s.heap.objs.size := let ⟨_, _, _, _, e, _⟩ := hx; Heap.lt_size e
  have ly : y < s.heap.objs.size := let ⟨_, _, _, _, e, _⟩ := hy; Heap.lt_size e
  have keep : ∀ z r, Pr s.heap z r → Pr (((s.heap.push (seqObj "list" #[] 0)).update s.heap.objs.size (Obj.mapSeq (· ++ [Value.ref x, Value.ref y].toArray))).push (seqObj "list" [Value.ref x, Value.ref y].toArray 0)) z r := by
    rintro z r ⟨o, m, t, u, q1, q2⟩
    have hz := Heap.lt_size q1
    exact ⟨o, m, t, u, Heap.get?_push_of_some _ ((Heap.get?_update_other _ _ (Nat.ne_of_gt hz)).trans (Heap.get?_push_of_some _ q1)), q2⟩
  show wpAny _ _ _ _ _ { s with heap := ((s.heap.push (seqObj "list" #[] 0)).update s.heap.objs.size (Obj.mapSeq (· ++ [Value.ref x, Value.ref y].toArray))).push (seqObj "list" [Value.ref x, Value.ref y].toArray 0) }
  rw [hsz]
  refine wpAny_bind (wpAny_holding (wpAny_call_entry_kw slot_list_sort ⟨_, hoL, rfl⟩ entry_list_sort (wp_sort2 hoL (Nat.ne_of_gt (Nat.lt_succ_of_lt lx)) (Nat.ne_of_gt (Nat.lt_succ_of_lt ly)) (keep x p hx) (keep y q hy) ⟨_, rfl, ?_⟩) (args_list_sort_rev _ _)))
  obtain ⟨e, he⟩ := sortedAll_at s.heap [Value.ref x, Value.ref y] (if lexLt p q then #[.ref y, .ref x] else #[.ref x, .ref y])
  exact wpAny_pure ⟨_, rfl, h _ e (fun b u hb => sortedAll_old hb) he⟩
end
end Sort2
namespace L2
open PySem PySem.Spec PyProof.Rows Sort2
section
variable {X : Cx} {e : Expr} {σ : St} {H : Hp} {Q : VK} {pos p kp cp : Pos} {j : Nat}
theorem pr_of {pins : List (Addr × Obj)} {s : Shared} {a : Addr} {i j : Int} (I : Inv X pins σ H s) (h : H a = some (.tup [.int i, .int j])) : Pr s.heap a (i, j) := by
  obtain ⟨its, r, pl, _⟩ := I.tuple (SqT.of h)
  obtain ⟨u, v, rfl, ⟨t, rfl⟩, ⟨t', rfl⟩⟩ := vals2 r
  obtain ⟨o, ho, hc, n, hd⟩ := pl
  exact ⟨o, n, t, t', ho, hc, hd⟩
theorem ev_sorted2 (hm : X.mg "sorted" = none) (h : Ev X e σ H fun v H1 => ∃ l x y a b c d, v = .ref l ∧ H1 l = some (.lst [.ref x, .ref y]) ∧ H1 x = some (.tup [.int a, .int b]) ∧ H1 y = some (.tup [.int c, .int d]) ∧
      ∀ r, H1 r = none → Q (.ref r) (upd H1 r (.lst (if lexLt (a, b) (c, d) then [.ref y, .ref x] else [.ref x, .ref y])))) (hg : Gl X "sorted" := by rfl)
    (he : backTo pos (starEach [e] X.env) = (false, eval e X.env) :: backTo pos (starEach [] X.env) := by rfl) (hplain : (backTo pos (starEach [e] X.env)).any (·.1) = false := by rfl) (hst : isStar e = false := by rfl) :
    Ev X (.Call (.Name "sorted" p) [e] [⟨some "reverse", .Constant (.bool true) j cp, kp⟩] pos) σ H Q := by
  refine ⟨fun pins s I => ?_⟩
  refine wpAny_Call_Name_kw (ld_blt I hg hm PyProof.Rows.boot_sorted ?_)
  have hE : Ea X [e] σ H fun vs H1 => ∃ l x y a b c d, vs = [.ref l] ∧ H1 l = some (.lst [.ref x, .ref y]) ∧ H1 x = some (.tup [.int a, .int b]) ∧ H1 y = some (.tup [.int c, .int d]) ∧
      ∀ r, H1 r = none → Q (.ref r) (upd H1 r (.lst (if lexLt (a, b) (c, d) then [.ref y, .ref x] else [.ref x, .ref y]))) :=
    ea_cons (h.mono fun v H1 ⟨l, x, y, a, b, c, d, e1, r1⟩ => ea_nil ⟨l, x, y, a, b, c, d, by rw [e1], r1⟩) hst
  refine callWith_kw (thn (hE.run pos pins s I) fun us s1 ⟨vs, H1, I1, r1, l, x, y, a, b, c, d, ev, hl, hx, hy, q⟩ => ?_) he hplain
  subst ev
  obtain ⟨u, rfl, ru⟩ := vals1 r1
  cases (show u = Value.ref l from ru)
  refine kws_cons (wpAny_pure (kws_nil ?_))
  obtain ⟨its, r2, pl, _⟩ := I1.list (SqL.of hl)
  obtain ⟨u, v, rfl, ru, rv⟩ := vals2 r2
  cases (show u = Value.ref x from ru)
  cases (show v = Value.ref y from rv)
  refine sorted2_rev pl.isList (pr_of I1 hx) (pr_of I1 hy) fun h' e kp he => ?_
  refine ⟨.ref _, _, I1.laid' (s' := { s1 with heap := h' }) kp rfl rfl (Nat.le_succ _) (show ObjOk X.prog X.w _ h' _ (.lst (if lexLt (a, b) (c, d) then [.ref y, .ref x] else [.ref x, .ref y])) from ?_), rfl, q _ (I1.hok.fresh (Nat.le_succ _))⟩
  split at he
  · rename_i hb
    rw [if_pos hb]
    exact ⟨by show 2 ≤ sizeLine; rw [sizeLine_eq]; decide, [.ref y, .ref x], e, .cons rfl (.cons rfl .nil), he⟩
  · rename_i hb
    rw [if_neg hb]
    exact ⟨by show 2 ≤ sizeLine; rw [sizeLine_eq]; decide, [.ref x, .ref y], e, .cons rfl (.cons rfl .nil), he⟩
end
end L2
namespace Nt
open PySem
abbrev Net := List (Str × List Str)
abbrev End := Nat × Nat
def row (n : Net) (r : Nat) : List Str := ((n[r]?).map (·.2)).getD []
def tieAt (n : Net) (e : End) : Option Str := (row n e.1)[e.2]?
def rowSeats (r : Nat) (ts : List Str) (p : Nat) : List (Str × End) := (ts.zipIdx p).map fun x => (x.1, (r, x.2))
def seatsFrom (r : Nat) : Net → List (Str × End)
  | [] => []
  | a :: n => rowSeats r a.2 0 ++ seatsFrom (r + 1) n
def seats (n : Net) : List (Str × End) := seatsFrom 0 n
def ends (n : Net) : List End := (seats n).map (·.2)
def ties (n : Net) : List Str := n.flatMap (·.2)
def pos (n : Net) (z : Str) : List End := ((seats n).filter fun x => decide (x.1 = z)).map (·.2)
theorem mem_rowSeats {r : Nat} {ts : List Str} {p : Nat} {z : Str} {e : End} : (z, e) ∈ rowSeats r ts p ↔ e.1 = r ∧ p ≤ e.2 ∧ ts[e.2 - p]? = some z := by
  unfold rowSeats
  rw [List.mem_map]
  constructor
  · rintro ⟨⟨y, k⟩, hm, he⟩
    cases he
    have := List.mem_zipIdx_iff_le_and_getElem?_sub.mp hm
    exact ⟨rfl, this.1, this.2⟩
  · rintro ⟨h1, h2, h3⟩
    refine ⟨(z, e.2), List.mem_zipIdx_iff_le_and_getElem?_sub.mpr ⟨h2, h3⟩, ?_⟩
    rw [← h1]
theorem mem_seatsFrom : ∀ {n : Net} {k : Nat} {z : Str} {e : End}, (z, e) ∈ seatsFrom k n ↔ k ≤ e.1 ∧ (row n (e.1 - k))[e.2]? = some z
  | [], k, z, e => by
    constructor
    · intro h; cases h
    · rintro ⟨_, h⟩
      simp [row] at h
  | a :: n, k, z, e => by
    unfold seatsFrom
    rw [List.mem_append, mem_rowSeats, mem_seatsFrom]
    constructor
    · rintro (⟨h1, _, h3⟩ | ⟨h1, h2⟩)
      · refine ⟨by omega, ?_⟩
        rw [show e.1 - k = 0 by omega]
        simpa [row] using h3
      · refine ⟨by omega, ?_⟩
        rw [show e.1 - k = (e.1 - (k + 1)) + 1 by omega]
        simpa [row] using h2
    · rintro ⟨h1, h2⟩
      rcases Nat.lt_or_ge k e.1 with h | h
      · refine .inr ⟨h, ?_⟩
        rw [show e.1 - k = (e.1 - (k + 1)) + 1 by omega] at h2
        simpa [row] using h2
      · refine .inl ⟨by omega, Nat.zero_le _, ?_⟩
        rw [show e.1 - k = 0 by omega] at h2
        simpa [row] using h2
theorem mem_seats {n : Net} {z : Str} {e : End} : (z, e) ∈ seats n ↔ tieAt n e = some z := by
  unfold seats tieAt
  rw [mem_seatsFrom]
  simp
theorem mem_ends {n : Net} {e : End} : e ∈ ends n ↔ ∃ z, tieAt n e = some z := by
  unfold ends
  rw [List.mem_map]
  constructor
  · rintro ⟨⟨z, e'⟩, h, rfl⟩
    exact ⟨z, mem_seats.mp h⟩
  · rintro ⟨z, h⟩
    exact ⟨(z, e), mem_seats.mpr h, rfl⟩
theorem mem_pos {n : Net} {z : Str} {e : End} : e ∈ pos n z ↔ tieAt n e = some z := by
  unfold pos
  rw [List.mem_map]
  constructor
  · rintro ⟨⟨y, e'⟩, h, rfl⟩
    rw [List.mem_filter, decide_eq_true_eq] at h
    obtain ⟨h1, h2⟩ := h
    subst h2
    exact mem_seats.mp h1
  · intro h
    exact ⟨(z, e), List.mem_filter.mpr ⟨mem_seats.mpr h, by simp⟩, rfl⟩
theorem seats_names_row (r : Nat) : ∀ (ts : List Str) (p : Nat), (rowSeats r ts p).map (·.1) = ts := by
  intro ts p
  unfold rowSeats
  rw [List.map_map]
  have : ((fun x : Str × End => x.1) ∘ fun x : Str × Nat => (x.1, (r, x.2))) = Prod.fst := rfl
  rw [this, List.zipIdx_map_fst]
theorem seats_names : ∀ (n : Net) (k : Nat), (seatsFrom k n).map (·.1) = ties n
  | [], _ => rfl
  | a :: n, k => by
    unfold seatsFrom ties
    rw [List.map_append, seats_names_row, seats_names n (k + 1), List.flatMap_cons]
    rfl
theorem rowSeats_nodup (r : Nat) (ts : List Str) (p : Nat) : ((rowSeats r ts p).map (·.2)).Nodup := by
  unfold rowSeats
  rw [List.map_map]
  have e : ((fun x : Str × End => x.2) ∘ fun x : Str × Nat => (x.1, (r, x.2))) = (fun k : Nat => (r, k)) ∘ Prod.snd := rfl
  rw [e, ← List.map_map, List.zipIdx_map_snd]
  refine List.Pairwise.map _ (R := (· ≠ ·)) ?_ List.nodup_range'
  intro a b h hab
  exact h (Prod.mk.inj hab).2
theorem ends_nodup_from : ∀ (n : Net) (k : Nat), ((seatsFrom k n).map (·.2)).Nodup
  | [], _ => List.nodup_nil
  | a :: n, k => by
    unfold seatsFrom
    rw [List.map_append, List.nodup_append]
    refine ⟨rowSeats_nodup _ _ _, ends_nodup_from n (k + 1), ?_⟩
    intro x hx y hy e
    subst e
    obtain ⟨⟨z, e1⟩, h1, rfl⟩ := List.mem_map.mp hx
    obtain ⟨⟨z2, e2⟩, h2, he⟩ := List.mem_map.mp hy
    simp only at he
    subst he
    have q1 := (mem_rowSeats.mp h1).1
    have q2 := (mem_seatsFrom.mp h2).1
    omega
theorem ends_nodup (n : Net) : (ends n).Nodup := ends_nodup_from n 0
theorem pos_nodup (n : Net) (z : Str) : (pos n z).Nodup := by
  unfold pos
  exact (ends_nodup n).sublist (List.Sublist.map _ (List.filter_sublist))
theorem pos_len (n : Net) (z : Str) : (pos n z).length = (ties n).count z := by
  unfold pos
  rw [List.length_map, ← seats_names n 0, ← List.countP_eq_length_filter, List.count, List.countP_map]
  rfl
def Twice (n : Net) : Prop := ∀ z ∈ ties n, (ties n).count z = 2
theorem tie_mem {n : Net} {e : End} {z : Str} (h : tieAt n e = some z) : z ∈ ties n := by
  have := mem_seats.mpr h
  rw [← seats_names n 0]
  exact List.mem_map.mpr ⟨_, this, rfl⟩
def other (n : Net) (e : End) : End := match tieAt n e with
  | some z => (match pos n z with
    | [a, b] => if a = e then b else a
    | _ => e)
  | none => e
theorem pos_two {n : Net} (T : Twice n) {e : End} {z : Str} (h : tieAt n e = some z) : ∃ a b, pos n z = [a, b] ∧ a ≠ b ∧ (e = a ∨ e = b) := by
  have hl := pos_len n z
  rw [T z (tie_mem h)] at hl
  have hn := pos_nodup n z
  have hm := mem_pos.mpr h
  match hp : pos n z, hl with
  | [a, b], _ =>
    rw [hp] at hn hm
    refine ⟨a, b, rfl, ?_, ?_⟩
    · intro e
      subst e
      simp at hn
    · simpa using hm
theorem other_spec {n : Net} (T : Twice n) {e : End} {z : Str} (h : tieAt n e = some z) : tieAt n (other n e) = some z ∧ other n (other n e) = e ∧ other n e ≠ e := by
  obtain ⟨a, b, hp, hab, he⟩ := pos_two T h
  have ha : tieAt n a = some z := mem_pos.mp (by rw [hp]; simp)
  have hb : tieAt n b = some z := mem_pos.mp (by rw [hp]; simp)
  rcases he with rfl | rfl
  · have e1 : other n e = b := by unfold other; simp only [h, hp]; simp
    have e2 : other n b = e := by unfold other; simp only [hb, hp]; simp [hab]
    rw [e1]
    exact ⟨hb, e2, hab.symm⟩
  · have e1 : other n e = a := by unfold other; simp only [h, hp]; simp [hab]
    have e2 : other n a = e := by unfold other; simp only [ha, hp]; simp
    rw [e1]
    exact ⟨ha, e2, hab⟩
def left (n : Net) (e : End) : End := (e.1, (e.2 + 1) % (row n e.1).length)
def step (n : Net) (e : End) : End := left n (other n e)
theorem end_lt {n : Net} {e : End} {z : Str} (h : tieAt n e = some z) : e.2 < (row n e.1).length := (List.getElem?_eq_some_iff.mp h).1
theorem row_lt {n : Net} {e : End} {z : Str} (h : tieAt n e = some z) : e.1 < n.length := by
  rcases Nat.lt_or_ge e.1 n.length with c | c
  · exact c
  · have := end_lt h
    unfold row at this
    rw [List.getElem?_eq_none c] at this
    simp at this
theorem end_of {n : Net} {e : End} (h : e.2 < (row n e.1).length) : ∃ z, tieAt n e = some z := ⟨_, List.getElem?_eq_getElem h⟩
theorem left_end {n : Net} {e : End} (h : e ∈ ends n) : left n e ∈ ends n := by
  obtain ⟨z, h⟩ := mem_ends.mp h
  have := end_lt h
  exact mem_ends.mpr (end_of (show (e.2 + 1) % (row n e.1).length < (row n e.1).length from Nat.mod_lt _ (by omega)))
theorem other_end {n : Net} (T : Twice n) {e : End} (h : e ∈ ends n) : other n e ∈ ends n := by
  obtain ⟨z, h⟩ := mem_ends.mp h
  exact mem_ends.mpr ⟨z, (other_spec T h).1⟩
theorem step_end {n : Net} (T : Twice n) {e : End} (h : e ∈ ends n) : step n e ∈ ends n := left_end (other_end T h)
theorem left_inj {n : Net} {a b : End} (ha : a ∈ ends n) (hb : b ∈ ends n) (h : left n a = left n b) : a = b := by
  obtain ⟨z, ha⟩ := mem_ends.mp ha
  obtain ⟨y, hb⟩ := mem_ends.mp hb
  have la := end_lt ha
  have lb := end_lt hb
  unfold left at h
  obtain ⟨h1, h2⟩ := Prod.mk.inj h
  rw [h1] at la h2
  have : a.2 = b.2 := by
    rcases Nat.lt_or_ge (a.2 + 1) (row n b.1).length with c | c <;> rcases Nat.lt_or_ge (b.2 + 1) (row n b.1).length with d | d
    · rw [Nat.mod_eq_of_lt c, Nat.mod_eq_of_lt d] at h2; omega
    · have e : b.2 + 1 = (row n b.1).length := by omega
      rw [Nat.mod_eq_of_lt c, e, Nat.mod_self] at h2; omega
    · have e : a.2 + 1 = (row n b.1).length := by omega
      rw [Nat.mod_eq_of_lt d, e, Nat.mod_self] at h2; omega
    · omega
  exact Prod.ext h1 this
theorem other_inj {n : Net} (T : Twice n) {a b : End} (ha : a ∈ ends n) (hb : b ∈ ends n) (h : other n a = other n b) : a = b := by
  obtain ⟨z, ha⟩ := mem_ends.mp ha
  obtain ⟨y, hb⟩ := mem_ends.mp hb
  rw [← (other_spec T ha).2.1, h, (other_spec T hb).2.1]
theorem step_inj {n : Net} (T : Twice n) {a b : End} (ha : a ∈ ends n) (hb : b ∈ ends n) (h : step n a = step n b) : a = b :=
  other_inj T ha hb (left_inj (other_end T ha) (other_end T hb) h)
theorem nodup_le {α : Type} [DecidableEq α] : ∀ {a b : List α}, a.Nodup → (∀ z ∈ a, z ∈ b) → a.length ≤ b.length
  | [], b, _, _ => Nat.zero_le _
  | x :: r, b, hn, hs => by
    rw [List.nodup_cons] at hn
    have hx := hs x List.mem_cons_self
    have := nodup_le (a := r) (b := b.erase x) hn.2 fun z hz => by
      have hne : z ≠ x := fun e => hn.1 (e ▸ hz)
      exact (List.mem_erase_of_ne hne).mpr (hs z (List.mem_cons_of_mem _ hz))
    rw [List.length_erase_of_mem hx] at this
    have hp : 0 < b.length := List.length_pos_of_mem hx
    rw [List.length_cons]
    omega
def it {α : Type} (f : α → α) : Nat → α → α
  | 0, a => a
  | k + 1, a => f (it f k a)
theorem it_mem {α : Type} {f : α → α} {S : List α} (hf : ∀ a ∈ S, f a ∈ S) {a : α} (h : a ∈ S) : ∀ k, it f k a ∈ S
  | 0 => h
  | k + 1 => hf _ (it_mem hf h k)
theorem comes_back {α : Type} [DecidableEq α] {f : α → α} {S : List α} (hf : ∀ a ∈ S, f a ∈ S) (inj : ∀ a ∈ S, ∀ b ∈ S, f a = f b → a = b) {a : α} (h : a ∈ S) : ∃ k, 0 < k ∧ k ≤ S.length ∧ it f k a = a := by
  have cancel : ∀ i j, it f i a = it f (i + j) a → it f j a = a := by
    intro i
    induction i with
    | zero => intro j e; rw [Nat.zero_add] at e; exact e.symm
    | succ i ih =>
      intro j e
      refine ih j ?_
      rw [show i + 1 + j = (i + j) + 1 by omega] at e
      exact inj _ (it_mem hf h i) _ (it_mem hf h (i + j)) e
  refine Classical.byContradiction fun hn => ?_
  have nd : ((List.range (S.length + 1)).map fun i => it f i a).Nodup := by
    refine List.Pairwise.map _ (R := fun i j => i < j ∧ j < S.length + 1) ?_ ?_
    · rintro i j ⟨h1, h2⟩ e
      refine hn ⟨j - i, by omega, by omega, cancel i (j - i) ?_⟩
      rw [show i + (j - i) = j by omega]
      exact e
    · rw [List.pairwise_iff_getElem]
      intro i j hi hj hij
      simp only [List.getElem_range]
      simp at hj
      exact ⟨hij, hj⟩
  have := nodup_le nd fun z hz => by
    obtain ⟨i, _, rfl⟩ := List.mem_map.mp hz
    exact it_mem hf h i
  simp at this
  omega
theorem row_le : ∀ (n : Net) (r : Nat), (row n r).length ≤ (ties n).length
  | [], r => by simp [row, ties]
  | a :: n, 0 => by simp [row, ties]
  | a :: n, r + 1 => by
    have := row_le n r
    simp [row, ties] at this ⊢
    omega
theorem ties_take_le : ∀ (n : Net) (r : Nat), (ties (n.take r)).length ≤ (ties n).length
  | [], r => by simp [ties]
  | a :: n, 0 => by simp [ties]
  | a :: n, r + 1 => by
    have := ties_take_le n r
    simp [ties] at this ⊢
    omega
structure IsFace (n : Net) (e : Nt.End) (fs : List End) : Prop where
  pos : 0 < fs.length
  len : fs.length ≤ (ends n).length
  at' : ∀ i, i < fs.length → fs[i]? = some (it (step n) i e)
  back : it (step n) fs.length e = e
  first : ∀ i, 0 < i → i < fs.length → it (step n) i e ≠ e
end Nt
namespace Nt
open PySem L2
abbrev Ls (zs : List Str) : HO := .lst (zs.map V.str)
abbrev Tp (e : End) : HO := .tup [.int e.1, .int e.2]
structure RowsAt (H : Hp) (R : Addr) (as : List (Addr × Addr)) (n : Net) : Prop where
  len : as.length = n.length
  lst : H R = some (.lst (as.map fun a => .ref a.1))
  tup : ∀ (i : Nat) a r, as[i]? = some a → n[i]? = some r → H a.1 = some (.tup [.str r.1, .ref a.2]) ∧ H a.2 = some (Ls r.2)
  inj : (as.map (·.2)).Nodup
theorem RowsAt.same {H H' : Hp} {R : Addr} {as : List (Addr × Addr)} {n : Net} (h : RowsAt H R as n) (s : Same H H') : RowsAt H' R as n :=
  ⟨h.len, s _ _ h.lst, fun i a r h1 h2 => ⟨s _ _ (h.tup i a r h1 h2).1, s _ _ (h.tup i a r h1 h2).2⟩, h.inj⟩
theorem RowsAt.at {H : Hp} {R : Addr} {as : List (Addr × Addr)} {n : Net} (h : RowsAt H R as n) {i : Nat} (hi : i < n.length) :
    ∃ a, as[i]? = some a ∧ atI (as.map fun a => V.ref a.1) (i : Int) = some (.ref a.1) ∧ H a.1 = some (.tup [.str n[i].1, .ref a.2]) ∧ H a.2 = some (Ls (row n i)) ∧ row n i = n[i].2 := by
  have hl := h.len
  have e : as[i]? = some as[i] := List.getElem?_eq_getElem (by omega)
  have er : row n i = n[i].2 := by unfold row; rw [List.getElem?_eq_getElem hi]; rfl
  have q := h.tup i as[i] n[i] e (List.getElem?_eq_getElem hi)
  refine ⟨as[i], e, atI_nat (by rw [List.getElem?_map, e]; rfl), q.1, ?_, er⟩
  rw [er]
  exact q.2
theorem at_strs {zs : List Str} {j : Nat} {z : Str} (h : zs[j]? = some z) : atI (zs.map V.str) (j : Int) = some (.str z) := atI_nat (by rw [List.getElem?_map, h]; rfl)
inductive Pd (H : Hp) : List Addr → List End → Prop where
  | nil : Pd H [] []
  | cons {t : Addr} {e : End} {ts : List Addr} {es : List End} : H t = some (Tp e) → Pd H ts es → Pd H (t :: ts) (e :: es)
theorem Pd.append {H : Hp} {ts us : List Addr} {es fs : List End} (h : Pd H ts es) (g : Pd H us fs) : Pd H (ts ++ us) (es ++ fs) := by
  induction h with
  | nil => exact g
  | cons h1 _ ih => exact .cons h1 ih
theorem Pd.keep {H H' : Hp} {ts : List Addr} {es : List End} (h : Pd H ts es) (k : ∀ t e, H t = some (Tp e) → H' t = some (Tp e)) : Pd H' ts es := by
  induction h with
  | nil => exact .nil
  | cons h1 _ ih => exact .cons (k _ _ h1) ih
theorem Pd.length {H : Hp} {ts : List Addr} {es : List End} (h : Pd H ts es) : ts.length = es.length := by
  induction h with
  | nil => rfl
  | cons _ _ ih => rw [List.length_cons, List.length_cons, ih]
theorem Pd.at {H : Hp} {ts : List Addr} {es : List End} (h : Pd H ts es) : ∀ {i : Nat} {e : End}, es[i]? = some e → ∃ t, ts[i]? = some t ∧ H t = some (Tp e) := by
  induction h with
  | nil => intro i e h; simp at h
  | cons h1 _ ih =>
    intro i e h
    cases i with
    | zero => simp at h; subst h; exact ⟨_, rfl, h1⟩
    | succ i => simp only [List.getElem?_cons_succ] at h ⊢; exact ih h
def posIn (done : List (Str × End)) (z : Str) : List End := (done.filter fun x => decide (x.1 = z)).map (·.2)
theorem posIn_snoc (done : List (Str × End)) (y z : Str) (e : End) : posIn (done ++ [(y, e)]) z = posIn done z ++ (if y = z then [e] else []) := by
  unfold posIn
  rw [List.filter_append, List.map_append]
  congr 1
  by_cases h : y = z
  · rw [if_pos h]; simp [h]
  · rw [if_neg h]; simp [h]
structure SeatsOn (H0 H : Hp) (d : Addr) (done : List (Str × End)) (kvs : List (Key × V)) (ks : List Str) (A : Str → Option (Addr × List Addr)) : Prop where
  same : Same H0 H
  free : H0 d = none
  dict : H d = some (.dK kvs)
  keys : kvs.map (·.1) = ks.map Sum.inr
  nodup : ks.Nodup
  mem : ∀ z, z ∈ ks ↔ (A z).isSome = true
  val : ∀ z, valV kvs (Sum.inr z) = (A z).map fun a => .ref a.1
  at' : ∀ z a ts, A z = some (a, ts) → H0 a = none ∧ a ≠ d ∧ H a = some (.lst (ts.map V.ref)) ∧ Pd H ts (posIn done z)
  inj : ∀ z y a ts us, A z = some (a, ts) → A y = some (a, us) → z = y
  none' : ∀ z, A z = none → posIn done z = []
  some' : ∀ z a ts, A z = some (a, ts) → posIn done z ≠ []
theorem SeatsOn.start {H : Hp} {d : Addr} (h : H d = none) : SeatsOn H (upd H d (.dK [])) d [] [] [] (fun _ => none) where
  same := fun b u q => by rw [upd_ne (ne_of_none q h)]; exact q
  free := h
  dict := upd_same
  keys := rfl
  nodup := List.nodup_nil
  mem := fun z => by simp
  val := fun z => rfl
  at' := fun z a ts h => by cases h
  inj := fun z y a ts us h => by cases h
  none' := fun z _ => rfl
  some' := fun z a ts h => by cases h
theorem tp_ne_lst {H : Hp} {t a : Addr} {e : End} {xs : List V} (h : H t = some (Tp e)) (g : H a = some (.lst xs)) : t ≠ a := ne_of h g fun z => nomatch z
theorem SeatsOn.old {H0 H : Hp} {d : Addr} {done : List (Str × End)} {kvs : List (Key × V)} {ks : List Str} {A : Str → Option (Addr × List Addr)} (S : SeatsOn H0 H d done kvs ks A) {z : Str} {e : End} {a l0 t : Addr} {ts : List Addr}
    (hA : A z = some (a, ts)) (hl : H l0 = none) (ht : (upd H l0 (.lst [])) t = none) :
    SeatsOn H0 (upd (upd (upd H l0 (.lst [])) t (Tp e)) a (.lst (ts.map V.ref ++ [.ref t]))) d (done ++ [(z, e)]) kvs ks (fun y => if y = z then some (a, ts ++ [t]) else A y) := by
  obtain ⟨q1, q2, q3, q4⟩ := S.at' z a ts hA
  have htH : H t = none := by
    by_cases c : t = l0
    · rw [c, upd_same] at ht; cases ht
    · rwa [upd_ne c] at ht
  have hla : l0 ≠ a := (ne_of_none q3 hl).symm
  have hta : t ≠ a := (ne_of_none q3 htH).symm
  have hat : a ≠ t := hta.symm
  have keep : ∀ b u, b ≠ a → H b = some u → (upd (upd (upd H l0 (.lst [])) t (Tp e)) a (.lst (ts.map V.ref ++ [.ref t]))) b = some u := fun b u h1 h2 => by
    rw [upd_ne h1, upd_ne (ne_of_none h2 htH), upd_ne (ne_of_none h2 hl)]
    exact h2
  have kt : ∀ b f, H b = some (Tp f) → (upd (upd (upd H l0 (.lst [])) t (Tp e)) a (.lst (ts.map V.ref ++ [.ref t]))) b = some (Tp f) := fun b f h => keep b _ (tp_ne_lst h q3) h
  have et : (upd (upd (upd H l0 (.lst [])) t (Tp e)) a (.lst (ts.map V.ref ++ [.ref t]))) t = some (Tp e) := by rw [upd_ne hta, upd_same]
  refine ⟨fun b u h => ?_, S.free, keep d _ (Ne.symm q2) S.dict, S.keys, S.nodup, fun y => ?_, fun y => ?_, fun y a' ts' h => ?_, fun y y' a' ts' us h1 h2 => ?_, fun y h => ?_, fun y a' ts' h => ?_⟩
  · exact keep b u (ne_of_none h q1) (S.same _ _ h)
  · rw [S.mem y]
    by_cases c : y = z
    · rw [if_pos c, c, hA]; simp
    · rw [if_neg c]
  · rw [S.val y]
    by_cases c : y = z
    · rw [if_pos c, c, hA]; rfl
    · rw [if_neg c]
  · by_cases c : y = z
    · rw [if_pos c] at h
      cases h
      refine ⟨q1, q2, by rw [upd_same, List.map_append]; rfl, ?_⟩
      rw [posIn_snoc, c, if_pos rfl]
      exact (q4.keep kt).append (.cons et .nil)
    · rw [if_neg c] at h
      obtain ⟨r1, r2, r3, r4⟩ := S.at' y a' ts' h
      have hne : a' ≠ a := fun e2 => c (S.inj y z a ts' ts (e2 ▸ h) hA)
      refine ⟨r1, r2, keep _ _ hne r3, ?_⟩
      rw [posIn_snoc, if_neg (fun h => c h.symm), List.append_nil]
      exact r4.keep kt
  · by_cases c : y = z <;> by_cases c' : y' = z
    · rw [c, c']
    · rw [if_pos c] at h1
      rw [if_neg c'] at h2
      cases h1
      exact absurd (S.inj y' z a us ts h2 hA) c'
    · rw [if_neg c] at h1
      rw [if_pos c'] at h2
      cases h2
      exact absurd (S.inj y z a ts' ts h1 hA) c
    · rw [if_neg c] at h1
      rw [if_neg c'] at h2
      exact S.inj y y' a' ts' us h1 h2
  · by_cases c : y = z
    · rw [if_pos c] at h; cases h
    · rw [if_neg c] at h
      rw [posIn_snoc, if_neg (fun h => c h.symm), List.append_nil]
      exact S.none' y h
  · by_cases c : y = z
    · rw [posIn_snoc, if_pos c.symm]
      simp
    · rw [if_neg c] at h
      rw [posIn_snoc, if_neg (fun h => c h.symm), List.append_nil]
      exact S.some' y a' ts' h
theorem SeatsOn.new {H0 H : Hp} {d : Addr} {done : List (Str × End)} {kvs : List (Key × V)} {ks : List Str} {A : Str → Option (Addr × List Addr)} (S : SeatsOn H0 H d done kvs ks A) {z : Str} {e : End} {l0 t : Addr}
    (hA : A z = none) (hl : H l0 = none) (ht : (upd (upd H l0 (.lst [])) d (.dK (putK kvs (Sum.inr z) (.ref l0)))) t = none) :
    SeatsOn H0 (upd (upd (upd (upd H l0 (.lst [])) d (.dK (putK kvs (Sum.inr z) (.ref l0)))) t (Tp e)) l0 (.lst [.ref t])) d (done ++ [(z, e)]) (putK kvs (Sum.inr z) (.ref l0)) (ks ++ [z]) (fun y => if y = z then some (l0, [t]) else A y) := by
  have hdl : d ≠ l0 := ne_of_none S.dict hl
  have htd : t ≠ d := fun c => by rw [c, upd_same] at ht; cases ht
  have htl : t ≠ l0 := fun c => by rw [upd_ne htd, c, upd_same] at ht; cases ht
  have htH : H t = none := by rwa [upd_ne htd, upd_ne htl] at ht
  have vn : valV kvs (Sum.inr z) = none := by rw [S.val z, hA]; rfl
  have keep : ∀ b u, b ≠ d → H b = some u → (upd (upd (upd (upd H l0 (.lst [])) d (.dK (putK kvs (Sum.inr z) (.ref l0)))) t (Tp e)) l0 (.lst [.ref t])) b = some u := fun b u h1 h2 => by
    rw [upd_ne (ne_of_none h2 hl), upd_ne (ne_of_none h2 htH), upd_ne h1, upd_ne (ne_of_none h2 hl)]
    exact h2
  have kt : ∀ b f, H b = some (Tp f) → (upd (upd (upd (upd H l0 (.lst [])) d (.dK (putK kvs (Sum.inr z) (.ref l0)))) t (Tp e)) l0 (.lst [.ref t])) b = some (Tp f) := fun b f h => keep b _ (ne_of h S.dict fun z => nomatch z) h
  have h0l : H0 l0 = none := S.same.free hl
  have zk : z ∉ ks := fun h => by
    have := (S.mem z).mp h
    rw [hA] at this
    cases this
  refine ⟨fun b u h => ?_, S.free, ?_, ?_, ?_, fun y => ?_, fun y => ?_, fun y a' ts' h => ?_, fun y y' a' ts' us h1 h2 => ?_, fun y h => ?_, fun y a' ts' h => ?_⟩
  · exact keep b u (ne_of_none h S.free) (S.same _ _ h)
  · rw [upd_ne hdl, upd_ne htd.symm, upd_same]
  · rw [putK_new _ vn, List.map_append, S.keys, List.map_append]
    rfl
  · rw [List.nodup_append]
    exact ⟨S.nodup, by simp, fun x hx y hy e => by rw [List.mem_singleton] at hy; subst hy e; exact zk hx⟩
  · rw [List.mem_append, List.mem_singleton, S.mem y]
    by_cases c : y = z
    · rw [if_pos c]; simp [c]
    · rw [if_neg c]; simp [c]
  · rw [valV_put]
    by_cases c : y = z
    · rw [if_pos (by rw [c]), if_pos c]; rfl
    · rw [if_neg (fun h => c (Sum.inr.inj h)), if_neg c, S.val y]
  · by_cases c : y = z
    · rw [if_pos c] at h
      cases h
      refine ⟨h0l, hdl.symm, by rw [upd_same]; rfl, ?_⟩
      rw [posIn_snoc, c, if_pos rfl, S.none' z hA]
      exact .cons (by rw [upd_ne htl, upd_same]) .nil
    · rw [if_neg c] at h
      obtain ⟨r1, r2, r3, r4⟩ := S.at' y a' ts' h
      refine ⟨r1, r2, keep _ _ r2 r3, ?_⟩
      rw [posIn_snoc, if_neg (fun h => c h.symm), List.append_nil]
      exact r4.keep kt
  · by_cases c : y = z <;> by_cases c' : y' = z
    · rw [c, c']
    · rw [if_pos c] at h1
      rw [if_neg c'] at h2
      cases h1
      exact absurd hl (by rw [(S.at' y' l0 us h2).2.2.1]; exact fun h => nomatch h)
    · rw [if_neg c] at h1
      rw [if_pos c'] at h2
      cases h2
      exact absurd hl (by rw [(S.at' y l0 ts' h1).2.2.1]; exact fun h => nomatch h)
    · rw [if_neg c] at h1
      rw [if_neg c'] at h2
      exact S.inj y y' a' ts' us h1 h2
  · by_cases c : y = z
    · rw [if_pos c] at h; cases h
    · rw [if_neg c] at h
      rw [posIn_snoc, if_neg (fun h => c h.symm), List.append_nil]
      exact S.none' y h
  · by_cases c : y = z
    · rw [posIn_snoc, if_pos c.symm]
      simp
    · rw [if_neg c] at h
      rw [posIn_snoc, if_neg (fun h => c h.symm), List.append_nil]
      exact S.some' y a' ts' h
theorem seatsFrom_append : ∀ (n m : Net) (k : Nat), seatsFrom k (n ++ m) = seatsFrom k n ++ seatsFrom (k + n.length) m
  | [], m, k => rfl
  | a :: n, m, k => by
    show rowSeats k a.2 0 ++ seatsFrom (k + 1) (n ++ m) = (rowSeats k a.2 0 ++ seatsFrom (k + 1) n) ++ seatsFrom (k + (n.length + 1)) m
    rw [seatsFrom_append n m (k + 1), List.append_assoc, show k + 1 + n.length = k + (n.length + 1) by omega]
theorem seats_take {n : Net} {r : Nat} (h : r < n.length) : seats (n.take (r + 1)) = seats (n.take r) ++ rowSeats r (row n r) 0 := by
  unfold seats
  rw [List.take_add_one, List.getElem?_eq_getElem h, seatsFrom_append]
  have e : (n.take r).length = r := by rw [List.length_take]; omega
  rw [e, Nat.zero_add]
  have er : row n r = n[r].2 := by unfold row; rw [List.getElem?_eq_getElem h]; rfl
  rw [er]
  show _ ++ (rowSeats r n[r].2 0 ++ []) = _
  rw [List.append_nil]
theorem rowSeats_take {r : Nat} {ts : List Str} {p : Nat} {z : Str} (h : ts[p]? = some z) : rowSeats r (ts.take (p + 1)) 0 = rowSeats r (ts.take p) 0 ++ [(z, (r, p))] := by
  unfold rowSeats
  have hp := (List.getElem?_eq_some_iff.mp h).1
  rw [List.take_add_one, h, List.zipIdx_append, List.map_append]
  have e : (ts.take p).length = p := by rw [List.length_take]; omega
  rw [e, Nat.zero_add]
  rfl
structure SeatsAt (H : Hp) (d : Addr) (n : Net) (ks : List Str) : Prop where
  dict : ∃ kvs, H d = some (.dK kvs) ∧ kvs.map (·.1) = ks.map Sum.inr ∧ ∀ z ∈ ties n, ∃ a ts, valV kvs (Sum.inr z) = some (.ref a) ∧ H a = some (.lst (ts.map V.ref)) ∧ Pd H ts (pos n z)
  nodup : ks.Nodup
  mem : ∀ z, z ∈ ks ↔ z ∈ ties n
theorem SeatsAt.same {H H' : Hp} {d : Addr} {n : Net} {ks : List Str} (S : SeatsAt H d n ks) (s : Same H H') : SeatsAt H' d n ks := by
  obtain ⟨kvs, h1, h2, h3⟩ := S.dict
  refine ⟨⟨kvs, s _ _ h1, h2, fun z hz => ?_⟩, S.nodup, S.mem⟩
  obtain ⟨a, ts, q1, q2, q3⟩ := h3 z hz
  exact ⟨a, ts, q1, s _ _ q2, q3.keep fun t e h => s _ _ h⟩
theorem ties_pos {n : Net} {z : Str} : z ∈ ties n ↔ pos n z ≠ [] := by
  rw [← List.count_pos_iff, ← pos_len, List.length_pos_iff]
theorem SeatsOn.whole {H0 H : Hp} {d : Addr} {n : Net} {kvs : List (Key × V)} {ks : List Str} {A : Str → Option (Addr × List Addr)} (S : SeatsOn H0 H d (seats n) kvs ks A) : SeatsAt H d n ks := by
  have mem : ∀ z, z ∈ ks ↔ z ∈ ties n := fun z => by
    rw [S.mem z, ties_pos]
    cases h : A z with
    | none => simp; exact S.none' z h
    | some p =>
      obtain ⟨a, ts⟩ := p
      simp
      exact S.some' z a ts h
  refine ⟨⟨kvs, S.dict, S.keys, fun z hz => ?_⟩, S.nodup, mem⟩
  have := (S.mem z).mp ((mem z).mpr hz)
  cases h : A z with
  | none => rw [h] at this; cases this
  | some p =>
    obtain ⟨a, ts⟩ := p
    obtain ⟨q1, q2, q3, q4⟩ := S.at' z a ts h
    exact ⟨a, ts, by rw [S.val z, h]; rfl, q3, q4⟩
theorem all2 (e : Nat → Bool) : (List.range 2).all e = (e 0 && e 1) := by
  show (([0, 1] : List Nat).all e) = _
  simp
theorem dec_end (x y : End) : (eqV (.int x.1) (.int y.1) && eqV (.int x.2) (.int y.2)) = decide (x = y) := by
  obtain ⟨a, b⟩ := x
  obtain ⟨c, d⟩ := y
  by_cases h : a = c <;> by_cases h2 : b = d
  · subst h h2; simp [eqV]
  · have : ¬ (b : Int) = (d : Int) := fun e => h2 (by omega)
    simp [eqV, h2, this]
  · have : ¬ (a : Int) = (c : Int) := fun e => h (by omega)
    simp [eqV, h, this]
  · have : ¬ (a : Int) = (c : Int) := fun e => h (by omega)
    simp [eqV, h, this]
section
variable {X : Cx} {H : Hp} {s t : Addr} {x y : End}
theorem eqs_tp : ∀ (j : Nat) (u v : V), [V.int x.1, .int x.2][j]? = some u → [V.int y.1, .int y.2][j]? = some v → EqD X H 0 u v (if j = 0 then eqV (.int x.1) (.int y.1) else eqV (.int x.2) (.int y.2))
  | 0, u, v, h1, h2 => by
    cases h1
    cases h2
    exact eqD_flat rfl rfl
  | 1, u, v, h1, h2 => by
    cases h1
    cases h2
    exact eqD_flat rfl rfl
  | j + 2, u, v, h1, h2 => by simp at h1
theorem rcD_tp (hs : H s = some (Tp x)) (ht : H t = some (Tp y)) : RcD X H 1 (.ref s) (.ref t) (decide (x = y)) := by
  have := rcD_tup (X := X) (k := 0) (fun j => if j = 0 then eqV (.int x.1) (.int y.1) else eqV (.int x.2) (.int y.2)) (SqT.of hs) (SqT.of ht) rfl eqs_tp
  rw [show ([V.int (x.1 : Int), .int x.2].length) = 2 from rfl, all2] at this
  have e := dec_end x y
  simp only [if_true] at this
  rw [if_neg (by decide), e] at this
  exact this
theorem rnD_tp (hs : H s = some (Tp x)) (ht : H t = some (Tp y)) : RnD X H 1 (.ref s) (.ref t) (decide (x = y)) := by
  have := rnD_tup (X := X) (k := 0) (fun j => if j = 0 then eqV (.int x.1) (.int y.1) else eqV (.int x.2) (.int y.2)) (SqT.of hs) (SqT.of ht) rfl eqs_tp
  rw [show ([V.int (x.1 : Int), .int x.2].length) = 2 from rfl, all2] at this
  have e := dec_end x y
  simp only [if_true] at this
  rw [if_neg (by decide), e] at this
  exact this
end
end Nt
namespace Nt
open PySem L2
abbrev lets : Str := "abcdefghijklmnopqrstuvwxyz0123456789"
theorem lets_len : lets.cps.toList.length = 36 := by decide +kernel
theorem lets_nodup : lets.cps.toList.Nodup := by decide +kernel
def sgn (i : Int) : Nat := (atI lets.cps.toList (i % 36)).getD 0
theorem sgn_at (i : Int) : atI lets.cps.toList (i % 36) = some (sgn i) := by
  have h0 : 0 ≤ i % 36 := Int.emod_nonneg _ (by decide)
  have h1 : i % 36 < 36 := Int.emod_lt_of_pos _ (by decide)
  have hj : (i % 36).toNat < lets.cps.toList.length := by rw [lets_len]; omega
  have q := atI_nat (xs := lets.cps.toList) (j := (i % 36).toNat) (v := lets.cps.toList[(i % 36).toNat]) (by simp [hj])
  rw [show (((i % 36).toNat : Nat) : Int) = i % 36 by omega] at q
  unfold sgn
  rw [q]
  rfl
theorem sgn_inj {i j : Int} (h : sgn i = sgn j) : i % 36 = j % 36 := by
  have key : ∀ k : Int, lets.cps.toList[(k % 36).toNat]? = some (sgn k) := fun k => by
    have h0 : 0 ≤ k % 36 := Int.emod_nonneg _ (by decide)
    have h1 : k % 36 < 36 := Int.emod_lt_of_pos _ (by decide)
    have hj : (k % 36).toNat < lets.cps.toList.length := by rw [lets_len]; omega
    have q := atI_nat (xs := lets.cps.toList) (j := (k % 36).toNat) (v := lets.cps.toList[(k % 36).toNat]) (by simp [hj])
    rw [show (((k % 36).toNat : Nat) : Int) = k % 36 by omega, sgn_at] at q
    rw [List.getElem?_eq_getElem hj, Option.some.inj q]
  have hi := key i
  have hj := key j
  rw [h] at hi
  obtain ⟨l1, e1⟩ := List.getElem?_eq_some_iff.mp hi
  obtain ⟨l2, e2⟩ := List.getElem?_eq_some_iff.mp hj
  have := (List.getElem_inj (xs := lets.cps.toList) (h₀ := l1) (h₁ := l2) lets_nodup).mp (e1.trans e2.symm)
  have a0 : 0 ≤ i % 36 := Int.emod_nonneg _ (by decide)
  have b0 : 0 ≤ j % 36 := Int.emod_nonneg _ (by decide)
  omega
def turn (b : Int) (sp : Int) (v k : Nat) : Int := b / 64 + (k : Int) * (b / 7 % 5) + (if (k : Int) = sp then (v : Int) else 0)
def nm (b sp : Int) (v : Nat) : Nat → Str
  | 0 => ⟨#[]⟩
  | k + 1 => nm b sp v k ++ ⟨#[sgn (turn b sp v k)]⟩
theorem app_list (x y : Str) : (x ++ y).cps.toList = x.cps.toList ++ y.cps.toList := by
  show (x.cps ++ y.cps).toList = _
  simp
theorem nm_list (b sp : Int) (v : Nat) : ∀ k, (nm b sp v k).cps.toList = (List.range k).map fun j => sgn (turn b sp v j)
  | 0 => rfl
  | k + 1 => by
    show (nm b sp v k ++ ⟨#[sgn (turn b sp v k)]⟩).cps.toList = _
    rw [app_list, nm_list b sp v k, List.range_succ, List.map_append]
    rfl
theorem nm_inj {b sp : Int} {u v k : Nat} (hu : u < 36) (hv : v < 36) (h0 : 0 ≤ sp) (h1 : sp < (k : Int)) (h : nm b sp u k = nm b sp v k) : u = v := by
  have e : (nm b sp u k).cps.toList = (nm b sp v k).cps.toList := by rw [h]
  rw [nm_list, nm_list] at e
  have hk : sp.toNat < k := by omega
  have q : ((List.range k).map fun j => sgn (turn b sp u j))[sp.toNat]? = ((List.range k).map fun j => sgn (turn b sp v j))[sp.toNat]? := by rw [e]
  rw [List.getElem?_map, List.getElem?_map, List.getElem?_range hk] at q
  have q2 : sgn (turn b sp u sp.toNat) = sgn (turn b sp v sp.toNat) := Option.some.inj q
  have q3 := sgn_inj q2
  unfold turn at q3
  rw [show ((sp.toNat : Nat) : Int) = sp by omega, if_pos rfl, if_pos rfl] at q3
  omega
def one (c : Nat) : Str := ⟨#[c]⟩
theorem fold_list (c : Nat) : ∀ (k : Nat) (acc : Array Nat), ((List.replicate k (#[c] : Array Nat)).foldl (· ++ ·) acc).toList = acc.toList ++ List.replicate k c
  | 0, acc => by simp
  | k + 1, acc => by
    rw [List.replicate_succ, List.foldl_cons, fold_list c k, List.replicate_succ]
    simp
theorem mul_list (c : Nat) {i : Int} (h : 1 ≤ i) : (Txt.mul ⟨#[c]⟩ i).cps.toList = List.replicate i.toNat c := by
  unfold Txt.mul
  rw [if_neg (by omega)]
  by_cases e : i = 1
  · subst e
    rfl
  · have e1 : (i == 1 || (⟨#[c]⟩ : Str).length == 0) = false := by
      have : (i == 1) = false := by simpa using e
      rw [this]
      rfl
    rw [e1]
    simp only [Bool.false_eq_true, if_false]
    have := fold_list c i.toNat #[]
    simpa using this
def nameOf (b : Int) (v : Nat) : Str := if b % 3 = 2 then Txt.mul ⟨#[sgn (b / 64 + (v : Int) / 8)]⟩ (1 + (v : Int) % 8) else nm b (b / 8 % (1 + b % 8)) v (1 + b % 8).toNat
theorem nameOf_inj {b : Int} {u v : Nat} (hu : u < 36) (hv : v < 36) (h : nameOf b u = nameOf b v) : u = v := by
  have s0 : 0 ≤ b % 8 := Int.emod_nonneg _ (by decide)
  unfold nameOf at h
  by_cases c : b % 3 = 2
  · rw [if_pos c, if_pos c] at h
    have u0 : 0 ≤ (u : Int) % 8 := Int.emod_nonneg _ (by decide)
    have v0 : 0 ≤ (v : Int) % 8 := Int.emod_nonneg _ (by decide)
    have e : (Txt.mul ⟨#[sgn (b / 64 + (u : Int) / 8)]⟩ (1 + (u : Int) % 8)).cps.toList = (Txt.mul ⟨#[sgn (b / 64 + (v : Int) / 8)]⟩ (1 + (v : Int) % 8)).cps.toList := by rw [h]
    rw [mul_list _ (by omega), mul_list _ (by omega)] at e
    have l := congrArg List.length e
    rw [List.length_replicate, List.length_replicate] at l
    have hd : (List.replicate (1 + (u : Int) % 8).toNat (sgn (b / 64 + (u : Int) / 8)))[0]? = (List.replicate (1 + (v : Int) % 8).toNat (sgn (b / 64 + (v : Int) / 8)))[0]? := by rw [e]
    rw [List.getElem?_replicate, List.getElem?_replicate, if_pos (by omega), if_pos (by omega)] at hd
    have q := sgn_inj (Option.some.inj hd)
    omega
  · rw [if_neg c, if_neg c] at h
    refine nm_inj hu hv (Int.emod_nonneg _ (by omega)) ?_ h
    have := Int.emod_lt_of_pos (b / 8) (show 0 < 1 + b % 8 by omega)
    omega
def namesOf (b : Int) (m : Nat) : List Str := (List.range m).map (nameOf b)
theorem namesOf_nodup {b : Int} {m : Nat} (h : m ≤ 36) : (namesOf b m).Nodup := by
  unfold namesOf
  refine List.Pairwise.map _ (R := fun i j => i < j ∧ j < m) ?_ ?_
  · rintro i j ⟨h1, h2⟩ e
    have := nameOf_inj (by omega) (by omega) e
    omega
  · rw [List.pairwise_iff_getElem]
    intro i j hi hj hij
    simp only [List.getElem_range]
    simp at hj
    exact ⟨hij, hj⟩
theorem namesOf_succ (b : Int) (m : Nat) : namesOf b (m + 1) = namesOf b m ++ [nameOf b m] := by
  unfold namesOf
  rw [List.range_succ, List.map_append]
  rfl
theorem namesOf_len (b : Int) (m : Nat) : (namesOf b m).length = m := by unfold namesOf; simp
theorem namesOf_at {b : Int} {m i : Nat} (h : i < m) : (namesOf b m)[i]? = some (nameOf b i) := by
  unfold namesOf
  rw [List.getElem?_map, List.getElem?_range h]
  rfl
end Nt
namespace C6
open PySem L2
def top (i : Nat) : Stmt := PySem.Challenge.pw_threewebs_k26_all_by_a_tree.main.body.getD i (.Pass ⟨0, 0, 0, 0⟩)
abbrev sLinks : Stmt := top 1
abbrev sSpread : Stmt := top 2
abbrev sCutOf : Stmt := top 4
abbrev s_round_by : Stmt := top 6
abbrev s_cut_by : Stmt := top 7
abbrev s_reached : Stmt := top 8
abbrev sCell : Stmt := top 10
abbrev sBig : Stmt := top 11
abbrev sNames : Stmt := top 12
abbrev sSeats : Stmt := top 13
abbrev sOther : Stmt := top 14
abbrev sStep : Stmt := top 15
abbrev sFace : Stmt := top 16
abbrev sPut : Stmt := top 17
abbrev sNet : Stmt := top 18
abbrev sCopy : Stmt := top 19
abbrev sSome : Stmt := top 20
abbrev sSumD : Stmt := top 21
abbrev sRoundOf : Stmt := top 22
abbrev s_l_joins : Stmt := top 23
abbrev s_l_tree_by : Stmt := top 24
abbrev s_l_points_of : Stmt := top 25
abbrev sLaw : Stmt := top 26
structure Txt (mg : Str → Option Value) : Prop where
  isi : mg "isinstance" = none
  ttuple : mg "tuple" = none
  tstr : mg "str" = none
  tint : mg "int" = none
  tbool : mg "bool" = none
  tlist : mg "list" = none
  tdict : mg "dict" = none
  tset : mg "set" = none
  enum : mg "enumerate" = none
  zip : mg "zip" = none
  len : mg "len" = none
  range : mg "range" = none
  sorted : mg "sorted" = none
  max : mg "max" = none
  all : mg "all" = none
end C6
namespace C6
open PySem L2 Nt Sort2
theorem small {n : Nat} (h : n ≤ 100000) : n ≤ sizeLine := by rw [sizeLine_eq]; omega
theorem small' {n : Nat} (h : n ≤ 100000) : n < sizeLine := by rw [sizeLine_eq]; omega
theorem same_new {H : Hp} {p : Addr} (h : H p = none) (o : HO) : Same H (upd H p o) := fun b u q => by rw [upd_ne (ne_of_none q h)]; exact q
theorem same_mut {H1 H2 : Hp} {r : Addr} {o : HO} (s : Same H1 H2) (h : H1 r = none) : Same H1 (upd H2 r o) := fun b u q => by
  rw [upd_ne (ne_of_none q h)]
  exact s _ _ q
theorem ls_app {H : Hp} {l : Addr} {zs : List Str} {y : Str} : upd H l (.lst (zs.map V.str ++ [V.str y])) = upd H l (Ls (zs ++ [y])) := by
  show _ = upd H l (.lst ((zs ++ [y]).map V.str))
  rw [List.map_append]
  rfl
def spCell (K : PySem.W.Frag) : Sp := fun vs H Q _ => ∃ (a : Addr) (ns : List Int) (k : Int), vs = [.ref a, .int k] ∧ SqL K H a (ns.map V.int) ∧ 0 ≤ k ∧ ∀ i, Q (.int i) H
def spBig (K : PySem.W.Frag) : Sp := fun vs H Q _ => ∃ (a : Addr) (ns : List Int) (k : Int), vs = [.ref a, .int k] ∧ SqL K H a (ns.map V.int) ∧ 0 ≤ k ∧ ∀ i H', Same H H' → Q (.int i) H'
def spNames : Sp := fun vs H Q _ => ∃ (b m : Int), vs = [.int b, .int m] ∧ 0 ≤ m ∧ m ≤ 36 ∧ ∀ l H', Same H H' → H l = none → H' l = some (Ls (namesOf b m.toNat)) → Q (.ref l) H'
def spSeats : Sp := fun vs H Q _ => ∃ (R : Addr) (as : List (Addr × Addr)) (n : Net), vs = [.ref R] ∧ RowsAt H R as n ∧ n.length ≤ 1000 ∧ (ties n).length ≤ 1000 ∧ ∀ d ks H', Same H H' → H d = none → SeatsAt H' d n ks → Q (.ref d) H'
def spOther : Sp := fun vs H Q _ => ∃ (R d t : Addr) (as : List (Addr × Addr)) (n : Net) (ks : List Str) (e : Nt.End), vs = [.ref R, .ref d, .ref t] ∧ RowsAt H R as n ∧ SeatsAt H d n ks ∧ Twice n ∧ H t = some (Tp e) ∧ e ∈ ends n ∧ ∀ u, H u = some (Tp (other n e)) → Q (.ref u) H
def spStep : Sp := fun vs H Q _ => ∃ (R d t : Addr) (as : List (Addr × Addr)) (n : Net) (ks : List Str) (e : Nt.End), vs = [.ref R, .ref d, .ref t, .int 1] ∧ RowsAt H R as n ∧ SeatsAt H d n ks ∧ Twice n ∧ H t = some (Tp e) ∧ e ∈ ends n ∧ ∀ u H', Same H H' → H u = none → H' u = some (Tp (step n e)) → Q (.ref u) H'
def spFace : Sp := fun vs H Q _ => ∃ (R d t : Addr) (as : List (Addr × Addr)) (n : Net) (ks : List Str) (e : Nt.End), vs = [.ref R, .ref d, .ref t] ∧ RowsAt H R as n ∧ SeatsAt H d n ks ∧ Twice n ∧ H t = some (Tp e) ∧ e ∈ ends n ∧ (ends n).length ≤ 1000 ∧
  ∀ l ts fs H', Same H H' → H l = none → H' l = some (.lst (ts.map V.ref)) → Pd H' ts fs → IsFace n e fs → Q (.ref l) H'
section
variable {P : Program} {w : World} {K : PySem.W.Frag} {mg : Str → Option Value} {base : Heap}
theorem scCell : FnScope ["_law_script", "_law_k"] ["_law_script", "_law_k"] (defScope sCell) := ⟨rfl, rfl, rfl, by decide +kernel, rfl, by decide +kernel, by decide +kernel⟩
theorem at_ints {ns : List Int} {k : Int} (h0 : 0 ≤ k) (h1 : k < (ns.length : Int)) : ∃ v : Int, atI (ns.map V.int) k = some (.int v) := by
  have hj : k.toNat < ns.length := by omega
  have q := atI_nat (xs := ns.map V.int) (j := k.toNat) (v := .int ns[k.toNat]) (by simp [hj])
  rw [show ((k.toNat : Nat) : Int) = k by omega] at q
  exact ⟨_, q⟩
theorem ok_cell {f : Addr} {fd : FuncData} (F : Fun K "_law_cell_at" "_law_cell_at" sCell f fd) (T : Txt mg) : FnOk P w K mg base CX0 1 f fd ["_law_script", "_law_k"] (spCell K) := by
  refine F.go scCell (fun vs H Q E h => ?_) (fun cdv A outer s H vs Q E hr h => ?_)
  · obtain ⟨a, ns, k, rfl, _⟩ := h
    rfl
  obtain ⟨a, ns, k, rfl, hS, h0, q⟩ := h
  show Run _ _ _ [some (.ref a), some (.int k)] H
  refine run_if (et_cmp op_lt (ev_v 1 (ev_blt call_len_seq T.len boot_len (ea_cons (ev_v 0 (ea_nil ⟨a, _, rfl, .inl hS, _, _, rfl, rfl, _, rfl, ?_⟩))))))
  refine ite2 (fun c => ?_) (fun c => ?_)
  · have c' := of_decide_eq_true c
    obtain ⟨v, hv⟩ := at_ints (ns := ns) h0 (by rw [List.length_map] at c'; exact c')
    exact run_ret (ev_ix ix_list (ev_v 0 (ev_v 1 ⟨a, _, _, .int v, rfl, rfl, hS, hv, q v⟩)))
  · exact run_nil (run_ret (ev_int (q 0)))
abbrev bys : List V := [.int 48271, .int 69621, .int 16807, .int 39373, .int 21401, .int 60493, .int 87721, .int 31337]
abbrev prs : List V := [.int 99991, .int 99989, .int 99971, .int 99961, .int 99929, .int 99923, .int 99907, .int 99901]
theorem eight {i : Int} (h0 : 0 ≤ i) (h1 : i < 8) : i = 0 ∨ i = 1 ∨ i = 2 ∨ i = 3 ∨ i = 4 ∨ i = 5 ∨ i = 6 ∨ i = 7 := by omega
theorem at_bys {i : Int} (h0 : 0 ≤ i) (h1 : i < 8) : ∃ m : Int, atI bys i = some (.int m) ∧ 0 < m ∧ m < 100000 := by
  rcases eight h0 h1 with rfl | rfl | rfl | rfl | rfl | rfl | rfl | rfl <;> exact ⟨_, rfl, by decide, by decide⟩
theorem at_prs {i : Int} (h0 : 0 ≤ i) (h1 : i < 8) : ∃ m : Int, atI prs i = some (.int m) ∧ 0 < m ∧ m < 100000 := by
  rcases eight h0 h1 with rfl | rfl | rfl | rfl | rfl | rfl | rfl | rfl <;> exact ⟨_, rfl, by decide, by decide⟩
theorem scBig : FnScope ["_law_script", "_law_at", "_law_by", "_law_prime", "_law_cell", "_law_big_here", "_law_k", "_law_one"] ["_law_script", "_law_at"] (defScope sBig) := ⟨rfl, rfl, rfl, by decide +kernel, rfl, by decide +kernel, by decide +kernel⟩
theorem ok_big {f g : Addr} {fd gd : FuncData} (F : Fun K "_law_big" "_law_big" sBig f fd) (T : Txt mg) (G : FnOk P w K mg base CX0 1 g gd ["_law_script", "_law_k"] (spCell K)) (bG : Binds K gd ["_law_script", "_law_k"] []) (kG : PySem.W.keepIn K (.ref g) = true) (mG : mg "_law_cell_at" = some (.ref g)) :
    FnOk P w K mg base CX0 2 f fd ["_law_script", "_law_at"] (spBig K) := by
  refine F.go scBig (fun vs H Q E h => ?_) (fun cdv A outer s H vs Q E hr h => ?_)
  · obtain ⟨a, ns, k, rfl, _⟩ := h
    rfl
  obtain ⟨a, ns, k, rfl, hS, h0, q⟩ := h
  have nd := scBig.nd
  show Run _ _ _ [some (.ref a), some (.int k), none, none, none, none, none, none] H
  refine run_set 2 nd (ev_tup (ea_cons (ev_int (ea_cons (ev_int (ea_cons (ev_int (ea_cons (ev_int (ea_cons (ev_int (ea_cons (ev_int (ea_cons (ev_int (ea_cons (ev_int (ea_nil ⟨(by show 8 ≤ sizeLine; decide), fun p hp => ?_⟩))))))))))))))))))
  refine run_set 3 nd (ev_tup (ea_cons (ev_int (ea_cons (ev_int (ea_cons (ev_int (ea_cons (ev_int (ea_cons (ev_int (ea_cons (ev_int (ea_cons (ev_int (ea_cons (ev_int (ea_nil ⟨(by show 8 ≤ sizeLine; decide), fun p2 hp2 => ?_⟩))))))))))))))))))
  have npp : p ≠ p2 := by
    intro e
    rw [← e, upd_same] at hp2
    cases hp2
  have s1 : Same H (upd H p (.tup bys)) := same_new hp _
  have s2 : Same H (upd (upd H p (.tup bys)) p2 (.tup prs)) := s1.trans (same_new hp2 _)
  have e1 : (upd (upd H p (.tup bys)) p2 (.tup prs)) p = some (.tup bys) := by rw [upd_ne npp, upd_same]
  have e2 : (upd (upd H p (.tup bys)) p2 (.tup prs)) p2 = some (.tup prs) := upd_same
  generalize upd (upd H p (.tup bys)) p2 (.tup prs) = H2 at s2 e1 e2 ⊢
  refine run_set 4 nd (ev_call G hr mG kG bG pass0 (ea_cons (ev_v 0 (ea_cons (ev_v 1 (ea_nil ⟨a, ns, k, rfl, s2.seq hS, h0, fun b => ?_⟩))))))
  show Run _ _ _ [some (.ref a), some (.int k), some (.ref p), some (.ref p2), some (.int b), none, none, none] H2
  refine run_ifJ True True (fun R qq => ?_) (fun _ => ?_) (fun _ => run_nil ?_)
  · refine et_bool (ew_and (et_cmp op_eq (ev_op op_mod (ev_v 4 (ev_int ⟨_, _, rfl, rfl, (by show (0 : Int) < 2; decide), ev_int ⟨rfl, _, rfl, ?_⟩⟩)))))
    refine ite2 (fun c => ?_) (fun c => qq false (fun z => nomatch z) fun _ => trivial)
    exact ew_and1 (et_cmp op_gt (ev_v 4 (ev_op op_pow (ev_int (ev_int ⟨_, _, rfl, rfl, ⟨by decide, by decide, by decide⟩, _, _, rfl, rfl, _, rfl, qq _ (fun _ => trivial) fun _ => trivial⟩)))))
  · exact run_ret (ev_op op_fdiv (ev_v 4 (ev_int ⟨_, _, rfl, rfl, ⟨by decide, by decide⟩, q _ _ s2⟩)))
  refine run_set 5 nd (ev_int ?_)
  refine run_forR1 T.range (ev_int ⟨60, rfl, by decide, by decide, loop_range (n := 60) (fun _ σ H3 => H3 = H2 ∧ ∃ (x : Int) (u v : Option V), σ = [some (.ref a), some (.int k), some (.ref p), some (.ref p2), some (.int b), some (.int x), u, v]) ⟨rfl, 0, _, _, rfl⟩ ?_ ?_⟩)
  · rintro i σ H3 hi ⟨rfl, x, u, v, rfl⟩
    have i9 : 0 ≤ (0 + (i : Int)) % 9 := Int.emod_nonneg _ (by decide)
    obtain ⟨m1, f1, g1, g2⟩ := at_bys (i := (0 + (i : Int)) % 8) (Int.emod_nonneg _ (by decide)) (Int.emod_lt_of_pos _ (by decide))
    obtain ⟨m2, f2, g3, g4⟩ := at_prs (i := (0 + (i : Int)) % 8) (Int.emod_nonneg _ (by decide)) (Int.emod_lt_of_pos _ (by decide))
    refine eg_name 6 nd ?_
    refine run_set 7 nd (ev_op op_add (ev_op op_add (ev_op op_mod (ev_call G hr mG kG bG pass0 (ea_cons (ev_v 0 (ea_cons (ev_op op_add (ev_v 1 (ev_op op_mod (ev_v 6 (ev_int ?_))))))))))))
    refine ⟨_, _, rfl, rfl, (by show (0 : Int) < 9; decide), _, _, rfl, rfl, ea_nil ⟨a, ns, _, rfl, s2.seq hS, ?_, fun c => ?_⟩⟩
    · show 0 ≤ k + (0 + (i : Int)) % 9
      omega
    refine ev_op op_pow (ev_int (ev_int ⟨_, _, rfl, rfl, ⟨by decide, by decide, by decide⟩, _, _, rfl, rfl, (by show (0 : Int) < 10 ^ (18 : Int).toNat; decide), ev_int ⟨_, _, rfl, rfl, ?_⟩⟩))
    refine ev_op op_mul (ev_v 6 (ev_v 6 ?_))
    refine ⟨_, _, rfl, rfl, .inl ⟨by omega, by omega⟩, _, _, rfl, rfl, ?_⟩
    refine run_set 5 nd (ev_op op_add (ev_op op_mul (ev_v 5 (ev_int ⟨_, _, rfl, rfl, .inr ⟨by decide, by decide⟩, ?_⟩))))
    refine ev_op op_mod (ev_op op_mod (ev_op op_mul (ev_v 7 (ev_ix ix_tup (ev_v 2 (ev_op op_mod (ev_v 6 (ev_int ⟨_, _, rfl, rfl, (by show (0 : Int) < 8; decide), p, _, _, _, rfl, rfl, SqT.of e1, f1, _, _, rfl, rfl, .inr ⟨by omega, by omega⟩, ?_⟩))))))))
    refine ev_ix ix_tup (ev_v 3 (ev_op op_mod (ev_v 6 (ev_int ⟨_, _, rfl, rfl, (by show (0 : Int) < 8; decide), p2, _, _, _, rfl, rfl, SqT.of e2, f2, _, _, rfl, rfl, g3, ev_int ⟨_, _, rfl, rfl, (by show (0 : Int) < 7919; decide), _, _, rfl, rfl, ?_⟩⟩))))
    exact run_nil ⟨rfl, _, _, _, rfl⟩
  · rintro σ H3 ⟨rfl, x, u, v, rfl⟩
    exact run_ret (ev_v 5 (q x _ s2))
abbrev NN : List Str := ["_law_stem", "_law_many", "_law_signs", "_law_size", "_law_spot", "_law_names_here", "_law_v", "_law_name", "_law_k", "_law_turn"]
theorem scNames : FnScope NN ["_law_stem", "_law_many"] (defScope sNames) := ⟨rfl, rfl, rfl, by decide +kernel, rfl, by decide +kernel, by decide +kernel⟩
theorem ok_names {f : Addr} {fd : FuncData} (F : Fun K "_law_names" "_law_names" sNames f fd) (T : Txt mg) : FnOk P w K mg base CX0 1 f fd ["_law_stem", "_law_many"] spNames := by
  refine F.go scNames (fun vs H Q E h => ?_) (fun cdv A outer s H vs Q E hr h => ?_)
  · obtain ⟨b, m, rfl, _⟩ := h
    rfl
  obtain ⟨b, m, rfl, m0, m1, q⟩ := h
  have nd := scNames.nd
  have s0 : 0 ≤ b % 8 := Int.emod_nonneg _ (by decide)
  have s1 : b % 8 < 8 := Int.emod_lt_of_pos _ (by decide)
  show Run _ _ _ [some (.int b), some (.int m), none, none, none, none, none, none, none, none] H
  refine run_set 2 nd (ev_str ?_)
  refine run_set 3 nd (ev_op op_add (ev_int (ev_op op_mod (ev_v 0 (ev_int ⟨_, _, rfl, rfl, (by show (0 : Int) < 8; decide), _, _, rfl, rfl, ?_⟩)))))
  refine run_set 4 nd (ev_op op_mod (ev_op op_fdiv (ev_v 0 (ev_int ⟨_, _, rfl, rfl, ⟨by decide, by decide⟩, ev_v 3 ⟨_, _, rfl, rfl, (by show 0 < 1 + b % 8; omega), ?_⟩⟩))))
  refine run_set 5 nd (ev_lst (ea_nil ⟨(by show 0 ≤ sizeLine; decide), fun l hl => ?_⟩))
  show Run _ _ _ [some (.int b), some (.int m), some (.str lets), some (.int (1 + b % 8)), some (.int (b / 8 % (1 + b % 8))), some (.ref l), none, none, none, none] _
  have spE : b / 8 % (1 + b % 8) = b / 8 % (1 + b % 8) := rfl
  refine run_forR1 T.range (ev_v 1 ⟨m, rfl, by omega, by omega, loop_range (n := m.toNat) (fun i σ H3 => H3 = upd H l (Ls (namesOf b i)) ∧ ∃ u1 u2 u3 u4, σ = [some (.int b), some (.int m), some (.str lets), some (.int (1 + b % 8)), some (.int (b / 8 % (1 + b % 8))), some (.ref l), u1, u2, u3, u4]) ⟨rfl, _, _, _, _, rfl⟩ ?_ ?_⟩)
  · rintro i σ H3 hi ⟨rfl, u1, u2, u3, u4, rfl⟩
    refine eg_name 6 nd ?_
    refine run_set 7 nd (ev_str ?_)
    refine run_forR1 T.range (ev_v 3 ⟨_, rfl, by omega, by omega, loop_range (n := (1 + b % 8).toNat) (fun j σ H4 => H4 = upd H l (Ls (namesOf b i)) ∧ ∃ (u3 u4 : Option V), σ = [some (.int b), some (.int m), some (.str lets), some (.int (1 + b % 8)), some (.int (b / 8 % (1 + b % 8))), some (.ref l), some (.int (0 + (i : Int))), some (.str (nm b (b / 8 % (1 + b % 8)) i j)), u3, u4]) ⟨rfl, _, _, rfl⟩ ?_ ?_⟩)
    · rintro j σ H4 hj ⟨rfl, v3, v4, rfl⟩
      have t0 : 0 ≤ b / 7 % 5 := Int.emod_nonneg _ (by decide)
      have t1 : b / 7 % 5 < 5 := Int.emod_lt_of_pos _ (by decide)
      have nl : (nm b (b / 8 % (1 + b % 8)) i j).length = j := by
        have := congrArg List.length (nm_list b (b / 8 % (1 + b % 8)) i j)
        show (nm b (b / 8 % (1 + b % 8)) i j).cps.size = j
        simpa using this
      refine eg_name 8 nd ?_
      refine run_set 9 nd (ev_op op_add (ev_op op_fdiv (ev_v 0 (ev_int ⟨_, _, rfl, rfl, ⟨by decide, by decide⟩, ev_op op_mul (ev_v 8 (ev_op op_mod (ev_op op_fdiv (ev_v 0 (ev_int ⟨_, _, rfl, rfl, ⟨by decide, by decide⟩, ev_int ⟨_, _, rfl, rfl, (by show (0 : Int) < 5; decide), ?_⟩⟩)))))⟩))))
      refine ⟨_, _, rfl, rfl, .inr ⟨by omega, by omega⟩, _, _, rfl, rfl, ?_⟩
      refine run_ifM ((0 + (j : Int)) = b / 8 % (1 + b % 8)) (¬ (0 + (j : Int)) = b / 8 % (1 + b % 8)) (fun σ' H' => H' = upd H l (Ls (namesOf b i)) ∧ σ' = [some (.int b), some (.int m), some (.str lets), some (.int (1 + b % 8)), some (.int (b / 8 % (1 + b % 8))), some (.ref l), some (.int (0 + (i : Int))), some (.str (nm b (b / 8 % (1 + b % 8)) i j)), some (.int (0 + (j : Int))), some (.int (turn b (b / 8 % (1 + b % 8)) i j))]) (fun R qq => ?_) (fun hc => ?_) (fun hc => run_nil ⟨rfl, ?_⟩) ?_
      · refine et_cmp op_eq (ev_v 8 (ev_v 4 ⟨rfl, _, rfl, ?_⟩))
        by_cases hc : (0 + (j : Int)) = b / 8 % (1 + b % 8)
        · rw [decide_eq_true (show V.int (0 + (j : Int)) = V.int (b / 8 % (1 + b % 8)) by rw [hc])]
          exact qq true (fun _ => hc) fun h => by cases h
        · rw [decide_eq_false fun h => hc (V.int.inj h)]
          exact qq false (fun h => by cases h) fun _ => hc
      · refine run_set 9 nd (ev_op op_add (ev_v 9 (ev_v 6 ⟨_, _, rfl, rfl, run_nil ⟨rfl, ?_⟩⟩)))
        have e : b / 64 + (0 + (j : Int)) * (b / 7 % 5) + (0 + (i : Int)) = turn b (b / 8 % (1 + b % 8)) i j := by
          unfold turn
          rw [if_pos (by omega), Int.zero_add, Int.zero_add]
        rw [← e]
        rfl
      · have e : b / 64 + (0 + (j : Int)) * (b / 7 % 5) = turn b (b / 8 % (1 + b % 8)) i j := by
          unfold turn
          rw [if_neg (by omega), Int.zero_add, Int.add_zero]
        rw [← e]
        rfl
      · rintro σ' H' ⟨rfl, rfl⟩
        refine run_set 7 nd (ev_op op_add_str (ev_v 7 (ev_ix ix_str (ev_v 2 (ev_op op_mod (ev_v 9 (ev_int ⟨_, _, rfl, rfl, (by show (0 : Int) < 36; decide), lets, _, sgn (turn b (b / 8 % (1 + b % 8)) i j), rfl, rfl, by decide +kernel, sgn_at _, _, _, rfl, rfl, small (by show (nm b (b / 8 % (1 + b % 8)) i j).length + 1 ≤ 100000; omega), run_nil ⟨rfl, _, _, rfl⟩⟩)))))))
    · rintro σ H4 ⟨rfl, v3, v4, rfl⟩
      refine run_ifM (b % 3 = 2) (¬ b % 3 = 2) (fun σ' H' => H' = upd H l (Ls (namesOf b i)) ∧ σ' = [some (.int b), some (.int m), some (.str lets), some (.int (1 + b % 8)), some (.int (b / 8 % (1 + b % 8))), some (.ref l), some (.int (0 + (i : Int))), some (.str (nameOf b i)), v3, v4]) (fun R qq => ?_) (fun hc => ?_) (fun hc => run_nil ⟨rfl, ?_⟩) ?_
      · refine et_cmp op_eq (ev_op op_mod (ev_v 0 (ev_int ⟨_, _, rfl, rfl, (by show (0 : Int) < 3; decide), ev_int ⟨rfl, _, rfl, ?_⟩⟩)))
        by_cases hc : b % 3 = 2
        · rw [decide_eq_true (show V.int (b % 3) = V.int 2 by rw [hc])]
          exact qq true (fun _ => hc) fun h => by cases h
        · rw [decide_eq_false fun h => hc (V.int.inj h)]
          exact qq false (fun h => by cases h) fun _ => hc
      · have e0 : 0 ≤ (0 + (i : Int)) % 8 := Int.emod_nonneg _ (by decide)
        have e1 : (0 + (i : Int)) % 8 < 8 := Int.emod_lt_of_pos _ (by decide)
        refine run_set 7 nd (ev_op op_repS (ev_ix ix_str (ev_v 2 (ev_op op_mod (ev_op op_add (ev_op op_fdiv (ev_v 0 (ev_int ⟨_, _, rfl, rfl, ⟨by decide, by decide⟩, ev_op op_fdiv (ev_v 6 (ev_int ⟨_, _, rfl, rfl, ⟨by decide, by decide⟩, _, _, rfl, rfl, ev_int ⟨_, _, rfl, rfl, (by show (0 : Int) < 36; decide), lets, _, sgn (b / 64 + (0 + (i : Int)) / 8), rfl, rfl, by decide +kernel, sgn_at _, ?_⟩⟩))⟩))))))))
        refine ev_op op_add (ev_int (ev_op op_mod (ev_v 6 (ev_int ⟨_, _, rfl, rfl, (by show (0 : Int) < 8; decide), _, _, rfl, rfl, ?_⟩))))
        refine ⟨_, _, rfl, rfl, by omega, by omega, ?_, run_nil ⟨rfl, ?_⟩⟩
        · show 1 * _ ≤ _
          omega
        · have e : Txt.mul ⟨#[sgn (b / 64 + (0 + (i : Int)) / 8)]⟩ (1 + (0 + (i : Int)) % 8) = nameOf b i := by
            unfold nameOf
            rw [if_pos hc, Int.zero_add]
          rw [← e]
          rfl
      · have e : nm b (b / 8 % (1 + b % 8)) i (1 + b % 8).toNat = nameOf b i := by
          unfold nameOf
          rw [if_neg hc]
        rw [← e]
      · rintro σ' H' ⟨rfl, rfl⟩
        refine run_expr (ev_append (ev_v 5 ⟨l, rfl, ⟨_, upd_same⟩, ev_v 7 ⟨_, upd_same, ?_, ?_⟩⟩))
        · rw [List.length_map, namesOf_len]
          exact small' (by omega)
        · rw [upd_upd]
          refine run_nil ⟨?_, _, _, _, _, rfl⟩
          rw [namesOf_succ]
          exact ls_app
  · rintro σ H3 ⟨rfl, u1, u2, u3, u4, rfl⟩
    exact run_ret (ev_v 5 (q l _ (same_new hl _) hl upd_same))
end
end C6
namespace C6
open PySem L2 Nt Sort2
section
variable {P : Program} {w : World} {K : PySem.W.Frag} {mg : Str → Option Value} {base : Heap}
theorem ty_dK {H : Hp} {d : Addr} {kvs : List (Key × V)} (h : H d = some (.dK kvs)) : tyV K "dict" (.ref d) H := Or.inr (Or.inr (Or.inl ⟨rfl, Or.inl ⟨kvs, h⟩⟩))
abbrev NS : List Str := ["_law_rows", "_law_seats_here", "_law_r", "_law_place"]
theorem scSeats : FnScope NS ["_law_rows"] (defScope sSeats) := ⟨rfl, rfl, rfl, by decide +kernel, rfl, by decide +kernel, by decide +kernel⟩
theorem ok_seats {f : Addr} {fd : FuncData} (F : Fun K "_law_seats" "_law_seats" sSeats f fd) (T : Txt mg) : FnOk P w K mg base CX0 1 f fd ["_law_rows"] spSeats := by
  refine F.go scSeats (fun vs H Q E h => ?_) (fun cdv A outer s H vs Q E hr h => ?_)
  · obtain ⟨R, as, n, rfl, _⟩ := h
    rfl
  obtain ⟨R, as, n, rfl, hR, hn, ht, q⟩ := h
  have nd := scSeats.nd
  have hal := hR.len
  show Run _ _ _ [some (.ref R), none, none, none] H
  refine run_set 1 nd (ev_dnewK fun d hd => ?_)
  refine run_forR1 T.range (ev_blt call_len_seq T.len boot_len (ea_cons (ev_v 0 (ea_nil ⟨R, _, rfl, .inl (SqL.of (same_new hd _ _ _ hR.lst)), _, rfl, by omega, by rw [List.length_map]; omega, ?_⟩))))
  rw [List.length_map, hal, Int.toNat_natCast]
  refine loop_range (fun r σ H3 => ∃ kvs ks A u1 u2, SeatsOn H H3 d (seats (n.take r)) kvs ks A ∧ σ = [some (.ref R), some (.ref d), u1, u2]) ⟨_, _, _, _, _, SeatsOn.start hd, rfl⟩ ?_ ?_
  · rintro r σ H3 hi ⟨kvs, ks, A', u1, u2, S, rfl⟩
    rw [Int.zero_add]
    refine eg_name 2 nd ?_
    obtain ⟨a, ea, eat, et, el, er⟩ := (hR.same S.same).at hi
    refine run_forR1 T.range (ev_blt call_len_seq T.len boot_len (ea_cons (ev_ix ix_tup (ev_ix ix_list (ev_v 0 (ev_v 2 ⟨R, _, _, .ref a.1, rfl, rfl, SqL.of (S.same _ _ hR.lst), eat, ev_int ⟨a.1, _, _, .ref a.2, rfl, rfl, SqT.of et, rfl, ea_nil ⟨a.2, _, rfl, .inl (SqL.of el), _, rfl, by omega, ?_, ?_⟩⟩⟩))))))
    · have : (row n r).length ≤ 1000 := by
        have h1 : (row n r).length ≤ (ties n).length := by
          exact row_le n r
        omega
      rw [List.length_map]
      omega
    rw [List.length_map, Int.toNat_natCast]
    refine loop_range (fun p σ H4 => ∃ kvs ks A u2, SeatsOn H H4 d (seats (n.take r) ++ rowSeats r ((row n r).take p) 0) kvs ks A ∧ σ = [some (.ref R), some (.ref d), some (.int (r : Int)), u2]) ⟨kvs, ks, A', _, by simpa [rowSeats] using S, rfl⟩ ?_ ?_
    · rintro p σ H4 hp ⟨kvs, ks, A', u2, S, rfl⟩
      rw [Int.zero_add]
      refine eg_name 3 nd ?_
      obtain ⟨a, ea, eat, et, el, er⟩ := (hR.same S.same).at hi
      have hz : (row n r)[p]? = some (row n r)[p] := List.getElem?_eq_getElem hp
      generalize (row n r)[p] = z at hz
      have next : seats (n.take r) ++ rowSeats r ((row n r).take (p + 1)) 0 = (seats (n.take r) ++ rowSeats r ((row n r).take p) 0) ++ [(z, (r, p))] := by
        rw [rowSeats_take hz, List.append_assoc]
      have hlen : kvs.length < sizeLine := by
        have h1 : ks.length ≤ 1000 := by
          refine Nat.le_trans (nodup_le (b := ties n) S.nodup fun y hy => ?_) ht
          have h2 := (S.mem y).mp hy
          cases hA : A' y with
          | none => rw [hA] at h2; cases h2
          | some pr =>
            obtain ⟨a2, ts2⟩ := pr
            have h3 := S.some' y a2 ts2 hA
            unfold posIn at h3
            obtain ⟨x, hx⟩ := List.exists_mem_of_ne_nil _ h3
            obtain ⟨⟨y2, e2⟩, hm, _⟩ := List.mem_map.mp hx
            rw [List.mem_filter, decide_eq_true_eq] at hm
            obtain ⟨hm, rfl⟩ := hm
            have : (y2, e2) ∈ seats n := by
              rcases List.mem_append.mp hm with hm | hm
              · have q1 := mem_seats.mp hm
                refine mem_seats.mpr ?_
                have q2 := row_lt q1
                unfold tieAt row at q1 ⊢
                rw [List.length_take] at q2
                rwa [List.getElem?_take_of_lt (by omega)] at q1
              · have q1 := mem_rowSeats.mp hm
                refine mem_seats.mpr ?_
                unfold tieAt
                rw [q1.1]
                have q3 := q1.2.2
                rw [Nat.sub_zero] at q3
                have q4 := (List.getElem?_eq_some_iff.mp q3).1
                rw [List.length_take] at q4
                rwa [List.getElem?_take_of_lt (by omega)] at q3
            exact tie_mem (mem_seats.mp this)
        have h2 := congrArg List.length S.keys
        rw [List.length_map, List.length_map] at h2
        exact small' (by omega)
      refine run_expr (ev_append (ev_m2 PySem.F.plainAttrs_dict PySem.F.slot_dict_setdefault PySem.F.type_dict_setdefault mt_setdef (ev_v 1 ⟨ty_dK S.dict, ev_ix ix_list (ev_ix ix_tup (ev_ix ix_list (ev_v 0 (ev_v 2 ⟨R, _, _, .ref a.1, rfl, rfl, SqL.of (S.same _ _ hR.lst), eat, ev_int ⟨a.1, _, _, .ref a.2, rfl, rfl, SqT.of et, rfl, ev_v 3 ⟨a.2, _, _, .str z, rfl, rfl, SqL.of el, at_strs hz, ?_⟩⟩⟩))))⟩)))
      refine ev_lst (ea_nil ⟨(by show 0 ≤ sizeLine; decide), fun l0 hl0 => ?_⟩)
      have hdl : d ≠ l0 := ne_of_none S.dict hl0
      refine ⟨d, kvs, Sum.inr z, .ref l0, rfl, rfl, by rw [upd_ne hdl]; exact S.dict, hlen, ?_⟩
      cases hA : A' z with
      | some pr =>
        obtain ⟨a2, ts2⟩ := pr
        obtain ⟨q1, q2, q3, q4⟩ := S.at' z a2 ts2 hA
        have hla : a2 ≠ l0 := ne_of_none q3 hl0
        refine .inl ⟨.ref a2, by rw [S.val z, hA]; rfl, a2, rfl, ⟨_, by rw [upd_ne hla]; exact q3⟩, ?_⟩
        refine ev_tup (ea_cons (ev_v 2 (ea_cons (ev_v 3 (ea_nil ⟨(by show 2 ≤ sizeLine; decide), fun t ht2 => ?_⟩)))))
        have hta : a2 ≠ t := fun e => by rw [← e, upd_ne hla, q3] at ht2; cases ht2
        refine ⟨ts2.map V.ref, by rw [upd_ne hta, upd_ne hla]; exact q3, ?_, ?_⟩
        · rw [List.length_map, q4.length]
          have h1 : (posIn (seats (n.take r) ++ rowSeats r ((row n r).take p) 0) z).length ≤ 100000 := by
            unfold posIn
            rw [List.length_map]
            refine Nat.le_trans (List.length_filter_le _ _) ?_
            rw [List.length_append]
            have h2 : (seats (n.take r)).length ≤ 1000 := by
              have := congrArg List.length (seats_names (n.take r) 0)
              rw [List.length_map] at this
              unfold seats
              rw [this]
              exact Nat.le_trans (ties_take_le n r) ht
            have h3 : (rowSeats r ((row n r).take p) 0).length ≤ 1000 := by
              unfold rowSeats
              rw [List.length_map, List.length_zipIdx, List.length_take]
              have h1 : (row n r).length ≤ (ties n).length := by
                exact row_le n r
              omega
            omega
          exact small' h1
        · refine run_nil ⟨kvs, ks, (fun y => if y = z then some (a2, ts2 ++ [t]) else A' y), _, ?_, rfl⟩
          rw [next]
          exact S.old (e := (r, p)) hA hl0 ht2
      | none =>
        refine .inr ⟨by rw [S.val z, hA]; rfl, l0, rfl, ⟨_, by rw [upd_ne hdl.symm]; exact upd_same⟩, ?_⟩
        refine ev_tup (ea_cons (ev_v 2 (ea_cons (ev_v 3 (ea_nil ⟨(by show 2 ≤ sizeLine; decide), fun t ht2 => ?_⟩)))))
        have htl : l0 ≠ t := fun e => by rw [← e, upd_ne hdl.symm, upd_same] at ht2; cases ht2
        refine ⟨[], by rw [upd_ne htl, upd_ne hdl.symm, upd_same], by show 0 < sizeLine; decide, ?_⟩
        refine run_nil ⟨putK kvs (Sum.inr z) (.ref l0), ks ++ [z], (fun y => if y = z then some (l0, [t]) else A' y), _, ?_, rfl⟩
        rw [next]
        exact S.new (e := (r, p)) hA hl0 ht2
    · rintro σ H4 ⟨kvs, ks, A', u2, S, rfl⟩
      refine run_nil ⟨kvs, ks, A', _, _, ?_, rfl⟩
      rw [seats_take hi]
      rwa [List.take_length] at S
  · rintro σ H3 ⟨kvs, ks, A', u1, u2, S, rfl⟩
    rw [List.take_length] at S
    exact run_ret (ev_v 1 (q d ks H3 S.same S.free S.whole))
abbrev NO : List Str := ["_law_rows", "_law_seats_here", "_law_end", "_law_pair"]
theorem scOther : FnScope NO ["_law_rows", "_law_seats_here", "_law_end"] (defScope sOther) := ⟨rfl, rfl, rfl, by decide +kernel, rfl, by decide +kernel, by decide +kernel⟩
theorem ok_other {f : Addr} {fd : FuncData} (F : Fun K "_law_other" "_law_other" sOther f fd) (T : Txt mg) : FnOk P w K mg base CX0 1 f fd ["_law_rows", "_law_seats_here", "_law_end"] spOther := by
  refine F.go scOther (fun vs H Q E h => ?_) (fun cdv A outer s H vs Q E hr h => ?_)
  · obtain ⟨R, d, t, as, n, ks, e, rfl, _⟩ := h
    rfl
  obtain ⟨R, d, t, as, n, ks, e, rfl, hR, hS, hT, ht, he, q⟩ := h
  have nd := scOther.nd
  have hu : (A.deeper (PyProof.Rows.envOfC "_law_other" (defScope sOther) s.heap.objs.size f cdv)).units + 100 < cLine := by have := hr.un; omega
  obtain ⟨z, hz⟩ := mem_ends.mp he
  have hlt := row_lt hz
  obtain ⟨a, ea, eat, et, el, er⟩ := hR.at hlt
  obtain ⟨kvs, h1, h2, h3⟩ := hS.dict
  obtain ⟨pa, ts, v1, v2, v3⟩ := h3 z (tie_mem hz)
  obtain ⟨x, y, hp, hxy, hor⟩ := pos_two hT hz
  rw [hp] at v3
  cases v3 with
  | cons x1 v3 =>
  cases v3 with
  | cons y1 v3 =>
  cases v3
  rename_i tx ty
  show Run _ _ _ [some (.ref R), some (.ref d), some (.ref t), none] H
  have hu1 : (A.deeper (PyProof.Rows.envOfC "_law_other" (defScope sOther) s.heap.objs.size f cdv)).units + 1 < cLine := by omega
  refine run_set 3 nd (ev_dget hu1 (ev_v 1 (ev_ix ix_list (ev_ix ix_tup (ev_ix ix_list (ev_v 0 (ev_ix ix_tup (ev_v 2 (ev_int ⟨t, _, _, .int (e.1 : Int), rfl, rfl, SqT.of ht, rfl, R, _, _, .ref a.1, rfl, rfl, SqL.of hR.lst, eat, ev_int ⟨a.1, _, _, .ref a.2, rfl, rfl, SqT.of et, rfl, ?_⟩⟩)))))))))
  refine ev_ix ix_tup (ev_v 2 (ev_int ⟨t, _, _, .int (e.2 : Int), rfl, rfl, SqT.of ht, rfl, a.2, _, _, .str z, rfl, rfl, SqL.of el, at_strs hz, d, .ref pa, rfl, by rw [← v1]; exact DGet.k (k := Sum.inr z) h1, ?_⟩))
  show Run _ _ _ [some (.ref R), some (.ref d), some (.ref t), some (.ref pa)] H
  refine run_ret (ev_ix ix_list (ev_v 3 (ev_typ call_intB T.tint PyProof.Rows.boot_int (ea_cons (ev_cmp (op_eqD hu) (ev_ix ix_list (ev_v 3 (ev_int ⟨pa, _, _, .ref tx, rfl, rfl, SqL.of v2, rfl, ev_v 2 ⟨1, _, by decide, rcD_tp x1 ht, ?_⟩⟩))))))))
  by_cases c : x = e
  · rw [decide_eq_true c]
    refine ea_nil ⟨_, rfl, pa, [.ref tx, .ref ty], 1, .ref ty, rfl, rfl, SqL.of v2, rfl, q ty ?_⟩
    have e1 : other n e = y := by unfold other; simp only [hz, hp]; simp [c]
    rw [e1]
    exact y1
  · rw [decide_eq_false c]
    refine ea_nil ⟨_, rfl, pa, [.ref tx, .ref ty], 0, .ref tx, rfl, rfl, SqL.of v2, rfl, q tx ?_⟩
    have e1 : other n e = x := by unfold other; simp only [hz, hp]; simp [c]
    rw [e1]
    exact x1
abbrev NT : List Str := ["_law_rows", "_law_seats_here", "_law_end", "_law_turn", "_law_other_here"]
theorem scStep : FnScope NT ["_law_rows", "_law_seats_here", "_law_end", "_law_turn"] (defScope sStep) := ⟨rfl, rfl, rfl, by decide +kernel, rfl, by decide +kernel, by decide +kernel⟩
theorem ok_step {f g : Addr} {fd gd : FuncData} (F : Fun K "_law_step" "_law_step" sStep f fd) (T : Txt mg) (G : FnOk P w K mg base CX0 1 g gd ["_law_rows", "_law_seats_here", "_law_end"] spOther) (bG : Binds K gd ["_law_rows", "_law_seats_here", "_law_end"] []) (kG : PySem.W.keepIn K (.ref g) = true) (mG : mg "_law_other" = some (.ref g)) :
    FnOk P w K mg base CX0 2 f fd ["_law_rows", "_law_seats_here", "_law_end", "_law_turn"] spStep := by
  refine F.go scStep (fun vs H Q E h => ?_) (fun cdv A outer s H vs Q E hr h => ?_)
  · obtain ⟨R, d, t, as, n, ks, e, rfl, _⟩ := h
    rfl
  obtain ⟨R, d, t, as, n, ks, e, rfl, hR, hS, hT, ht, he, q⟩ := h
  have nd := scStep.nd
  have ho := other_end hT he
  obtain ⟨z, hz⟩ := mem_ends.mp ho
  have hlt := row_lt hz
  have hpl := end_lt hz
  obtain ⟨a, ea, eat, et, el, er⟩ := hR.at hlt
  show Run _ _ _ [some (.ref R), some (.ref d), some (.ref t), some (.int 1), none] H
  refine run_set 4 nd (ev_call G hr mG kG bG pass0 (ea_cons (ev_v 0 (ea_cons (ev_v 1 (ea_cons (ev_v 2 (ea_nil ⟨R, d, t, as, n, ks, e, rfl, hR, hS, hT, ht, he, fun u hu => ?_⟩))))))))
  show Run _ _ _ [some (.ref R), some (.ref d), some (.ref t), some (.int 1), some (.ref u)] H
  refine run_ret (ev_tup (ea_cons (ev_ix ix_tup (ev_v 4 (ev_int ⟨u, _, _, .int ((other n e).1 : Int), rfl, rfl, SqT.of hu, rfl, ?_⟩)))))
  refine ea_cons (ev_op op_mod (ev_op op_add (ev_ix ix_tup (ev_v 4 (ev_int ⟨u, _, _, .int ((other n e).2 : Int), rfl, rfl, SqT.of hu, rfl, ev_v 3 ⟨_, _, rfl, rfl, ?_⟩⟩)))))
  refine ev_blt call_len_seq T.len boot_len (ea_cons (ev_ix ix_tup (ev_ix ix_list (ev_v 0 (ev_ix ix_tup (ev_v 4 (ev_int ⟨u, _, _, .int ((other n e).1 : Int), rfl, rfl, SqT.of hu, rfl, R, _, _, .ref a.1, rfl, rfl, SqL.of hR.lst, eat, ev_int ⟨a.1, _, _, .ref a.2, rfl, rfl, SqT.of et, rfl, ea_nil ⟨a.2, _, rfl, .inl (SqL.of el), ?_⟩⟩⟩)))))))
  rw [List.length_map]
  refine ⟨_, _, rfl, rfl, by omega, ea_nil ⟨(by show 2 ≤ sizeLine; decide), fun p hp => ?_⟩⟩
  refine q p _ (same_new hp _) hp ?_
  rw [upd_same]
  unfold Nt.step Nt.left
  show some (HO.tup [.int ((other n e).1 : Int), .int ((((other n e).2 : Int) + 1) % ((row n (other n e).1).length : Int))]) = some (HO.tup [.int ((other n e).1 : Int), .int ((((other n e).2 + 1) % (row n (other n e).1).length : Nat) : Int)])
  rw [Int.natCast_emod]
  rfl
abbrev NF : List Str := ["_law_rows", "_law_seats_here", "_law_end", "_law_face_here", "_law_here"]
theorem scFace : FnScope NF ["_law_rows", "_law_seats_here", "_law_end"] (defScope sFace) := ⟨rfl, rfl, rfl, by decide +kernel, rfl, by decide +kernel, by decide +kernel⟩
def orb (n : Net) (e : Nt.End) (j : Nat) : List Nt.End := (List.range j).map fun i => it (step n) i e
theorem orb_succ (n : Net) (e : Nt.End) (j : Nat) : orb n e (j + 1) = orb n e j ++ [it (step n) j e] := by
  unfold orb
  rw [List.range_succ, List.map_append]
  rfl
theorem ok_face {f g : Addr} {fd gd : FuncData} (F : Fun K "_law_face" "_law_face" sFace f fd) (T : Txt mg) (G : FnOk P w K mg base CX0 2 g gd ["_law_rows", "_law_seats_here", "_law_end", "_law_turn"] spStep) (bG : Binds K gd ["_law_rows", "_law_seats_here", "_law_end", "_law_turn"] []) (kG : PySem.W.keepIn K (.ref g) = true) (mG : mg "_law_step" = some (.ref g)) :
    FnOk P w K mg base CX0 3 f fd ["_law_rows", "_law_seats_here", "_law_end"] spFace := by
  refine F.go scFace (fun vs H Q E h => ?_) (fun cdv A outer s H vs Q E hr h => ?_)
  · obtain ⟨R, d, t, as, n, ks, e, rfl, _⟩ := h
    rfl
  obtain ⟨R, d, t, as, n, ks, e, rfl, hR, hS, hT, ht, he, hb, q⟩ := h
  have nd := scFace.nd
  have hu : (A.deeper (PyProof.Rows.envOfC "_law_face" (defScope sFace) s.heap.objs.size f cdv)).units + 100 < cLine := by have := hr.un; omega
  obtain ⟨k, k0, k1, k2⟩ := comes_back (f := step n) (S := ends n) (fun a ha => step_end hT ha) (fun a ha b hb => step_inj hT ha hb) he
  show Run _ _ _ [some (.ref R), some (.ref d), some (.ref t), none, none] H
  refine run_set 3 nd (ev_lst (ea_cons (ev_v 2 (ea_nil ⟨(by show 1 ≤ sizeLine; decide), fun l hl => ?_⟩))))
  have g1 := same_new hl (.lst [.ref t])
  refine run_set 4 nd (ev_call G hr mG kG bG pass0 (ea_cons (ev_v 0 (ea_cons (ev_v 1 (ea_cons (ev_v 2 (ea_cons (ev_int (ea_nil ⟨R, d, t, as, n, ks, e, rfl, hR.same g1, hS.same g1, hT, g1 _ _ ht, he, fun u H1 s1 nu eu => ?_⟩))))))))))
  show Run _ _ _ [some (.ref R), some (.ref d), some (.ref t), some (.ref l), some (.ref u)] H1
  refine run_while (fun m σ H2 => ∃ (j : Nat) (ts : List Addr) (u : Addr), m = k - j ∧ 0 < j ∧ j ≤ k ∧ Same H H2 ∧ H2 l = some (.lst (ts.map V.ref)) ∧ Pd H2 ts (orb n e j) ∧ H2 u = some (Tp (it (step n) j e)) ∧ (∀ i, 0 < i → i < j → it (step n) i e ≠ e) ∧ σ = [some (.ref R), some (.ref d), some (.ref t), some (.ref l), some (.ref u)])
    (m0 := k - 1) ⟨1, [t], u, rfl, Nat.one_pos, k0, g1.trans s1, s1 _ _ upd_same, .cons (s1 _ _ (g1 _ _ ht)) .nil, eu, fun i h1 h2 => by omega, rfl⟩ ?_
  rintro m σ H2 ⟨j, ts, u, rfl, j0, j1, sH, el, ep, eu, hf, rfl⟩
  refine et_cmp (op_neD hu) (ev_v 4 (ev_v 2 ⟨1, _, by decide, rnD_tp eu (sH _ _ ht), _, rfl, ?_⟩))
  have pl := ep.length
  have ol : (orb n e j).length = j := by unfold orb; simp
  by_cases c : it (step n) j e = e
  · rw [decide_eq_true c]
    refine iteF (run_ret (ev_v 3 (q l ts (orb n e j) H2 sH hl el ep ⟨by omega, by omega, fun i hi => ?_, by rw [ol]; exact c, fun i h1 h2 => hf i h1 (by omega)⟩)))
    unfold orb
    rw [List.getElem?_map, List.getElem?_range (by omega)]
    rfl
  · rw [decide_eq_false c]
    have jk : j < k := by
      rcases Nat.lt_or_ge j k with h | h
      · exact h
      · have : j = k := by omega
        subst this
        exact absurd k2 c
    refine iteT (run_expr (ev_append (ev_v 3 ⟨l, rfl, ⟨_, el⟩, ev_v 4 ⟨_, el, by rw [List.length_map]; exact small' (by omega), ?_⟩⟩)))
    have s2 : Same H (upd H2 l (.lst (ts.map V.ref ++ [.ref u]))) := same_mut sH hl
    have kt : ∀ b f, H2 b = some (Tp f) → (upd H2 l (.lst (ts.map V.ref ++ [.ref u]))) b = some (Tp f) := fun b f h => by
      rw [upd_ne (tp_ne_lst h el)]
      exact h
    have eu2 := kt u _ eu
    refine run_set 4 nd (ev_call G hr mG kG bG pass0 (ea_cons (ev_v 0 (ea_cons (ev_v 1 (ea_cons (ev_v 4 (ea_cons (ev_int (ea_nil ⟨R, d, u, as, n, ks, it (step n) j e, rfl, hR.same s2, hS.same s2, hT, eu2, it_mem (fun a ha => step_end hT ha) he j, fun v H3 s3 nv ev => ?_⟩))))))))))
    refine run_nil ⟨k - (j + 1), by omega, j + 1, ts ++ [u], v, rfl, Nat.succ_pos _, jk, s2.trans s3, ?_, ?_, ev, fun i h1 h2 => ?_, rfl⟩
    · rw [List.map_append]
      exact s3 _ _ upd_same
    · rw [orb_succ]
      exact (ep.keep fun b f h => s3 _ _ (kt b f h)).append (.cons (s3 _ _ eu2) .nil)
    · rcases Nat.lt_succ_iff_lt_or_eq.mp h2 with h | h
      · exact hf i h1 h
      · rw [h]; exact c
end
end C6
namespace Nt
open PySem L2
def Full (n : Net) : Prop := (∃ nm, n = [(nm, [])]) ∨ (n ≠ [] ∧ ∀ i, i < n.length → row n i ≠ [])
def Corner (n : Net) (c : End) : Prop := c.1 < n.length ∧ c.2 < max 1 (row n c.1).length
def ins (n : Net) (c : End) (z : Str) : Net := n.modify c.1 fun r => (r.1, r.2.take c.2 ++ z :: r.2.drop c.2)
theorem ins_len (n : Net) (c : End) (z : Str) : (ins n c z).length = n.length := by unfold ins; rw [List.length_modify]
theorem ins_names (n : Net) (c : End) (z : Str) : (ins n c z).map (·.1) = n.map (·.1) := by
  unfold ins
  refine List.ext_getElem? fun i => ?_
  rw [List.getElem?_map, List.getElem?_map, List.getElem?_modify]
  cases n[i]? with
  | none => rfl
  | some r => by_cases h : c.1 = i <;> simp [h]
theorem row_ins (n : Net) (c : End) (z : Str) (i : Nat) (hc : c.1 < n.length) : row (ins n c z) i = if c.1 = i then (row n i).take c.2 ++ z :: (row n i).drop c.2 else row n i := by
  unfold row ins
  rw [List.getElem?_modify]
  by_cases h : c.1 = i
  · subst h
    rw [List.getElem?_eq_getElem hc]
    simp
  · rw [if_neg h]
    cases n[i]? with
    | none => simp [h]
    | some r => simp [h]
theorem ties_ins : ∀ (n : Net) (c : End) (z : Str), c.1 < n.length → (ties (ins n c z)).Perm (z :: ties n)
  | [], c, z, h => by simp at h
  | a :: n, (0, p), z, h => by
    unfold ins ties
    simp only [List.modify_zero_cons, List.flatMap_cons]
    have : (a.2.take p ++ z :: a.2.drop p).Perm (z :: a.2) := by
      refine List.perm_middle.trans ?_
      rw [List.take_append_drop]
    exact this.append_right _
  | a :: n, (i + 1, p), z, h => by
    have ih := ties_ins n (i, p) z (by simpa using h)
    unfold ins ties at ih ⊢
    simp only [List.modify_succ_cons, List.flatMap_cons]
    refine (ih.append_left a.2).trans ?_
    exact List.perm_middle
theorem full_ins {n : Net} {c : End} {z : Str} (F : Full n) (hc : c.1 < n.length) : n.length = 1 ∨ (∀ i, i < n.length → row n i ≠ []) → (∀ i, i < (ins n c z).length → row (ins n c z) i ≠ []) ∧ ins n c z ≠ [] := by
  intro h
  have hl := ins_len n c z
  refine ⟨fun i hi => ?_, fun e => ?_⟩
  · rw [row_ins n c z i hc]
    by_cases q : c.1 = i
    · rw [if_pos q]; simp
    · rw [if_neg q]
      rcases h with h | h
      · rw [hl] at hi
        omega
      · exact h i (by omega)
  · rw [e] at hl
    simp at hl
    omega
theorem Full.some {n : Net} (F : Full n) : n ≠ [] := by
  rcases F with ⟨nm, rfl⟩ | h
  · simp
  · exact h.1
theorem Full.either {n : Net} (F : Full n) : n.length = 1 ∨ (∀ i, i < n.length → row n i ≠ []) := by
  rcases F with ⟨nm, rfl⟩ | h
  · exact .inl rfl
  · exact .inr h.2
theorem Full.corner {n : Net} (F : Full n) (h0 : row n 0 ≠ []) {c : End} (hc : Corner n c) : c ∈ ends n := by
  rcases F with ⟨nm, rfl⟩ | h
  · exact absurd rfl h0
  · have := h.2 c.1 hc.1
    have hp : 0 < (row n c.1).length := List.length_pos_iff.mpr this
    have hlt : c.2 < (row n c.1).length := by
      have := hc.2
      omega
    exact mem_ends.mpr (end_of hlt)
theorem corner_of {n : Net} {e : End} (h : e ∈ ends n) : Corner n e := by
  obtain ⟨z, h⟩ := mem_ends.mp h
  have := end_lt h
  exact ⟨row_lt h, by omega⟩
def Keep (H H' : Hp) (bad : List Addr) : Prop := ∀ b o, H b = some o → b ∉ bad → H' b = some o
theorem ls_ins (zs : List Str) (i : Nat) (z : Str) : insertAt (zs.map V.str) i (.str z) = (zs.take i ++ z :: zs.drop i).map V.str := by
  unfold insertAt
  rw [List.map_append, List.map_cons, List.map_take, List.map_drop]
theorem RowsAt.ins {H : Hp} {R : Addr} {as : List (Addr × Addr)} {n : Net} (h : RowsAt H R as n) {c : End} {z : Str} {a : Addr × Addr} (ha : as[c.1]? = some a) (hc : c.1 < n.length) :
    RowsAt (upd H a.2 (Ls ((row n c.1).take c.2 ++ z :: (row n c.1).drop c.2))) R as (Nt.ins n c z) := by
  have q0 := h.tup c.1 a n[c.1] ha (List.getElem?_eq_getElem hc)
  have hRa : R ≠ a.2 := by
    intro e
    have h1 := h.lst
    rw [e, q0.2] at h1
    have h2 := HO.lst.inj (Option.some.inj h1)
    have h3 := congrArg List.length h2
    cases hm : n[c.1].2 with
    | nil =>
      rw [hm] at h2
      have : as.map (fun a => V.ref a.1) = [] := h2.symm
      have hl := congrArg List.length this
      rw [List.length_map, h.len] at hl
      rw [hl] at hc
      exact absurd hc (Nat.not_lt_zero _)
    | cons y r =>
      rw [hm] at h2
      cases as with
      | nil => simp at h2
      | cons b bs =>
        simp at h2
  have er : row n c.1 = n[c.1].2 := by unfold row; rw [List.getElem?_eq_getElem hc]; rfl
  refine ⟨by rw [ins_len]; exact h.len, by rw [upd_ne hRa]; exact h.lst, fun i b r hb hr => ?_, h.inj⟩
  unfold Nt.ins at hr
  rw [List.getElem?_modify] at hr
  cases hn : n[i]? with
  | none => rw [hn] at hr; by_cases q : c.1 = i <;> simp [q] at hr
  | some r0 =>
    rw [hn] at hr
    have q1 := h.tup i b r0 hb hn
    have t1 : b.1 ≠ a.2 := ne_of q1.1 q0.2 fun e => nomatch e
    by_cases q : c.1 = i
    · subst q
      rw [List.getElem?_eq_getElem hc] at hn
      cases hn
      rw [ha] at hb
      cases hb
      simp at hr
      subst hr
      refine ⟨by rw [upd_ne t1]; exact q1.1, ?_⟩
      rw [upd_same, er]
    · simp [q] at hr
      subst hr
      have t2 : b.2 ≠ a.2 := fun e => by
        have l1 : i < as.length := (List.getElem?_eq_some_iff.mp hb).1
        have l2 : c.1 < as.length := (List.getElem?_eq_some_iff.mp ha).1
        have x1 : (as.map (·.2))[i]? = some b.2 := by rw [List.getElem?_map, hb]; rfl
        have x2 : (as.map (·.2))[c.1]? = some a.2 := by rw [List.getElem?_map, ha]; rfl
        obtain ⟨y1, z1⟩ := List.getElem?_eq_some_iff.mp x1
        obtain ⟨y2, z2⟩ := List.getElem?_eq_some_iff.mp x2
        exact q ((List.getElem_inj (h₀ := y2) (h₁ := y1) h.inj).mp (z2.trans (e.symm.trans z1.symm)))
      exact ⟨by rw [upd_ne t1]; exact q1.1, by rw [upd_ne t2]; exact q1.2⟩
theorem RowsAt.more {H : Hp} {R t l : Addr} {as : List (Addr × Addr)} {n : Net} {pt : Str} {zs : List Str} (h : RowsAt H R as n) (ht : H t = some (.tup [.str pt, .ref l])) (hl : H l = some (Ls zs)) (hn : l ∉ as.map (·.2)) (hR : l ≠ R) :
    RowsAt (upd H R (.lst (as.map (fun a => V.ref a.1) ++ [.ref t]))) R (as ++ [(t, l)]) (n ++ [(pt, zs)]) := by
  have hal := h.len
  refine ⟨by rw [List.length_append, List.length_append, hal]; rfl, by rw [upd_same, List.map_append]; rfl, fun i b r hb hr => ?_, ?_⟩
  · rcases Nat.lt_or_ge i as.length with c | c
    · rw [List.getElem?_append_left c] at hb
      rw [List.getElem?_append_left (by omega)] at hr
      have q := h.tup i b r hb hr
      have t1 : b.1 ≠ R := ne_of q.1 h.lst fun e => nomatch e
      have t2 : b.2 ≠ R := by
        intro e
        have h1 := h.lst
        rw [← e, q.2] at h1
        have h2 := HO.lst.inj (Option.some.inj h1)
        cases as with
        | nil => simp at c
        | cons b' bs =>
          cases hm : r.2 with
          | nil => rw [hm] at h2; simp at h2
          | cons y r => rw [hm] at h2; simp at h2
      exact ⟨by rw [upd_ne t1]; exact q.1, by rw [upd_ne t2]; exact q.2⟩
    · have e : i = as.length := by
        have := (List.getElem?_eq_some_iff.mp hb).1
        rw [List.length_append] at this
        simp at this
        omega
      subst e
      rw [List.getElem?_append_right (Nat.le_refl _)] at hb
      rw [hal, List.getElem?_append_right (Nat.le_refl _)] at hr
      simp at hb hr
      subst hb hr
      have t1 : t ≠ R := ne_of ht h.lst fun e => nomatch e
      exact ⟨by rw [upd_ne t1]; exact ht, by rw [upd_ne hR]; exact hl⟩
  · rw [List.map_append, List.nodup_append]
    exact ⟨h.inj, by simp, fun x hx y hy e => by simp at hy; subst hy e; exact hn hx⟩
theorem RowsAt.lists {H : Hp} {R : Addr} {as : List (Addr × Addr)} {n : Net} (h : RowsAt H R as n) {x : Addr × Addr} (hx : x ∈ as) : ∃ zs, H x.2 = some (Ls zs) := by
  obtain ⟨i, hi, e⟩ := List.mem_iff_getElem.mp hx
  have hl := h.len
  exact ⟨_, (h.tup i x (n[i]'(by omega)) (by rw [← e]; exact List.getElem?_eq_getElem hi) (List.getElem?_eq_getElem (by omega))).2⟩
theorem RowsAt.fresh {H : Hp} {R l : Addr} {as : List (Addr × Addr)} {n : Net} (h : RowsAt H R as n) (hl : H l = none) {x : Addr × Addr} (hx : x ∈ as) : l ≠ x.2 := by
  obtain ⟨zs, e⟩ := h.lists hx
  exact (ne_of_none e hl).symm
theorem ends_len (n : Net) : (ends n).length = (ties n).length := by
  unfold ends seats
  rw [List.length_map, ← seats_names n 0, List.length_map]
theorem IsFace.ends {n : Net} (T : Twice n) {e : End} {fs : List End} (h : IsFace n e fs) (he : e ∈ ends n) : ∀ c ∈ fs, c ∈ Nt.ends n := by
  intro c hc
  obtain ⟨i, hi, e2⟩ := List.mem_iff_getElem.mp hc
  have := h.at' i hi
  rw [List.getElem?_eq_getElem hi, e2] at this
  rw [Option.some.inj this]
  exact it_mem (fun a ha => step_end T ha) he i
theorem corner_ins {n : Net} {c k : End} {z : Str} (hc : Corner n c) (hk : k.1 < n.length) : Corner (ins n k z) c := by
  refine ⟨by rw [ins_len]; exact hc.1, ?_⟩
  rw [row_ins n k z c.1 hk]
  have := hc.2
  split
  · rw [List.length_append, List.length_cons, List.length_take, List.length_drop]
    omega
  · exact this
end Nt
namespace Nt
open PySem L2
def dbl (zs : List Str) : List Str := zs.flatMap fun z => [z, z]
theorem dbl_count (y : Str) : ∀ zs : List Str, (dbl zs).count y = 2 * zs.count y
  | [] => rfl
  | z :: r => by
    unfold dbl
    rw [List.flatMap_cons]
    have ih := dbl_count y r
    unfold dbl at ih
    rw [List.count_append, ih, List.count_cons, List.count_cons, List.count_cons, List.count_nil]
    omega
theorem dbl_mem {y : Str} {zs : List Str} : y ∈ dbl zs ↔ y ∈ zs := by
  rw [← List.count_pos_iff, dbl_count, ← List.count_pos_iff]
  omega
theorem dbl_len : ∀ zs : List Str, (dbl zs).length = 2 * zs.length
  | [] => rfl
  | z :: r => by
    unfold dbl
    rw [List.flatMap_cons, List.length_append]
    have ih := dbl_len r
    unfold dbl at ih
    rw [ih, List.length_cons]
    simp
    omega
theorem dbl_snoc (zs : List Str) (z : Str) : dbl (zs ++ [z]) = dbl zs ++ [z, z] := by
  unfold dbl
  rw [List.flatMap_append]
  rfl
theorem twice_of {n : Net} {zs : List Str} (hn : zs.Nodup) (p : (ties n).Perm (dbl zs)) : Twice n := fun z hz => by
  rw [p.count_eq, dbl_count]
  have h1 : z ∈ zs := dbl_mem.mp (p.mem_iff.mp hz)
  rw [hn.count, if_pos h1]
def NE (n : Net) : Prop := ∀ r ∈ n, r.2 ≠ []
theorem row_eq {n : Net} {i : Nat} (h : i < n.length) : row n i = n[i].2 := by unfold row; rw [List.getElem?_eq_getElem h]; rfl
theorem ne_full {n : Net} (h : NE n) (h0 : n ≠ []) : Full n := .inr ⟨h0, fun i hi => by rw [row_eq hi]; exact h _ (List.getElem_mem hi)⟩
theorem Full.ne {n : Net} (h : Full n) : (∃ nm, n = [(nm, [])]) ∨ NE n := by
  rcases h with h | ⟨_, h⟩
  · exact .inl h
  · refine .inr fun r hr => ?_
    obtain ⟨i, hi, rfl⟩ := List.mem_iff_getElem.mp hr
    have := h i hi
    rwa [row_eq hi] at this
theorem ties_erase : ∀ (n : Net) (k : Nat) (h : k < n.length), (ties n).Perm (n[k].2 ++ ties (n.eraseIdx k))
  | [], k, h => by simp at h
  | a :: n, 0, h => by unfold ties; simp
  | a :: n, k + 1, h => by
    have ih := ties_erase n k (by simpa using h)
    unfold ties at ih ⊢
    simp only [List.flatMap_cons, List.getElem_cons_succ, List.eraseIdx_cons_succ]
    refine (ih.append_left a.2).trans ?_
    rw [← List.append_assoc, ← List.append_assoc]
    exact List.perm_append_comm.append_right _
theorem names_erase (n : Net) (k : Nat) (h : k < n.length) : (n.map (·.1)).Perm (n[k].1 :: (n.eraseIdx k).map (·.1)) := by
  have := (SetT.pick_perm n k h).map (·.1)
  exact this.symm
theorem rot_perm (zs : List Str) (i : Nat) : (zs.drop i ++ zs.take i).Perm zs := by
  refine List.perm_append_comm.trans ?_
  rw [List.take_append_drop]
theorem RowsAt.upd {H : Hp} {R x : Addr} {as : List (Addr × Addr)} {n : Net} (h : RowsAt H R as n) {xs : List V} {o : HO} (hx : H x = some (.lst xs)) (hR : R ≠ x) (ha : ∀ a ∈ as, a.2 ≠ x) : RowsAt (upd H x o) R as n := by
  refine ⟨h.len, by rw [upd_ne hR]; exact h.lst, fun i a r h1 h2 => ?_, h.inj⟩
  have q := h.tup i a r h1 h2
  exact ⟨by rw [upd_ne (ne_of q.1 hx fun e => nomatch e)]; exact q.1, by rw [upd_ne (ha a (List.mem_of_getElem? h1))]; exact q.2⟩
theorem erase_at {α : Type} (l : List α) (k i : Nat) : (l.eraseIdx k)[i]? = if i < k then l[i]? else l[i + 1]? := by
  rw [List.getElem?_eraseIdx]
theorem RowsAt.erase {H : Hp} {R : Addr} {as : List (Addr × Addr)} {n : Net} (h : RowsAt H R as n) {k : Nat} (hk : k < n.length) :
    RowsAt (L2.upd H R (.lst ((as.map fun a => V.ref a.1).eraseIdx k))) R (as.eraseIdx k) (n.eraseIdx k) := by
  have hl := h.len
  refine ⟨by rw [List.length_eraseIdx, List.length_eraseIdx, hl], ?_, fun i a r h1 h2 => ?_, ?_⟩
  · rw [upd_same]
    congr 2
    refine List.ext_getElem? fun i => ?_
    rw [erase_at, List.getElem?_map, List.getElem?_map, List.getElem?_map, erase_at]
    split <;> rfl
  · rw [erase_at] at h1 h2
    have q : H a.1 = some (.tup [.str r.1, .ref a.2]) ∧ H a.2 = some (Ls r.2) := by
      by_cases c : i < k
      · rw [if_pos c] at h1 h2
        exact h.tup i a r h1 h2
      · rw [if_neg c] at h1 h2
        exact h.tup (i + 1) a r h1 h2
    have t2 : a.2 ≠ R := by
      intro e
      have h3 := h.lst
      rw [← e, q.2] at h3
      have h4 := HO.lst.inj (Option.some.inj h3)
      cases as with
      | nil => simp at hl; simp [← hl] at hk
      | cons b bs =>
        cases hm : r.2 with
        | nil => rw [hm] at h4; simp at h4
        | cons y r => rw [hm] at h4; simp at h4
    exact ⟨by rw [upd_ne (ne_of q.1 h.lst fun e => nomatch e)]; exact q.1, by rw [upd_ne t2]; exact q.2⟩
  · have : ((as.eraseIdx k).map (·.2)).Sublist (as.map (·.2)) := (List.eraseIdx_sublist as k).map _
    exact h.inj.sublist this
theorem cut_from (zs : List Str) (i : Nat) : cutV (zs.map V.str) (some (i : Int)) none = (zs.drop i).map V.str := by
  unfold cutV
  rw [HT.sIx_nat, HT.sIx_none, List.length_map]
  rw [List.take_of_length_le (by rw [List.length_drop, List.length_map]; omega), List.map_drop]
  rcases Nat.le_total i zs.length with h | h
  · rw [Nat.min_eq_left h]
  · rw [Nat.min_eq_right h, List.drop_of_length_le (by simp), List.drop_of_length_le (by simpa using h)]
theorem cut_to (zs : List Str) (i : Nat) : cutV (zs.map V.str) none (some (i : Int)) = (zs.take i).map V.str := by
  unfold cutV
  rw [HT.sIx_nat, HT.sIx_none, List.length_map, List.drop_zero, Nat.sub_zero, List.map_take]
  rcases Nat.le_total i zs.length with h | h
  · rw [Nat.min_eq_left h]
  · rw [Nat.min_eq_right h, List.take_of_length_le (by simp), List.take_of_length_le (by simpa using h)]
end Nt
namespace Nt
open PySem L2
def nmA (n : Net) (r : Nat) : Str := ((n[r]?).map (·.1)).getD ⟨#[]⟩
theorem nmA_eq {n : Net} {r : Nat} (h : r < n.length) : nmA n r = n[r].1 := by unfold nmA; rw [List.getElem?_eq_getElem h]; rfl
abbrev Lk := Str × Str × Str
def IsLink (n : Net) (x : Lk) : Prop := ∃ a b, pos n x.1 = [a, b] ∧ x.2.1 = nmA n a.1 ∧ x.2.2 = nmA n b.1
structure LkI (n : Net) (done : List (Str × End)) (kM : List (Key × V)) (ls : List Lk) : Prop where
  m0 : ∀ z, posIn done z = [] → valV kM (Sum.inr z) = none
  m1 : ∀ z a rest, posIn done z = a :: rest → valV kM (Sum.inr z) = some (.str (nmA n a.1))
  mem : ∀ x : Lk, x ∈ ls ↔ ∃ a b rest, posIn done x.1 = a :: b :: rest ∧ x.2.1 = nmA n a.1 ∧ x.2.2 = nmA n b.1
  nod : (ls.map (·.1)).Nodup
  lenM : kM.length ≤ done.length
  lenL : ls.length ≤ done.length
theorem LkI.start (n : Net) : LkI n [] [] [] := ⟨fun _ _ => rfl, fun z a rest h => (by cases h), fun x => ⟨fun h => (by cases h), fun ⟨a, b, rest, h, _⟩ => (by cases h)⟩, List.nodup_nil, Nat.le_refl _, Nat.le_refl _⟩
theorem LkI.new {n : Net} {done : List (Str × End)} {kM : List (Key × V)} {ls : List Lk} (I : LkI n done kM ls) {z : Str} {e : End} (h0 : posIn done z = []) : LkI n (done ++ [(z, e)]) (putK kM (Sum.inr z) (.str (nmA n e.1))) ls := by
  refine ⟨fun y hy => ?_, fun y a rest hy => ?_, fun x => ?_, I.nod, ?_, ?_⟩
  · rw [posIn_snoc] at hy
    obtain ⟨h1, h2⟩ := List.append_eq_nil_iff.mp hy
    have hne : ¬ z = y := fun q => by rw [if_pos q] at h2; cases h2
    rw [valV_put, if_neg (fun q => hne (Sum.inr.inj q).symm)]
    exact I.m0 y h1
  · rw [posIn_snoc] at hy
    by_cases q : z = y
    · subst q
      rw [h0, if_pos rfl] at hy
      cases hy
      rw [valV_put, if_pos rfl]
    · rw [if_neg q, List.append_nil] at hy
      rw [valV_put, if_neg (fun p => q (Sum.inr.inj p).symm)]
      exact I.m1 y a rest hy
  · rw [I.mem x]
    by_cases q : z = x.1
    · constructor
      · rintro ⟨a, b, rest, h, _⟩
        rw [← q, h0] at h
        cases h
      · rintro ⟨a, b, rest, h, _⟩
        rw [posIn_snoc, ← q, h0, if_pos rfl] at h
        cases h
    · constructor
      · rintro ⟨a, b, rest, h, r⟩
        exact ⟨a, b, rest, by rw [posIn_snoc, if_neg q, List.append_nil]; exact h, r⟩
      · rintro ⟨a, b, rest, h, r⟩
        rw [posIn_snoc, if_neg q, List.append_nil] at h
        exact ⟨a, b, rest, h, r⟩
  · have := length_putK kM (Sum.inr z) (.str (nmA n e.1))
    have := I.lenM
    rw [List.length_append, List.length_singleton]
    omega
  · have := I.lenL
    rw [List.length_append, List.length_singleton]
    omega
theorem LkI.old {n : Net} {done : List (Str × End)} {kM : List (Key × V)} {ls : List Lk} (I : LkI n done kM ls) {z : Str} {a e : End} (h1 : posIn done z = [a]) : LkI n (done ++ [(z, e)]) kM (ls ++ [(z, nmA n a.1, nmA n e.1)]) := by
  have hz : posIn (done ++ [(z, e)]) z = [a, e] := by rw [posIn_snoc, h1, if_pos rfl]; rfl
  have hnz : z ∉ ls.map (·.1) := fun h => by
    obtain ⟨x, hx, ex⟩ := List.mem_map.mp h
    obtain ⟨b, c, rest, hp, _⟩ := (I.mem x).mp hx
    have ex : x.1 = z := ex
    rw [ex, h1] at hp
    cases hp
  refine ⟨fun y hy => ?_, fun y b rest hy => ?_, fun x => ?_, ?_, ?_, ?_⟩
  · rw [posIn_snoc] at hy
    exact I.m0 y (List.append_eq_nil_iff.mp hy).1
  · by_cases q : z = y
    · subst q
      rw [hz] at hy
      cases hy
      exact I.m1 z a [] h1
    · rw [posIn_snoc, if_neg q, List.append_nil] at hy
      exact I.m1 y b rest hy
  · rw [List.mem_append, List.mem_singleton, I.mem x]
    by_cases q : z = x.1
    · constructor
      · rintro (⟨b, c, rest, h, _⟩ | h)
        · rw [← q, h1] at h
          cases h
        · subst h
          exact ⟨a, e, [], hz, rfl, rfl⟩
      · rintro ⟨b, c, rest, h, r1, r2⟩
        rw [← q, hz] at h
        cases h
        obtain ⟨x1, x2, x3⟩ := x
        have q : z = x1 := q
        have r1 : x2 = nmA n a.1 := r1
        have r2 : x3 = nmA n e.1 := r2
        subst q r1 r2
        exact .inr rfl
    · constructor
      · rintro (⟨b, c, rest, h, r⟩ | h)
        · exact ⟨b, c, rest, by rw [posIn_snoc, if_neg q, List.append_nil]; exact h, r⟩
        · subst h
          exact absurd rfl q
      · rintro ⟨b, c, rest, h, r⟩
        rw [posIn_snoc, if_neg q, List.append_nil] at h
        exact .inl ⟨b, c, rest, h, r⟩
  · rw [List.map_append]
    exact nd_snoc I.nod hnz
  · have := I.lenM
    rw [List.length_append, List.length_singleton]
    omega
  · have := I.lenL
    rw [List.length_append, List.length_append]
    show _ + 1 ≤ _ + 1
    omega
theorem LkI.whole {n : Net} (T : Twice n) {kM : List (Key × V)} {ls : List Lk} (I : LkI n (seats n) kM ls) (x : Lk) : x ∈ ls ↔ IsLink n x := by
  rw [I.mem x]
  constructor
  · rintro ⟨a, b, rest, h, r⟩
    have hp : pos n x.1 = a :: b :: rest := h
    have ha : tieAt n a = some x.1 := mem_pos.mp (by rw [hp]; exact List.mem_cons_self ..)
    have hl := pos_len n x.1
    rw [hp, T x.1 (tie_mem ha)] at hl
    have : rest = [] := by
      have : rest.length + 1 + 1 = 2 := hl
      exact List.length_eq_zero_iff.mp (by omega)
    rw [this] at hp
    exact ⟨a, b, hp, r⟩
  · rintro ⟨a, b, h, r⟩
    exact ⟨a, b, [], h, r⟩
inductive Way (ls : List (Str × Str × Bool)) (f : Str) : Str → Bool → Prop where
  | here : Way ls f f false
  | there {x y : Str} {b o : Bool} : Way ls f x b → (x, y, o) ∈ ls → Way ls f y (b != o)
  | back {x y : Str} {b o : Bool} : Way ls f x b → (y, x, o) ∈ ls → Way ls f y (b != o)
end Nt
namespace L2
open PySem PySem.Spec PyProof.Rows
theorem is_kV {P : Program} {w : World} {k : Key} {u : Value} (h : (mixKind P w).is k u = true) : RelV (kV k) u := by
  rcases keyIs_shape h with ⟨i, t, rfl, rfl⟩ | ⟨x, t, rfl, rfl⟩ <;> exact ⟨t, rfl⟩
section
variable {X : Cx} {pins : List (Addr × Obj)} {σ : St} {H : Hp} {s : Shared}
theorem vals_of {xs : List V} : ∀ {vs : List Value}, vs.length = xs.length → (∀ (j : Nat) u, vs[j]? = some u → ∃ x, xs[j]? = some x ∧ RelV x u) → Vals xs vs := by
  induction xs with
  | nil =>
    intro vs h _
    cases vs with
    | nil => exact .nil
    | cons a b => simp at h
  | cons x r ih =>
    intro vs h g
    cases vs with
    | nil => simp at h
    | cons u q =>
      obtain ⟨x', e, ru⟩ := g 0 u rfl
      simp only [List.getElem?_cons_zero, Option.some.injEq] at e
      subst e
      exact .cons ru (ih (by simpa using h) fun j u hu => by simpa using g (j + 1) u (by simpa using hu))
theorem call_list_dict (hc : X.calm = true) : CallR X (.type "list") (fun xs H Q => ∃ a kvs, xs = [.ref a] ∧ Rd H a (.dK kvs) ∧ ∀ l, H l = none → Q (.ref l) (upd H l (.lst (kvs.map fun p => kV p.1)))) := by
  intro pins s σ H xs us Q I r h
  obtain ⟨a, kvs, rfl, hH, q⟩ := h
  obtain ⟨u, rfl, ru⟩ := vals1 r
  cases (show u = Value.ref a from ru)
  obtain ⟨z, hd, vs, rel, dd⟩ := dk_rd I.hok hH
  obtain ⟨ep, da⟩ := dd.dictAt
  have hl := rel.length
  refine PySem.W.kdl_call (PySem.W.kdl_dict (knd := mixKind X.prog X.w) (kvs := vs) (ep := ep) hd) (I.ok.hd hc) da (by omega) fun h' tk acc c' hk hS hacc => ?_
  have rv : Vals (kvs.map fun p => kV p.1) acc.toList := by
    refine vals_of (by rw [Array.length_toList, hacc.1, List.length_map]; omega) fun j u hu => ?_
    obtain ⟨k, x, e, g⟩ := hacc.2 j u (by rw [← Array.getElem?_toList]; exact hu)
    refine ⟨kV k, ?_, is_kV g⟩
    have e2 : (kvs.map (·.1))[j]? = some k := by rw [rel.keys, List.getElem?_map, e]; rfl
    rw [List.getElem?_map, Option.map_eq_some_iff] at e2
    obtain ⟨p, e3, e4⟩ := e2
    rw [List.getElem?_map, e3, ← e4]
    rfl
  exact ⟨.ref s.heap.objs.size, _, I.laid (t' := tk) hk (Nat.le_refl _) (show ObjOk X.prog X.w _ h' _ (.lst (kvs.map fun p => kV p.1)) from ⟨by rw [List.length_map]; exact z, acc.toList, c', rv, by rw [Array.toArray_toList]; exact hS⟩), rfl, q _ (I.hok.fresh (Nat.le_refl _))⟩
theorem inv_freeze {d : Addr} {kvs : List (Key × V)} (I : Inv X pins σ H s) (e : H d = some (.dK kvs)) : ∃ o, s.heap.get? d = some o ∧ Inv X pins σ (upd H d (.frz o (.dK kvs))) s := by
  obtain ⟨z, hd, vs, rel, dd⟩ := dk_of I.hok e
  obtain ⟨o, es, ep, ho, rest⟩ := id dd
  refine ⟨o, ho, ?_⟩
  exact d_write (t' := s.toks) I (by rw [e]; exact True.intro) ⟨rfl, fun _ _ => rfl⟩ ⟨o, ho⟩ (show ObjOk X.prog X.w _ s.heap d (.frz o (.dK kvs)) from ⟨ho, z, hd, vs, rel, dd⟩)
def Itk (d : Addr) (o : Obj) (kvs : List (Key × V)) : It :=
  ⟨fun i H => H d = some (.frz o (.dK kvs)) ∧ i < kvs.length, fun i H x H' => H' = H ∧ ∃ p, kvs[i]? = some p ∧ x = kV p.1, fun i H => H d = some (.frz o (.dK kvs)) ∧ kvs.length ≤ i⟩
theorem frz_at {P : Program} {w : World} {h : Heap} {d : Addr} {o : Obj} {es : Array DictEntry} {ep : Nat} {kvs : List (Key × V)} (hok : HOk P w H h) (e : H d = some (.frz o (.dK kvs))) (hd : o.data = .dict es ep) : ∃ vs, KV kvs vs ∧ h.DictAt (mixKind P w) d vs ep := by
  obtain ⟨ho, z, _, vs, rel, dd⟩ := (show ObjOk P w H h d (.frz o (.dK kvs)) from hok d _ e)
  obtain ⟨ep', o', es', ho', r1, r2, r3⟩ := dd.dictAt
  have : o = o' := Option.some.inj (ho.symm.trans ho')
  subst this
  rw [hd] at r2
  injection r2 with e1 e2
  subst e1
  subst e2
  exact ⟨vs, rel, o, es, ho', r1, hd, r3⟩
theorem turn_dict {P : Program} {w : World} {K : PySem.W.Frag} {tg : Expr} (d it : Addr) (o : Obj) (es : Array DictEntry) (ep : Nat) (kvs : List (Key × V)) (hod : o.data = .dict es ep) : Turn P w K tg (Itk d o kvs) [it] it (fun i h => h.IsKeyIter it d i kvs.length ep) where
  mem := by simp
  obj := fun i h st b hb => by
    have e : b = it := by simpa using hb
    subst e
    obtain ⟨o, e, c, d⟩ := st
    exact ⟨o, e, fun v z => by rw [d] at z; cases z⟩
  keep := fun i h h' st k => let ⟨o, ho, r⟩ := st; ⟨o, k it (by simp) o ho, r⟩
  item := by
    intro X hP hw hK hc i pins s σ H E I hf st hg
    subst hP hw hK
    obtain ⟨f0, f1, f2, f3, f4, f5⟩ := hf it (by simp)
    obtain ⟨hd, hi⟩ := hg
    obtain ⟨vs, rel, da⟩ := frz_at I.hok hd hod
    have hl := rel.length
    have hi' : i < vs.length := by omega
    have hx : vs[i]? = some vs[i] := List.getElem?_eq_getElem hi'
    rw [hl] at st
    refine wpAny_pyNext_dict_item (k := vs[i].1) (v := vs[i].2) st da hx fun key h' hk st' hs' => ?_
    have I1 : Inv X pins σ H { s with heap := h' } := I.turned (t' := s.toks) (fun b o hb e => hs'.extBut b o hb e) f0 f1 f3 f4 f5
    obtain ⟨o2, e2, c2, d2⟩ := id st'
    refine ⟨_, rfl, go_of (s := { s with heap := h' }) e2 c2 d2 (by decide) ⟨kV vs[i].1, H, I1, is_kV hk, ⟨rfl, kvs[i], List.getElem?_eq_getElem hi, ?_⟩, by rw [hl]; exact st', fun b hb => (hf b hb).1⟩⟩
    have ek := rel.keys
    have e3 : (kvs.map (·.1))[i]? = (vs.map (·.1))[i]? := by rw [ek]
    rw [List.getElem?_map, List.getElem?_map, List.getElem?_eq_getElem hi, hx] at e3
    have e4 : kvs[i].1 = vs[i].1 := Option.some.inj e3
    rw [e4]
  done := by
    intro X hP hw hK hc i pins s σ H E I hf st hg
    subst hP hw hK
    obtain ⟨f0, f1, f2, f3, f4, f5⟩ := hf it (by simp)
    obtain ⟨hd, hi⟩ := hg
    obtain ⟨vs, rel, da⟩ := frz_at I.hok hd hod
    have hl := rel.length
    rw [hl] at st
    exact wpAny_pyNext_dict_end (I.ok.hd hc) st da (by rw [List.getElem?_eq_none]; omega) fun h' eb => ⟨rfl, I.turned (t' := s.toks) (fun b o hb e => eb b o hb e) f0 f1 f3 f4 f5⟩
  self := fun _ _ _ _ _ st h => wpAny_pyIter_keyiter st h
def iDict (tl : TE) : TI := fun σ H R => tl σ H fun x H1 => ∃ d kvs, x = .ref d ∧ H1 d = some (.dK kvs) ∧ ∀ o, R (Itk d o kvs) (upd H1 d (.frz o (.dK kvs)))
theorem pi_dict {tg l : Expr} {tl : TE} (hl : PE X l tl) : PI X tg l (iDict tl) := by
  intro pins s σ H R I h
  refine thn (hl pins s σ H _ I h) fun v s1 ⟨x, H1, I1, r1, q1⟩ => ?_
  obtain ⟨d, kvs, e, hH, q⟩ := q1
  subst e
  cases (show v = Value.ref d from r1)
  obtain ⟨o, ho, I2⟩ := inv_freeze I1 hH
  obtain ⟨z, hdm, vs, rel, dd⟩ := dk_of I1.hok hH
  obtain ⟨ep, o', es, ho', r1, r2, r3⟩ := dd.dictAt
  have : o = o' := Option.some.inj (ho.symm.trans ho')
  subst this
  refine wpAny_pyIter_dict hdm ⟨o, es, ho', r1, r2, r3⟩ ?_
  refine ⟨s1.heap.objs.size, [s1.heap.objs.size], _, _, _, rfl, I2.kept (t' := s1.toks) fun b o e => Heap.get?_push_of_some _ e, turn_dict d _ o es ep kvs r2, ⟨_, Heap.get?_push_size _ rfl, rfl, by rw [rel.length]; rfl⟩, fun b hb => ?_, q o⟩
  have e : b = s1.heap.objs.size := by simpa using hb
  subst e
  exact I2.fpOk (Nat.le_refl _) (I2.hok.fresh (Nat.le_refl _))
end
section
variable {X : Cx} {elt tg : Expr} {ifs : List Expr} {scope : Scope} {σ : St} {H : Hp} {N' : List Str} {A a d : Addr} {xs : List V} {kvs : List (Key × V)} {after : Hp → Prop}
theorem comp_listP (Pv : Nat → St → Hp → Prop) (h0 : Pv 0 σ H) (hl : ∀ i σ' H', i ≤ xs.length → Pv i σ' H' → SqL X.K H' a xs)
    (hs : ∀ i x σ' H', xs[i]? = some x → Pv i σ' H' → CEg X N' scope tg x σ' H' fun σ2 H3 => CEi X N' scope ifs σ2 H3 fun b H4 =>
      if b = true then CEv X N' scope elt σ2 H4 fun v H5 => ∃ ys, H5 A = some (.lst ys) ∧ ys.length < sizeLine ∧ Pv (i + 1) σ2 (upd H5 A (.lst (ys ++ [v]))) else Pv (i + 1) σ2 H4)
    (hd : ∀ σ' H', Pv xs.length σ' H' → after H') : CompL X N' scope tg ifs elt (Itl X.K a) A after σ H := by
  refine ⟨fun i m σ' H' => m = xs.length - i ∧ i ≤ xs.length ∧ Pv i σ' H', ⟨_, rfl, Nat.zero_le _, h0⟩, ?_⟩
  rintro i m σ' H' ⟨rfl, hi, p⟩
  have q := hl i σ' H' hi p
  by_cases hlt : i < xs.length
  · refine .inr ⟨⟨xs, xs[i], q, by simp [hlt]⟩, Pv (i + 1), fun σ' H' p' => ⟨xs.length - (i + 1), by omega, rfl, hlt, p'⟩, fun x H2 y => ?_⟩
    obtain ⟨e, y⟩ := y
    subst e
    exact hs i x σ' _ (y xs q) p
  · have e : i = xs.length := by omega
    subst e
    exact .inl ⟨⟨xs, q, Nat.le_refl _⟩, hd σ' H' p⟩
theorem comp_dictP {o : Obj} (Pv : Nat → St → Hp → Prop) (h0 : Pv 0 σ H) (hl : ∀ i σ' H', i ≤ kvs.length → Pv i σ' H' → H' d = some (.frz o (.dK kvs)))
    (hs : ∀ i p σ' H', kvs[i]? = some p → Pv i σ' H' → CEg X N' scope tg (kV p.1) σ' H' fun σ2 H3 => CEi X N' scope ifs σ2 H3 fun b H4 =>
      if b = true then CEv X N' scope elt σ2 H4 fun v H5 => ∃ ys, H5 A = some (.lst ys) ∧ ys.length < sizeLine ∧ Pv (i + 1) σ2 (upd H5 A (.lst (ys ++ [v]))) else Pv (i + 1) σ2 H4)
    (hd : ∀ σ' H', Pv kvs.length σ' H' → after H') : CompL X N' scope tg ifs elt (Itk d o kvs) A after σ H := by
  refine ⟨fun i m σ' H' => m = kvs.length - i ∧ i ≤ kvs.length ∧ Pv i σ' H', ⟨_, rfl, Nat.zero_le _, h0⟩, ?_⟩
  rintro i m σ' H' ⟨rfl, hi, p⟩
  have q := hl i σ' H' hi p
  by_cases hlt : i < kvs.length
  · refine .inr ⟨⟨q, hlt⟩, Pv (i + 1), fun σ' H' p' => ⟨kvs.length - (i + 1), by omega, rfl, hlt, p'⟩, fun x H2 y => ?_⟩
    obtain ⟨e, p', ep, y⟩ := y
    subst e y
    exact hs i p' σ' _ ep p
  · have e : i = kvs.length := by omega
    subst e
    exact .inl ⟨⟨q, Nat.le_refl _⟩, hd σ' H' p⟩
theorem comp_filt {zs : List Str} (f : Str → Bool) (hz : zs.length < sizeLine) (ha : H a = some (.lst (zs.map V.str))) (hA : H A = none)
    (hg : ∀ cl C s₀ H₀ ex v v0 H' R, R (σ ++ [some v]) H' → Eg (cxComp X N' scope cl C s₀ H₀ ex) tg v (σ ++ [v0]) H' R)
    (hi : ∀ cl C s₀ H₀ ex z ys T, T (f z) (upd H A (.lst ys)) → Ei (cxComp X N' scope cl C s₀ H₀ ex) ifs (σ ++ [some (.str z)]) (upd H A (.lst ys)) T)
    (he : ∀ cl C s₀ H₀ ex z H' R, R (V.str z) H' → Ev (cxComp X N' scope cl C s₀ H₀ ex) elt (σ ++ [some (.str z)]) H' R) (q : after (upd H A (.lst ((zs.filter f).map V.str)))) :
    CompL X N' scope tg ifs elt (Itl X.K a) A after (σ ++ List.replicate 1 none) (upd H A (.lst [])) := by
  have ne : a ≠ A := ne_of_none ha hA
  refine comp_listP (xs := zs.map V.str) (fun k σ' H' => (∃ v, σ' = σ ++ [v]) ∧ H' = upd H A (.lst (((zs.take k).filter f).map V.str))) ⟨⟨none, rfl⟩, by simp⟩ ?_ ?_ ?_
  · rintro i σ' H' _ ⟨_, rfl⟩
    exact SqL.of (by rw [upd_ne ne]; exact ha)
  · rintro i x σ' H' hx ⟨⟨v, rfl⟩, rfl⟩
    rw [List.getElem?_map, Option.map_eq_some_iff] at hx
    obtain ⟨z, hz', rfl⟩ := hx
    intro cl C s₀ H₀ ex
    refine hg cl C s₀ H₀ ex _ _ _ _ ?_
    intro cl C s₀ H₀ ex
    refine hi cl C s₀ H₀ ex z _ _ ?_
    have e : (zs.take (i + 1)).filter f = (zs.take i).filter f ++ (if f z = true then [z] else []) := by
      rw [List.take_add_one, hz', List.filter_append]
      congr 1
      cases hf : f z <;> simp [hf]
    have hlen : ((zs.take i).filter f).length ≤ zs.length := Nat.le_trans (List.length_filter_le _ _) (by rw [List.length_take]; omega)
    by_cases hf : f z = true
    · rw [if_pos hf]
      intro cl C s₀ H₀ ex
      refine he cl C s₀ H₀ ex z _ _ ⟨_, upd_same, by rw [List.length_map]; omega, ⟨_, rfl⟩, ?_⟩
      rw [upd_upd, e, if_pos hf, List.map_append]
      rfl
    · rw [if_neg hf]
      refine ⟨⟨_, rfl⟩, ?_⟩
      rw [e, if_neg hf, List.append_nil]
  · rintro σ' H' ⟨_, rfl⟩
    have e2 : zs.take (zs.map V.str).length = zs := List.take_of_length_le (by simp)
    rw [e2]
    exact q
theorem inV_strs (z : Str) (zs : List Str) : inV (.str z) (zs.map V.str) = zs.contains z := by
  unfold inV
  induction zs with
  | nil => rfl
  | cons y r ih =>
    rw [List.map_cons, List.any_cons, ih, List.contains_cons]
    congr 1
    show eqV (.str y) (.str z) = (z == y)
    by_cases h : y = z
    · subst h; simp [eqV]
    · have h' : z ≠ y := fun q => h q.symm
      show (y == z) = (z == y)
      rw [beq_eq_false_iff_ne.mpr h, beq_eq_false_iff_ne.mpr h']
theorem flat_strs (zs : List Str) : (zs.map V.str).all flatV = true := by
  rw [List.all_eq_true]
  intro x hx
  obtain ⟨z, _, rfl⟩ := List.mem_map.mp hx
  rfl
theorem Eg.mono {e : Expr} {v : V} {R R' : St → Hp → Prop} (h : Eg X e v σ H R) (f : ∀ σ' H', R σ' H' → R' σ' H') : Eg X e v σ H R' :=
  ⟨fun pins s u I r => thn (h.run pins s u I r) fun _ s' ⟨σ', H', I', q⟩ => ⟨σ', H', I', f σ' H' q⟩⟩
theorem eg_pair {e1 e2 : Expr} {k : Nat} {pos : Pos} {t : Addr} {x y : V} {R : St → Hp → Prop} (hc : X.calm = true) (ht : SqT X.K H t [x, y]) (h : Eg X e1 x σ H fun σ1 H1 => Eg X e2 y σ1 H1 R)
    (hn : (assignEach [e1, e2] X.env).length = 2 := by rfl) (hst : (assignEach [e1, e2] X.env).findIdx? (·.1) = none := by rfl)
    (hs1 : (assignEach [e1, e2] X.env).map (·.2) = assign e1 X.env :: (assignEach [e2] X.env).map (·.2) := by rfl) (hs2 : (assignEach [e2] X.env).map (·.2) = assign e2 X.env :: (assignEach [] X.env).map (·.2) := by rfl) :
    Eg X (.Tuple [e1, e2] k pos) (.ref t) σ H R :=
  eg_of (pg_tup (t := gCons (fun v σ H Q => Eg X e1 v σ H Q) (gCons (fun v σ H Q => Eg X e2 v σ H Q) gNil)) hc (pgs_cons pg_eg (pgs_cons pg_eg pgs_nil hs2) hs1) hn hst) ⟨t, _, rfl, ht, rfl, _, _, rfl, h.mono fun σ1 H1 h1 => ⟨_, _, rfl, h1.mono fun σ2 H2 q => ⟨rfl, q⟩⟩⟩
end
end L2
namespace Nt
open PySem L2
def evenAt (n : Net) (ss : List Str) : Bool := n.all fun r => (r.2.filter fun z => ss.contains z).length % 2 == 0
def sumN (g : Nat → Nat) : Nat → Nat
  | 0 => 0
  | k + 1 => sumN g k + g k
theorem sumN_shift (g : Nat → Nat) : ∀ k, sumN (fun p => g (p + 1)) k + g 0 = sumN g (k + 1)
  | 0 => by simp [sumN]
  | k + 1 => by
    have := sumN_shift g k
    simp only [sumN] at this ⊢
    omega
theorem sumN_congr {g h : Nat → Nat} : ∀ k, (∀ p, p < k → g p = h p) → sumN g k = sumN h k
  | 0, _ => rfl
  | k + 1, e => by
    simp only [sumN]
    rw [sumN_congr k fun p hp => e p (Nat.lt_succ_of_lt hp), e k (Nat.lt_succ_self k)]
theorem sumN_rot (g : Nat → Nat) (m : Nat) : sumN (fun p => g ((p + 1) % (m + 1))) (m + 1) = sumN g (m + 1) := by
  have e1 : sumN (fun p => g ((p + 1) % (m + 1))) m = sumN (fun p => g (p + 1)) m := sumN_congr m fun p hp => by
    show g ((p + 1) % (m + 1)) = g (p + 1)
    rw [Nat.mod_eq_of_lt (by omega)]
  show sumN (fun p => g ((p + 1) % (m + 1))) m + g ((m + 1) % (m + 1)) = _
  rw [e1, Nat.mod_self, sumN_shift]
theorem sumN_add (g h : Nat → Nat) : ∀ k, sumN (fun p => g p + h p) k = sumN g k + sumN h k
  | 0 => rfl
  | k + 1 => by
    simp only [sumN]
    rw [sumN_add g h k]
    omega
theorem filter_par (f : Str → Bool) (zs : List Str) (g : Nat → Nat) (h : ∀ p z, zs[p]? = some z → (if f z = true then 1 else 0) % 2 = g p % 2) : ∀ k, k ≤ zs.length → ((zs.take k).filter f).length % 2 = sumN g k % 2
  | 0, _ => by simp [sumN]
  | k + 1, hk => by
    have e : zs[k]? = some zs[k] := List.getElem?_eq_getElem (by omega)
    have ih := filter_par f zs g h k (by omega)
    have hz := h k _ e
    rw [List.take_add_one, e, List.filter_append, List.length_append]
    simp only [sumN]
    have e2 : (List.filter f (some zs[k]).toList).length = if f zs[k] = true then 1 else 0 := by
      cases hf : f zs[k] <;> simp [hf]
    rw [e2]
    omega
structure Closed (n : Net) (F : List End) : Prop where
  sub : ∀ e ∈ F, e ∈ ends n
  cnt : ∀ e ∈ ends n, F.count (step n e) = F.count e
def hit (n : Net) (F : List End) (z : Str) : Nat := (F.filter fun e => decide (tieAt n e = some z)).length
theorem tie_two {n : Net} (T : Twice n) {e x : End} {z : Str} (h : tieAt n e = some z) : tieAt n x = some z ↔ x = e ∨ x = other n e := by
  obtain ⟨o1, o2, o3⟩ := other_spec T h
  refine ⟨fun hx => ?_, fun hx => ?_⟩
  · obtain ⟨a, b, hp, hab, he⟩ := pos_two T h
    have mx : x ∈ pos n z := mem_pos.mpr hx
    have mo : other n e ∈ pos n z := mem_pos.mpr o1
    rw [hp] at mx mo
    simp only [List.mem_cons, List.not_mem_nil, or_false] at mx mo
    rcases he with he | he
    · rcases mx with m | m
      · exact .inl (m.trans he.symm)
      · rcases mo with m2 | m2
        · exact absurd (m2.trans he.symm) o3
        · exact .inr (m.trans m2.symm)
    · rcases mx with m | m
      · rcases mo with m2 | m2
        · exact .inr (m.trans m2.symm)
        · exact absurd (m2.trans he.symm) o3
      · exact .inl (m.trans he.symm)
  · rcases hx with rfl | rfl
    · exact h
    · exact o1
theorem hit_two {n : Net} (T : Twice n) {e : End} {z : Str} (h : tieAt n e = some z) : ∀ F : List End, hit n F z = F.count e + F.count (other n e)
  | [] => rfl
  | x :: F => by
    have ih := hit_two T h F
    have ne := (other_spec T h).2.2
    unfold hit at ih ⊢
    rw [List.filter_cons, List.count_cons, List.count_cons]
    by_cases hx : tieAt n x = some z
    · rw [if_pos (decide_eq_true hx), List.length_cons, ih]
      rcases (tie_two T h).mp hx with rfl | rfl
      · have : (x == other n x) = false := beq_eq_false_iff_ne.mpr (Ne.symm ne)
        rw [this]
        simp
        omega
      · have : (other n e == e) = false := beq_eq_false_iff_ne.mpr ne
        rw [this]
        simp
        omega
    · rw [if_neg (by simp [hx])]
      have h1 : (x == e) = false := beq_eq_false_iff_ne.mpr fun q => hx ((tie_two T h).mpr (.inl q))
      have h2 : (x == other n e) = false := beq_eq_false_iff_ne.mpr fun q => hx ((tie_two T h).mpr (.inr q))
      rw [h1, h2, ih]
      simp
theorem closed_even {n : Net} (T : Twice n) {F : List End} (C : Closed n F) {ss : List Str} (hs : ∀ z, z ∈ ties n → (z ∈ ss ↔ hit n F z % 2 = 1)) : evenAt n ss = true := by
  unfold evenAt
  rw [List.all_eq_true]
  intro x hx
  obtain ⟨r, hr, rfl⟩ := List.getElem_of_mem hx
  rw [← row_eq hr]
  rw [beq_iff_eq]
  generalize hzs : row n r = zs
  cases hl : zs.length with
  | zero =>
    have : zs = [] := List.length_eq_zero_iff.mp hl
    rw [this]
    rfl
  | succ m =>
    have key := filter_par (fun z => ss.contains z) zs (fun p => F.count (r, p) + F.count (r, (p + 1) % (m + 1))) (fun p z hz => ?_) zs.length (Nat.le_refl _)
    · rw [List.take_length] at key
      rw [key, hl, sumN_add, sumN_rot (fun p => F.count (r, p)) m]
      omega
    · have ht : tieAt n (r, p) = some z := by
        show (row n r)[p]? = some z
        rw [hzs]
        exact hz
      have he : (r, p) ∈ ends n := mem_ends.mpr ⟨z, ht⟩
      have ho := other_end T he
      have e1 : F.count (other n (r, p)) = F.count (r, (p + 1) % (m + 1)) := by
        rw [← C.cnt _ ho]
        show F.count (left n (other n (other n (r, p)))) = _
        rw [(other_spec T ht).2.1]
        show F.count (r, (p + 1) % (row n r).length) = _
        rw [hzs, hl]
      have e2 := hs z (tie_mem ht)
      have e3 := hit_two T ht F
      rw [e1] at e3
      show (if ss.contains z = true then 1 else 0) % 2 = (F.count (r, p) + F.count (r, (p + 1) % (m + 1))) % 2
      rw [← e3]
      by_cases hc : z ∈ ss
      · rw [if_pos (List.contains_iff_mem.mpr hc), e2.mp hc]
      · rw [if_neg (fun q => hc (List.contains_iff_mem.mp q))]
        have : ¬ hit n F z % 2 = 1 := fun q => hc (e2.mpr q)
        omega
theorem closed_nil (n : Net) : Closed n [] := ⟨fun e h => (by cases h), fun e h => rfl⟩
theorem count_map {n : Net} (T : Twice n) {x : End} (hx : x ∈ ends n) : ∀ {l : List End}, (∀ e ∈ l, e ∈ ends n) → (l.map (step n)).count (step n x) = l.count x
  | [], _ => rfl
  | y :: l, h => by
    rw [List.map_cons, List.count_cons, List.count_cons, count_map T hx fun e he => h e (List.mem_cons_of_mem _ he)]
    congr 1
    by_cases e : y = x
    · subst e
      simp
    · have e2 : ¬ step n y = step n x := fun q => e (step_inj T (h y List.mem_cons_self) hx q)
      rw [if_neg (by simpa using e2), if_neg (by simpa using e)]
theorem face_rot {n : Net} {e : End} {fs : List End} (f : IsFace n e fs) : (fs.map (step n)).Perm fs := by
  obtain ⟨a, tl, rfl⟩ : ∃ a tl, fs = a :: tl := by
    cases fs with
    | nil => exact absurd f.pos (by simp)
    | cons a tl => exact ⟨a, tl, rfl⟩
  have ha : a = e := by
    have := f.at' 0 f.pos
    simpa [it] using this
  have e1 : (a :: tl).map (step n) = tl ++ [a] := by
    refine List.ext_getElem? fun i => ?_
    rw [List.getElem?_map]
    by_cases hi : i < (a :: tl).length
    · rw [f.at' i hi]
      show some (step n (it (step n) i e)) = _
      have e2 : step n (it (step n) i e) = it (step n) (i + 1) e := rfl
      rw [e2]
      by_cases h2 : i + 1 < (a :: tl).length
      · have q := f.at' (i + 1) h2
        rw [List.getElem?_cons_succ] at q
        rw [List.getElem?_append_left (by simpa using h2), q]
      · have e3 : i + 1 = (a :: tl).length := by omega
        have e4 : i = tl.length := by simpa using e3
        rw [e3, f.back, e4, List.getElem?_append_right (Nat.le_refl _), Nat.sub_self, ha]
        rfl
    · rw [List.getElem?_eq_none (Nat.le_of_not_lt hi), List.getElem?_eq_none]
      · rfl
      · simp at hi ⊢
        omega
  rw [e1]
  exact List.perm_append_comm.trans (by simp)
theorem closed_app {n : Net} (T : Twice n) {F fs : List End} {e : End} (C : Closed n F) (f : IsFace n e fs) (he : e ∈ ends n) : Closed n (F ++ fs) where
  sub := fun x hx => (List.mem_append.mp hx).elim (C.sub x) (f.ends T he x)
  cnt := fun x hx => by
    rw [List.count_append, List.count_append, C.cnt x hx]
    congr 1
    rw [← (face_rot f).count_eq, count_map T hx fun y hy => f.ends T he y hy]
theorem hit_snoc (n : Net) (F : List End) (e : End) (z : Str) : hit n (F ++ [e]) z = hit n F z + (if tieAt n e = some z then 1 else 0) := by
  unfold hit
  rw [List.filter_append, List.length_append]
  congr 1
  by_cases h : tieAt n e = some z
  · simp [h]
  · simp [h]
structure CntOn (L : List Str) (kvs : List (Key × V)) (ks : List Str) : Prop where
  keys : kvs.map (·.1) = ks.map Sum.inr
  nodup : ks.Nodup
  mem : ∀ z, z ∈ ks ↔ z ∈ L
  val : ∀ z, valV kvs (Sum.inr z) = if z ∈ L then some (.int (L.count z)) else none
theorem CntOn.start : CntOn [] [] [] := ⟨rfl, List.nodup_nil, fun _ => Iff.rfl, fun _ => rfl⟩
theorem CntOn.len {L : List Str} {kvs : List (Key × V)} {ks : List Str} (C : CntOn L kvs ks) : kvs.length ≤ L.length := by
  have e := congrArg List.length C.keys
  rw [List.length_map, List.length_map] at e
  rw [e]
  exact nodup_le C.nodup fun z hz => (C.mem z).mp hz
theorem CntOn.put {L : List Str} {kvs : List (Key × V)} {ks : List Str} (C : CntOn L kvs ks) (z : Str) : ∃ ks', CntOn (L ++ [z]) (putK kvs (Sum.inr z) (.int ((L.count z : Int) + 1))) ks' := by
  have hv : ∀ y, valV (putK kvs (Sum.inr z) (.int ((L.count z : Int) + 1))) (Sum.inr y) = if y ∈ L ++ [z] then some (.int ((L ++ [z]).count y)) else none := fun y => by
    rw [valV_put]
    by_cases e : y = z
    · subst e
      rw [if_pos rfl, if_pos (by simp), List.count_append]
      simp
    · have e' : ¬ (Sum.inr y : Key) = Sum.inr z := fun q => e (Sum.inr.inj q)
      have e2 : ¬ z = y := fun q => e q.symm
      rw [if_neg e', C.val y, List.count_append]
      by_cases hy : y ∈ L
      · rw [if_pos hy, if_pos (by simp [hy])]
        simp [e2]
      · rw [if_neg hy, if_neg (by simp [hy, e])]
  by_cases hz : z ∈ L
  · have h1 : (kvs.any fun kv => decide (kv.1 = (Sum.inr z : Key))) = true := by
      rw [valV_any, C.val z, if_pos hz]
      rfl
    refine ⟨ks, ?_, C.nodup, fun y => ?_, hv⟩
    · rw [← C.keys]
      unfold putK
      rw [if_pos h1, List.map_map]
      refine List.map_congr_left fun p _ => ?_
      show (if p.1 = Sum.inr z then (p.1, V.int ((L.count z : Int) + 1)) else p).1 = p.1
      split <;> rfl
    · rw [C.mem y, List.mem_append]
      refine ⟨.inl, fun h => h.elim id fun h => ?_⟩
      rw [List.mem_singleton.mp h]
      exact hz
  · have h1 : valV kvs (Sum.inr z) = none := by rw [C.val z, if_neg hz]
    refine ⟨ks ++ [z], ?_, nd_snoc C.nodup fun h => hz ((C.mem z).mp h), fun y => ?_, hv⟩
    · rw [putK_new _ h1, List.map_append, C.keys, List.map_append]
      rfl
    · rw [List.mem_append, List.mem_append, C.mem y]
end Nt
namespace Nt
open PySem L2
abbrev Bl := Str × Str × Bool
def has (kvs : List (Key × V)) (x : Str) : Prop := ∃ v, valV kvs (Sum.inr x) = some v
def Touch (ls : List Bl) (x y : Str) (o : Bool) : Prop := (x, y, o) ∈ ls ∨ (y, x, o) ∈ ls
def nmsOf (ls : List Bl) : List Str := ls.flatMap fun l => [l.1, l.2.1]
theorem nmsOf_len : ∀ ls : List Bl, (nmsOf ls).length = 2 * ls.length
  | [] => rfl
  | l :: r => by
    show (nmsOf r).length + 1 + 1 = 2 * (r.length + 1)
    rw [nmsOf_len r]
    omega
theorem touch_nm {ls : List Bl} {x y : Str} {o : Bool} (h : Touch ls x y o) : y ∈ nmsOf ls := by
  rcases h with h | h
  · exact List.mem_flatMap.mpr ⟨_, h, by simp⟩
  · exact List.mem_flatMap.mpr ⟨_, h, by simp⟩
theorem keysP {κ : Type} [DecidableEq κ] (kvs : List (κ × V)) (k : κ) (v : V) : (putK kvs k v).map (·.1) = if k ∈ kvs.map (·.1) then kvs.map (·.1) else kvs.map (·.1) ++ [k] := by
  have e : (kvs.any fun kv => decide (kv.1 = k)) = decide (k ∈ kvs.map (·.1)) := by
    rw [Bool.eq_iff_iff, List.any_eq_true, decide_eq_true_iff, List.mem_map]
    exact ⟨fun ⟨p, h1, h2⟩ => ⟨p, h1, of_decide_eq_true h2⟩, fun ⟨p, h1, h2⟩ => ⟨p, h1, decide_eq_true h2⟩⟩
  unfold putK
  rw [e]
  by_cases h : k ∈ kvs.map (·.1)
  · rw [if_pos (decide_eq_true h), if_pos h, List.map_map]
    refine List.map_congr_left fun p _ => ?_
    show (if p.1 = k then (p.1, v) else p).1 = p.1
    split <;> rfl
  · rw [if_neg (by simpa using h), if_neg h, List.map_append]
    rfl
structure SpI (ls : List Bl) (f : Str) (hr : Option Str) (kvs : List (Key × V)) (wt : List Str) : Prop where
  nod : (kvs.map (·.1)).Nodup
  txt : ∀ k ∈ kvs.map (·.1), ∃ x, k = Sum.inr x ∧ x ∈ f :: nmsOf ls
  val : ∀ x v, valV kvs (Sum.inr x) = some v → ∃ b, v = .bl b ∧ Way ls f x b
  fst : has kvs f
  wtk : ∀ x ∈ wt, has kvs x
  hrh : ∀ x, some x = hr → has kvs x
  cls : ∀ x, has kvs x → x ∈ wt ∨ some x = hr ∨ ∀ y o, Touch ls x y o → has kvs y
theorem SpI.len {ls : List Bl} {f : Str} {hr : Option Str} {kvs : List (Key × V)} {wt : List Str} (I : SpI ls f hr kvs wt) : kvs.length ≤ 1 + 2 * ls.length := by
  have := nodup_le I.nod (b := (f :: nmsOf ls).map Sum.inr) fun k hk => by
    obtain ⟨x, e, hx⟩ := I.txt k hk
    rw [e]
    exact List.mem_map.mpr ⟨x, hx, rfl⟩
  rw [List.length_map, List.length_map, List.length_cons, nmsOf_len] at this
  omega
theorem has_put {kvs : List (Key × V)} {k : Key} {v : V} {x : Str} (h : has kvs x) : has (putK kvs k v) x := by
  obtain ⟨u, hu⟩ := h
  unfold has
  rw [valV_put]
  split
  · exact ⟨_, rfl⟩
  · exact ⟨u, hu⟩
theorem SpI.start (ls : List Bl) (f : Str) : SpI ls f none (putK [] (Sum.inr f) (.bl false)) [f] := by
  have e : putK ([] : List (Key × V)) (Sum.inr f) (.bl false) = [(Sum.inr f, .bl false)] := rfl
  have hv : ∀ x, valV ([(Sum.inr f, .bl false)] : List (Key × V)) (Sum.inr x) = if x = f then some (.bl false) else none := fun x => by
    rw [← e, valV_put]
    by_cases h : x = f
    · rw [if_pos h, if_pos (by rw [h])]
    · rw [if_neg h, if_neg (fun q => h (Sum.inr.inj q))]
      rfl
  rw [e]
  refine ⟨by simp, fun k hk => ⟨f, by simpa using hk, List.mem_cons_self ..⟩, fun x v h => ?_, ⟨.bl false, by rw [hv f, if_pos rfl]⟩, fun x hx => ?_, fun x hx => by (cases hx), fun x hx => ?_⟩
  · rw [hv x] at h
    by_cases c : x = f
    · rw [if_pos c] at h
      cases h
      subst c
      exact ⟨false, rfl, .here⟩
    · rw [if_neg c] at h
      cases h
  · rw [List.mem_singleton.mp hx]
    exact ⟨.bl false, by rw [hv f, if_pos rfl]⟩
  · obtain ⟨v, h⟩ := hx
    rw [hv x] at h
    by_cases c : x = f
    · exact .inl (List.mem_singleton.mpr c)
    · rw [if_neg c] at h
      cases h
theorem SpI.pop {ls : List Bl} {f h : Str} {kvs : List (Key × V)} {wt : List Str} (I : SpI ls f none kvs (wt ++ [h])) : SpI ls f (some h) kvs wt := by
  refine ⟨I.nod, I.txt, I.val, I.fst, fun x hx => I.wtk x (List.mem_append_left _ hx), fun x hx => (by cases hx; exact I.wtk h (List.mem_append_right _ (List.mem_singleton.mpr rfl))), fun x hx => ?_⟩
  rcases I.cls x hx with c | c | c
  · rcases List.mem_append.mp c with c | c
    · exact .inl c
    · exact .inr (.inl (by rw [List.mem_singleton.mp c]))
  · cases c
  · exact .inr (.inr c)
theorem SpI.close {ls : List Bl} {f h : Str} {kvs : List (Key × V)} {wt : List Str} (I : SpI ls f (some h) kvs wt) (c : ∀ y o, Touch ls h y o → has kvs y) : SpI ls f none kvs wt := by
  refine ⟨I.nod, I.txt, I.val, I.fst, I.wtk, fun x hx => (by cases hx), fun x hx => ?_⟩
  rcases I.cls x hx with d | d | d
  · exact .inl d
  · cases d
    exact .inr (.inr c)
  · exact .inr (.inr d)
theorem SpI.notin {ls : List Bl} {f : Str} {hr : Option Str} {kvs : List (Key × V)} {wt : List Str} (I : SpI ls f hr kvs wt) {g : Str} (hg : valV kvs (Sum.inr g) = none) : Sum.inr g ∉ kvs.map (·.1) := by
  intro hm
  obtain ⟨p, hp, e⟩ := List.mem_map.mp hm
  have : ∃ i : Nat, kvs[i]? = some p := List.getElem?_of_mem hp
  obtain ⟨i, hi⟩ := this
  have : ∀ {l : List (Key × V)}, (∃ q ∈ l, q.1 = Sum.inr g) → valV l (Sum.inr g) ≠ none := fun {l} => by
    induction l with
    | nil => rintro ⟨q, hq, _⟩; cases hq
    | cons c r ih =>
      rintro ⟨q, hq, e⟩ hn
      by_cases hc : c.1 = Sum.inr g
      · rw [valV_pos hc] at hn
        cases hn
      · rw [valV_neg hc] at hn
        rcases List.mem_cons.mp hq with rfl | hq
        · exact hc e
        · exact ih ⟨q, hq, e⟩ hn
  exact this ⟨p, hp, e⟩ hg
theorem SpI.hrk {ls : List Bl} {f h : Str} {kvs : List (Key × V)} {wt : List Str} (I : SpI ls f (some h) kvs wt) : has kvs h := I.hrh h rfl
theorem SpI.add {ls : List Bl} {f h g : Str} {kvs : List (Key × V)} {wt : List Str} {b o : Bool} (I : SpI ls f (some h) kvs wt) (hg : valV kvs (Sum.inr g) = none) (hh : valV kvs (Sum.inr h) = some (.bl b)) (t : Touch ls h g o) :
    SpI ls f (some h) (putK kvs (Sum.inr g) (.bl (b != o))) (wt ++ [g]) := by
  have hng := I.notin hg
  have hw : Way ls f g (b != o) := by
    obtain ⟨b', e, hw⟩ := I.val h _ hh
    cases e
    rcases t with t | t
    · exact .there hw t
    · exact .back hw t
  refine ⟨?_, fun k hk => ?_, fun x v hv => ?_, has_put I.fst, fun x hx => ?_, fun x hx => has_put (I.hrh x hx), fun x hx => ?_⟩
  · rw [keysP, if_neg hng]
    exact nd_snoc I.nod hng
  · rw [keysP, if_neg hng] at hk
    rcases List.mem_append.mp hk with hk | hk
    · exact I.txt k hk
    · exact ⟨g, List.mem_singleton.mp hk, List.mem_cons_of_mem _ (touch_nm t)⟩
  · rw [valV_put] at hv
    by_cases c : Sum.inr x = (Sum.inr g : Key)
    · rw [if_pos c] at hv
      cases hv
      rw [Sum.inr.inj c]
      exact ⟨_, rfl, hw⟩
    · rw [if_neg c] at hv
      exact I.val x v hv
  · rcases List.mem_append.mp hx with hx | hx
    · exact has_put (I.wtk x hx)
    · rw [List.mem_singleton.mp hx]
      exact ⟨_, by rw [valV_put, if_pos rfl]⟩
  · obtain ⟨v, hv⟩ := hx
    rw [valV_put] at hv
    by_cases c : Sum.inr x = (Sum.inr g : Key)
    · exact .inl (List.mem_append_right _ (List.mem_singleton.mpr (Sum.inr.inj c)))
    · rw [if_neg c] at hv
      rcases I.cls x ⟨v, hv⟩ with d | d | d
      · exact .inl (List.mem_append_left _ d)
      · exact .inr (.inl d)
      · exact .inr (.inr fun y o' ht => has_put (d y o' ht))
theorem SpI.whole {ls : List Bl} {f : Str} {kvs : List (Key × V)} (I : SpI ls f none kvs []) : ∀ x b, Way ls f x b → ∃ b', valV kvs (Sum.inr x) = some (.bl b') := by
  have hall : ∀ x b, Way ls f x b → has kvs x := fun x b w => by
    induction w with
    | here => exact I.fst
    | there w hm ih =>
      rcases I.cls _ ih with d | d | d
      · cases d
      · cases d
      · exact d _ _ (.inl hm)
    | back w hm ih =>
      rcases I.cls _ ih with d | d | d
      · cases d
      · cases d
      · exact d _ _ (.inr hm)
  intro x b w
  obtain ⟨v, hv⟩ := hall x b w
  obtain ⟨b', e, _⟩ := I.val x v hv
  exact ⟨b', by rw [hv, e]⟩
end Nt
namespace Nt
open PySem L2
open PyProof.Rows (sortedS)
def Hang (n : Net) : Prop := ∀ P : Str → Prop, (∃ r ∈ n, P r.1) → (∀ r ∈ n, ∀ s ∈ n, ∀ t, t ∈ r.2 → t ∈ s.2 → P r.1 → P s.1) → ∀ r ∈ n, P r.1
theorem hang_of {n m : Net} (h1 : ∀ r ∈ n, ∃ s ∈ m, s.1 = r.1 ∧ ∀ t ∈ r.2, t ∈ s.2) (h2 : ∀ s ∈ m, ∃ r ∈ n, r.1 = s.1) (h : Hang n) : Hang m := by
  rintro P ⟨s, hs, ps⟩ cl s' hs'
  obtain ⟨r, hr, er⟩ := h2 s hs
  obtain ⟨r', hr', er'⟩ := h2 s' hs'
  rw [← er']
  refine h P ⟨r, hr, by rw [er]; exact ps⟩ (fun a ha b hb t ta tb pa => ?_) r' hr'
  obtain ⟨a', ha', ea, sa⟩ := h1 a ha
  obtain ⟨b', hb', eb, sb⟩ := h1 b hb
  rw [← eb]
  exact cl a' ha' b' hb' t (sa t ta) (sb t tb) (by rw [ea]; exact pa)
theorem hang_one (r : Str × List Str) : Hang [r] := by
  rintro P ⟨s, hs, ps⟩ _ x hx
  rw [List.mem_singleton] at hs hx
  rw [hx, ← hs]
  exact ps
theorem ins_at (n : Net) (c : End) (z : Str) (i : Nat) : (ins n c z)[i]? = (n[i]?).map fun r => if c.1 = i then (r.1, r.2.take c.2 ++ z :: r.2.drop c.2) else r := by
  unfold ins
  rw [List.getElem?_modify]
  by_cases h : c.1 = i
  · simp [h]
  · simp [h]
theorem hang_ins {n : Net} {c : End} {z : Str} (h : Hang n) : Hang (ins n c z) := by
  refine hang_of (fun r hr => ?_) (fun s hs => ?_) h
  · obtain ⟨i, hi⟩ := List.getElem?_of_mem hr
    have e := ins_at n c z i
    rw [hi] at e
    refine ⟨_, List.mem_of_getElem? e, ?_, fun t ht => ?_⟩
    · split <;> rfl
    · split
      · show t ∈ r.2.take c.2 ++ z :: r.2.drop c.2
        rw [← List.take_append_drop c.2 r.2] at ht
        rcases List.mem_append.mp ht with q | q
        · exact List.mem_append_left _ q
        · exact List.mem_append_right _ (List.mem_cons_of_mem _ q)
      · exact ht
  · obtain ⟨i, hi⟩ := List.getElem?_of_mem hs
    rw [ins_at, Option.map_eq_some_iff] at hi
    obtain ⟨r, hr, e⟩ := hi
    refine ⟨r, List.mem_of_getElem? hr, ?_⟩
    rw [← e]
    split <;> rfl
theorem ins_has {n : Net} {c : End} {z : Str} (hc : c.1 < n.length) : ∃ r ∈ ins n c z, z ∈ r.2 := by
  have e := ins_at n c z c.1
  rw [List.getElem?_eq_getElem hc] at e
  refine ⟨_, List.mem_of_getElem? e, ?_⟩
  show z ∈ (if c.1 = c.1 then ((n[c.1].1, n[c.1].2.take c.2 ++ z :: n[c.1].2.drop c.2) : Str × List Str) else n[c.1]).2
  rw [if_pos rfl]
  exact List.mem_append_right _ (List.mem_cons_self ..)
theorem hang_more {n : Net} {z pt : Str} (h : Hang n) (hz : ∃ r ∈ n, z ∈ r.2) : Hang (n ++ [(pt, [z])]) := by
  obtain ⟨r, hr, zr⟩ := hz
  rintro P ⟨s, hs, ps⟩ cl x hx
  have mn : ((pt, [z]) : Str × List Str) ∈ n ++ [(pt, [z])] := List.mem_append_right _ (List.mem_singleton.mpr rfl)
  have ml : ∀ {y}, y ∈ n → y ∈ n ++ [(pt, [z])] := fun hy => List.mem_append_left _ hy
  have all : ∀ y ∈ n, P y.1 := by
    refine h P ?_ (fun a ha b hb t ta tb pa => cl a (ml ha) b (ml hb) t ta tb pa)
    rcases List.mem_append.mp hs with q | q
    · exact ⟨s, q, ps⟩
    · rw [List.mem_singleton] at q
      subst q
      exact ⟨r, hr, cl _ mn r (ml hr) z (List.mem_singleton.mpr rfl) zr ps⟩
  rcases List.mem_append.mp hx with q | q
  · exact all x q
  · rw [List.mem_singleton] at q
    subst q
    exact cl r (ml hr) _ mn z zr (List.mem_singleton.mpr rfl) (all r hr)
def Srt (zs : List Str) : Prop := zs.Pairwise (fun a b => a.cps.toList < b.cps.toList)
theorem srt_of : ∀ {zs : List Str}, sortedS zs = true → zs.Nodup → Srt zs
  | [], _, _ => List.Pairwise.nil
  | z :: r, h, hn => by
    rw [List.nodup_cons] at hn
    refine List.Pairwise.cons (fun x hx => ?_) (srt_of (SetT.rising_sorted h) hn.2)
    have h1 := SetT.rising_all r z h x hx
    rcases List.le_iff_lt_or_eq.mp h1 with q | q
    · exact q
    · exact absurd hx (by rw [← SetT.str_ext q]; exact hn.1)
theorem srt_nodup {zs : List Str} (h : Srt zs) : zs.Nodup := h.imp fun q e => by rw [e] at q; exact List.lt_irrefl _ q
theorem srt_unique : ∀ {a b : List Str}, Srt a → Srt b → (∀ x, x ∈ a ↔ x ∈ b) → a = b
  | [], [], _, _, _ => rfl
  | [], y :: b, _, _, h => by have := (h y).mpr (List.mem_cons_self ..); cases this
  | x :: a, [], _, _, h => by have := (h x).mp (List.mem_cons_self ..); cases this
  | x :: a, y :: b, ha, hb, h => by
    unfold Srt at ha hb
    rw [List.pairwise_cons] at ha hb
    have exy : x = y := by
      rcases List.mem_cons.mp ((h x).mp (List.mem_cons_self ..)) with e | e
      · exact e
      · rcases List.mem_cons.mp ((h y).mpr (List.mem_cons_self ..)) with e2 | e2
        · exact e2.symm
        · exact absurd (List.lt_trans (ha.1 y e2) (hb.1 x e)) (List.lt_irrefl _)
    subst exy
    have nx : ∀ (l : List Str), (∀ z ∈ l, x.cps.toList < z.cps.toList) → x ∉ l := fun l hl hm => List.lt_irrefl _ (hl x hm)
    have : a = b := srt_unique ha.2 hb.2 fun z => by
      constructor
      · intro hz
        rcases List.mem_cons.mp ((h z).mp (List.mem_cons_of_mem _ hz)) with e | e
        · exact absurd (e ▸ hz) (nx a ha.1)
        · exact e
      · intro hz
        rcases List.mem_cons.mp ((h z).mpr (List.mem_cons_of_mem _ hz)) with e | e
        · exact absurd (e ▸ hz) (nx b hb.1)
        · exact e
    rw [this]
def IsCut (n : Net) (ps : List Str) (z : Str) : Prop := ∃ e, tieAt n e = some z ∧ nmA n e.1 ∈ ps ∧ nmA n (other n e).1 ∉ ps
theorem cut_mem {n : Net} {ps : List Str} {z : Str} (h : IsCut n ps z) : z ∈ ties n := by
  obtain ⟨e, he, _⟩ := h
  exact tie_mem he
theorem cut_iff {n : Net} (T : Twice n) {ps : List Str} {z : Str} {e : End} (he : tieAt n e = some z) : IsCut n ps z ↔ (decide (nmA n e.1 ∈ ps) != decide (nmA n (other n e).1 ∈ ps)) = true := by
  have o := other_spec T he
  constructor
  · rintro ⟨x, hx, h1, h2⟩
    rcases (tie_two T he).mp hx with q | q
    · subst q
      simp [h1, h2]
    · subst q
      rw [o.2.1] at h2
      simp [h1, h2]
  · intro h
    by_cases h1 : nmA n e.1 ∈ ps
    · by_cases h2 : nmA n (other n e).1 ∈ ps
      · simp [h1, h2] at h
      · exact ⟨e, he, h1, h2⟩
    · by_cases h2 : nmA n (other n e).1 ∈ ps
      · exact ⟨other n e, o.1, h2, by rw [o.2.1]; exact h1⟩
      · simp [h1, h2] at h
theorem link_end {n : Net} (T : Twice n) {x : Lk} (h : IsLink n x) : ∃ e, tieAt n e = some x.1 ∧ x.2.1 = nmA n e.1 ∧ x.2.2 = nmA n (other n e).1 := by
  obtain ⟨a, b, hp, h1, h2⟩ := h
  have ha : tieAt n a = some x.1 := mem_pos.mp (by rw [hp]; exact List.mem_cons_self ..)
  have hb : tieAt n b = some x.1 := mem_pos.mp (by rw [hp]; simp)
  have hnd := pos_nodup n x.1
  rw [hp] at hnd
  have hab : b ≠ a := fun q => by rw [q] at hnd; simp at hnd
  rcases (tie_two T ha).mp hb with q | q
  · exact absurd q hab
  · exact ⟨a, ha, h1, by rw [h2, q]⟩
theorem end_link {n : Net} (T : Twice n) {e : End} {z : Str} (h : tieAt n e = some z) : IsLink n (z, nmA n e.1, nmA n (other n e).1) ∨ IsLink n (z, nmA n (other n e).1, nmA n e.1) := by
  obtain ⟨a, b, hp, hab, hh⟩ := pos_two T h
  have ha : tieAt n a = some z := mem_pos.mp (by rw [hp]; exact List.mem_cons_self ..)
  have hb : tieAt n b = some z := mem_pos.mp (by rw [hp]; simp)
  rcases hh with q | q
  · subst q
    refine .inl ⟨e, b, hp, rfl, ?_⟩
    rcases (tie_two T h).mp hb with q | q
    · exact absurd q.symm hab
    · show nmA n (other n e).1 = nmA n b.1
      rw [q]
  · subst q
    refine .inr ⟨a, e, hp, ?_, rfl⟩
    rcases (tie_two T h).mp ha with q | q
    · exact absurd q hab
    · show nmA n (other n e).1 = nmA n a.1
      rw [q]
theorem link_cut {n : Net} (T : Twice n) {ps : List Str} {x : Lk} (h : IsLink n x) : IsCut n ps x.1 ↔ (decide (x.2.1 ∈ ps) != decide (x.2.2 ∈ ps)) = true := by
  obtain ⟨e, he, h1, h2⟩ := link_end T h
  rw [h1, h2]
  exact cut_iff T he
def fstN (n : Net) : Str := nmA n 0
structure IsSide (n : Net) (ss sd : List Str) : Prop where
  srt : Srt sd
  mem : ∀ x ∈ sd, x ∈ n.map (·.1)
  fst : fstN n ∉ sd
  cut : ∀ z, z ∈ ss ↔ IsCut n sd z
structure Tells (n : Net) (ss : List Str) (ls : List Bl) : Prop where
  to : ∀ e z, tieAt n e = some z → Touch ls (nmA n e.1) (nmA n (other n e).1) (decide (z ∈ ss))
  fro : ∀ l ∈ ls, ∃ e z, tieAt n e = some z ∧ l = (nmA n e.1, nmA n (other n e).1, decide (z ∈ ss))
theorem way_cut {n : Net} (T : Twice n) {ss sd : List Str} {ls : List Bl} (t : Tells n ss ls) (hc : ∀ z, z ∈ ss ↔ IsCut n sd z) {f x : Str} {b : Bool} (w : Way ls f x b) : decide (x ∈ sd) = (decide (f ∈ sd) != b) := by
  have step : ∀ {x y : Str} {o : Bool}, (x, y, o) ∈ ls → o = (decide (x ∈ sd) != decide (y ∈ sd)) := fun {x y o} h => by
    obtain ⟨e, z, he, hl⟩ := t.fro _ h
    have h1 : x = nmA n e.1 := congrArg (·.1) hl
    have h2 : y = nmA n (other n e).1 := congrArg (·.2.1) hl
    have h3 : o = decide (z ∈ ss) := congrArg (·.2.2) hl
    rw [h1, h2, h3, Bool.eq_iff_iff, decide_eq_true_iff, hc z]
    exact cut_iff T he
  induction w with
  | here => simp
  | @there x y b o w h ih =>
    rw [step h, ih]
    cases decide (f ∈ sd) <;> cases b <;> cases decide (y ∈ sd) <;> rfl
  | @back x y b o w h ih =>
    rw [step h, ih]
    cases decide (f ∈ sd) <;> cases b <;> cases decide (y ∈ sd) <;> rfl
theorem way_side {n : Net} (T : Twice n) {ss sd : List Str} {ls : List Bl} (t : Tells n ss ls) (h : IsSide n ss sd) {x : Str} {b : Bool} (w : Way ls (fstN n) x b) : decide (x ∈ sd) = b := by
  rw [way_cut T t h.cut w, decide_eq_false h.fst]
  simp
theorem name_at {n : Net} {x : Str} (h : x ∈ n.map (·.1)) : ∃ i, i < n.length ∧ x = nmA n i := by
  obtain ⟨r, hr, e⟩ := List.mem_map.mp h
  obtain ⟨i, hi, q⟩ := List.mem_iff_getElem.mp hr
  exact ⟨i, hi, by rw [nmA_eq hi, q]; exact e.symm⟩
theorem at_name {n : Net} {i : Nat} (h : i < n.length) : nmA n i ∈ n.map (·.1) := by
  rw [nmA_eq h]
  exact List.mem_map.mpr ⟨_, List.getElem_mem h, rfl⟩
noncomputable def lksE (n : Net) (ss : List Str) : List Bl := (ends n).map fun e => (nmA n e.1, nmA n (other n e).1, decide ((tieAt n e).getD ⟨#[]⟩ ∈ ss))
theorem lksE_tells {n : Net} {ss : List Str} : Tells n ss (lksE n ss) := by
  refine ⟨fun e z h => .inl (List.mem_map.mpr ⟨e, mem_ends.mpr ⟨z, h⟩, by rw [h]; rfl⟩), fun l hl => ?_⟩
  obtain ⟨e, he, q⟩ := List.mem_map.mp hl
  obtain ⟨z, hz⟩ := mem_ends.mp he
  exact ⟨e, z, hz, by rw [← q, hz]; rfl⟩
theorem side_of_ways {n : Net} (T : Twice n) {ss sd : List Str} {ls : List Bl} (t : Tells n ss ls) (hs : Srt sd) (hm : ∀ x ∈ sd, x ∈ n.map (·.1)) (hc : ∀ z, z ∈ ss ↔ IsCut n sd z) {b : Bool} (w : Way ls (fstN n) (fstN n) b) (hb : fstN n ∈ sd ↔ b = true) : IsSide n ss sd := by
  refine ⟨hs, hm, fun hf => ?_, hc⟩
  have e := way_cut T t hc w
  rw [hb.mp hf, decide_eq_true hf] at e
  cases e
theorem other_lt {n : Net} (T : Twice n) {e : End} {z : Str} (h : tieAt n e = some z) : (other n e).1 < n.length := row_lt (other_spec T h).1
end Nt
namespace C6
open PySem L2 Nt Sort2
def spPut : Sp := fun vs H Q _ => ∃ (R : Addr) (as : List (Addr × Addr)) (n : Net) (b : Int) (z pt : Str), vs = [.ref R, .int b, .str z, .str pt] ∧ RowsAt H R as n ∧ Twice n ∧ Full n ∧ z ∉ ties n ∧ n.length ≤ 100 ∧ (ties n).length ≤ 100 ∧
  ∀ i as' n' H', RowsAt H' R as' n' → Keep H H' (R :: as.map (·.2)) → (∀ a ∈ as', a ∈ as ∨ H a.2 = none) → (ties n').Perm (z :: z :: ties n) → (n'.map (·.1) = n.map (·.1) ∨ n'.map (·.1) = n.map (·.1) ++ [pt]) → Full n' → (Hang n → Hang n') → Q (.int i) H'
section
variable {P : Program} {w : World} {K : PySem.W.Frag} {mg : Str → Option Value} {base : Heap}
abbrev NP : List Str := ["_law_rows", "_law_big_here", "_law_tie", "_law_point", "_law_corners", "_law_r", "_law_place", "_law_one", "_law_kind", "_law_face_here", "_law_other_here", "_law_spot"]
theorem scPut : FnScope NP ["_law_rows", "_law_big_here", "_law_tie", "_law_point"] (defScope sPut) := ⟨rfl, rfl, rfl, by decide +kernel, rfl, by decide +kernel, by decide +kernel⟩
theorem at_refs {ts : List Addr} {j : Nat} {t : Addr} (h : ts[j]? = some t) : atI (ts.map V.ref) (j : Int) = some (.ref t) := atI_nat (by rw [List.getElem?_map, h]; rfl)
theorem ok_put {f gS gF : Addr} {fd dS dF : FuncData} (F : Fun K "_law_put" "_law_put" sPut f fd) (T : Txt mg)
    (GS : FnOk P w K mg base CX0 3 gS dS ["_law_rows"] spSeats) (bS : Binds K dS ["_law_rows"] []) (kS : PySem.W.keepIn K (.ref gS) = true) (mS : mg "_law_seats" = some (.ref gS))
    (GF : FnOk P w K mg base CX0 3 gF dF ["_law_rows", "_law_seats_here", "_law_end"] spFace) (bF : Binds K dF ["_law_rows", "_law_seats_here", "_law_end"] []) (kF : PySem.W.keepIn K (.ref gF) = true) (mF : mg "_law_face" = some (.ref gF)) :
    FnOk P w K mg base CX0 4 f fd ["_law_rows", "_law_big_here", "_law_tie", "_law_point"] spPut := by
  refine F.go scPut (fun vs H Q E h => ?_) (fun cdv A outer s H vs Q E hr h => ?_)
  · obtain ⟨R, as, n, b, z, pt, rfl, _⟩ := h
    rfl
  obtain ⟨R, as, n, b, z, pt, rfl, hR, hT, hF, hz, hn, htn, q⟩ := h
  have nd := scPut.nd
  have hu : (A.deeper (PyProof.Rows.envOfC "_law_put" (defScope sPut) s.heap.objs.size f cdv)).units + 100 < cLine := by have := hr.un; omega
  have hal := hR.len
  show Run _ _ _ [some (.ref R), some (.int b), some (.str z), some (.str pt), none, none, none, none, none, none, none, none] H
  refine run_set 4 nd (ev_lst (ea_nil ⟨(by show 0 ≤ sizeLine; decide), fun lc hlc => ?_⟩))
  have g0 := same_new hlc (.lst [])
  refine run_forR1 T.range (ev_blt call_len_seq T.len boot_len (ea_cons (ev_v 0 (ea_nil ⟨R, _, rfl, .inl (SqL.of (g0 _ _ hR.lst)), _, rfl, by omega, by rw [List.length_map]; omega, ?_⟩))))
  rw [List.length_map, hal, Int.toNat_natCast]
  refine loop_range (fun r σ H3 => ∃ (ts : List Addr) (cs : List Nt.End) (u1 u2 : Option V), Same H H3 ∧ H3 lc = some (.lst (ts.map V.ref)) ∧ Pd H3 ts cs ∧ (∀ c ∈ cs, Corner n c) ∧ (0 < r → cs ≠ []) ∧ cs.length ≤ 101 * r ∧ σ = [some (.ref R), some (.int b), some (.str z), some (.str pt), some (.ref lc), u1, u2, none, none, none, none, none]) ⟨[], [], _, _, g0, upd_same, .nil, fun c hc => (nomatch hc), fun h => absurd h (by decide), Nat.le_refl _, rfl⟩ ?_ ?_
  · rintro r σ H3 hi ⟨ts, cs, u1, u2, sH, el, ep, hc, hne, hlen, rfl⟩
    rw [Int.zero_add]
    refine eg_name 5 nd ?_
    obtain ⟨a, ea, eat, et, ell, er⟩ := (hR.same sH).at hi
    have hrl := row_le n r
    refine run_forR1 T.range (ev_blt (call_max2 rfl) T.max PyProof.Rows.boot_max (ea_cons (ev_int (ea_cons (ev_blt call_len_seq T.len boot_len (ea_cons (ev_ix ix_tup (ev_ix ix_list (ev_v 0 (ev_v 5 ⟨R, _, _, .ref a.1, rfl, rfl, SqL.of (sH _ _ hR.lst), eat, ev_int ⟨a.1, _, _, .ref a.2, rfl, rfl, SqT.of et, rfl, ea_nil ⟨a.2, _, rfl, .inl (SqL.of ell), ?_⟩⟩⟩))))))))))
    rw [List.length_map]
    have em : (if ((row n r).length : Int) > 1 then ((row n r).length : Int) else 1) = ((max 1 (row n r).length : Nat) : Int) := by
      split <;> omega
    refine ea_nil ⟨1, _, rfl, ((max 1 (row n r).length : Nat) : Int), by rw [em], by omega, by omega, ?_⟩
    rw [Int.toNat_natCast]
    refine loop_range (fun p σ H4 => ∃ (ts : List Addr) (cs : List Nt.End) (u2 : Option V), Same H H4 ∧ H4 lc = some (.lst (ts.map V.ref)) ∧ Pd H4 ts cs ∧ (∀ c ∈ cs, Corner n c) ∧ (0 < r + p → cs ≠ []) ∧ cs.length ≤ 101 * r + p ∧ σ = [some (.ref R), some (.int b), some (.str z), some (.str pt), some (.ref lc), some (.int (r : Int)), u2, none, none, none, none, none]) ⟨ts, cs, _, sH, el, ep, hc, hne, hlen, rfl⟩ ?_ ?_
    · rintro p σ H4 hp ⟨ts, cs, u2, sH, el, ep, hc, hne, hlen, rfl⟩
      rw [Int.zero_add]
      refine eg_name 6 nd ?_
      refine run_expr (ev_append (ev_v 4 ⟨lc, rfl, ⟨_, el⟩, ev_tup (ea_cons (ev_v 5 (ea_cons (ev_v 6 (ea_nil ⟨(by show 2 ≤ sizeLine; decide), fun t ht => ?_⟩)))))⟩))
      have htl : lc ≠ t := ne_of_none el ht
      have s2 := same_new ht (Tp (r, p))
      have epl := ep.length
      refine ⟨ts.map V.ref, by rw [upd_ne htl]; exact el, by rw [List.length_map]; exact small' (by omega), ?_⟩
      refine run_nil ⟨ts ++ [t], cs ++ [(r, p)], _, same_mut (sH.trans s2) hlc, by rw [upd_same, List.map_append]; rfl, ?_, fun c h => ?_, fun _ => by simp, by rw [List.length_append]; simp; omega, rfl⟩
      · refine Pd.append (ep.keep fun x e h => ?_) (.cons ?_ .nil)
        · rw [upd_ne (tp_ne_lst h el)]
          exact s2 _ _ h
        · rw [upd_ne htl.symm, upd_same]
      · rcases List.mem_append.mp h with h | h
        · exact hc c h
        · rw [List.mem_singleton] at h
          subst h
          exact ⟨hi, hp⟩
    · rintro σ H4 ⟨ts, cs, u2, sH, el, ep, hc, hne, hlen, rfl⟩
      refine run_nil ⟨ts, cs, _, _, sH, el, ep, hc, fun _ => hne (by omega), by omega, rfl⟩
  rintro σ H3 ⟨ts, cs, u1, u2, sH, el, ep, hc, hne, hlen, rfl⟩
  have hn0 : 0 < n.length := List.length_pos_iff.mpr hF.some
  have cne := hne hn0
  have cpos : 0 < cs.length := List.length_pos_iff.mpr cne
  have epl := ep.length
  have m0 : 0 ≤ b % (cs.length : Int) := Int.emod_nonneg _ (by omega)
  have m1 : b % (cs.length : Int) < cs.length := Int.emod_lt_of_pos _ (by omega)
  obtain ⟨j, hj⟩ : ∃ j : Nat, b % (cs.length : Int) = j := ⟨(b % (cs.length : Int)).toNat, by omega⟩
  have hjl : j < cs.length := by omega
  have hce : cs[j]? = some cs[j] := List.getElem?_eq_getElem hjl
  obtain ⟨t1, et1, e1⟩ := ep.at hce
  have hcc : Corner n cs[j] := hc _ (List.getElem_mem hjl)
  generalize cs[j] = c1 at e1 hcc
  refine run_set 7 nd (ev_ix ix_list (ev_v 4 (ev_op op_mod (ev_v 1 (ev_blt call_len_seq T.len boot_len (ea_cons (ev_v 4 (ea_nil ⟨lc, _, rfl, .inl (SqL.of el), ?_⟩))))))))
  rw [List.length_map, epl]
  refine ⟨_, _, rfl, rfl, by omega, lc, _, _, .ref t1, rfl, rfl, SqL.of el, by rw [hj]; exact at_refs et1, ?_⟩
  refine run_set 1 nd (ev_op op_fdiv (ev_v 1 (ev_blt call_len_seq T.len boot_len (ea_cons (ev_v 4 (ea_nil ⟨lc, _, rfl, .inl (SqL.of el), ?_⟩))))))
  rw [List.length_map, epl]
  refine ⟨_, _, rfl, rfl, ⟨by omega, by omega⟩, ?_⟩
  show Run _ _ _ [some (.ref R), some (.int (b / (cs.length : Int))), some (.str z), some (.str pt), some (.ref lc), u1, u2, some (.ref t1), none, none, none, none] H3
  generalize b / (cs.length : Int) = b2
  refine run_set 8 nd (ev_op op_mod (ev_v 1 (ev_int ⟨_, _, rfl, rfl, (by show (0 : Int) < 3; decide), ?_⟩)))
  refine run_set 1 nd (ev_op op_fdiv (ev_v 1 (ev_int ⟨_, _, rfl, rfl, ⟨by decide, by decide⟩, ?_⟩)))
  show Run _ _ _ [some (.ref R), some (.int (b2 / 3)), some (.str z), some (.str pt), some (.ref lc), u1, u2, some (.ref t1), some (.int (b2 % 3)), none, none, none] H3
  generalize b2 / 3 = b3
  have hR3 := hR.same sH
  obtain ⟨a, ea, eat, eta, ela, era⟩ := hR3.at hcc.1
  have insOk : ∀ (m : Net), (ties m).length ≤ 200 → ∀ i, (row m i).length ≤ 200 := fun m h i => Nat.le_trans (row_le m i) h
  have cin : c1.2 ≤ (row n c1.1).length := by
    have := hcc.2
    omega
  refine run_if (et_cmp op_eq (ev_v 8 (ev_int ⟨rfl, _, rfl, ?_⟩)))
  refine ite2 (fun _ => ?_) (fun _ => run_nil ?_)
  ·
    have rl := row_le n c1.1
    refine run_expr (ev_m2 PySem.F.plainAttrs_list PySem.F.slot_list_insert PySem.F.type_list_insert mt_insert (ev_ix ix_tup (ev_ix ix_list (ev_v 0 (ev_ix ix_tup (ev_v 7 (ev_int ⟨t1, _, _, .int (c1.1 : Int), rfl, rfl, SqT.of e1, rfl, R, _, _, .ref a.1, rfl, rfl, SqL.of hR3.lst, eat, ev_int ⟨a.1, _, _, .ref a.2, rfl, rfl, SqT.of eta, rfl, Or.inl ⟨rfl, _, SqL.of ela⟩, ?_⟩⟩)))))))
    refine ev_ix ix_tup (ev_v 7 (ev_int ⟨t1, _, _, .int (c1.2 : Int), rfl, rfl, SqT.of e1, rfl, ev_v 2 ⟨a.2, _, _, _, rfl, rfl, ela, by omega, by rw [Int.toNat_natCast, List.length_map]; exact cin, by rw [List.length_map]; exact small' (by omega), ?_⟩⟩))
    rw [Int.toNat_natCast, ls_ins]
    have R4 := hR3.ins (z := z) ea hcc.1
    refine run_expr (ev_append (ev_v 0 ⟨R, rfl, ⟨_, R4.lst⟩, ev_tup (ea_cons (ev_v 3 (ea_cons (ev_lst (ea_cons (ev_v 2 (ea_nil ⟨(by show 1 ≤ sizeLine; decide), fun l1 hl1 => ?_⟩)))))))⟩))
    refine ea_nil ⟨(by show 2 ≤ sizeLine; decide), fun t2 ht2 => ?_⟩
    have s5 := same_new hl1 (Ls [z])
    have s6 := same_new ht2 (.tup [.str pt, .ref l1])
    have R6 := (R4.same s5).same s6
    refine ⟨_, R6.lst, by rw [List.length_map]; exact small' (by omega), ?_⟩
    have l1f : H3 l1 = none := by
      by_cases q1 : l1 = a.2
      · rw [q1, upd_same] at hl1; cases hl1
      · rwa [upd_ne q1] at hl1
    have l1n : l1 ∉ as.map (·.2) := fun hm => by
      obtain ⟨x, hx, e⟩ := List.mem_map.mp hm
      exact R4.fresh hl1 hx e.symm
    have l1R : l1 ≠ R := fun e => by rw [e, R4.lst] at hl1; cases hl1
    have R7 := R6.more (t := t2) (l := l1) (pt := pt) (zs := [z]) upd_same (s6 _ _ upd_same) l1n l1R
    refine run_ret (ev_v 1 (q _ _ _ _ R7 (fun x o hx hbad => ?_) (fun x hx => ?_) ?_ (.inr ?_) ?_ fun hh => hang_more (hang_ins hh) (ins_has hcc.1)))
    · have x1 : x ≠ R := fun e => hbad (by rw [e]; exact List.mem_cons_self)
      have x2 : x ≠ a.2 := fun e => hbad (List.mem_cons_of_mem _ (by rw [e]; exact List.mem_map.mpr ⟨a, List.mem_of_getElem? ea, rfl⟩))
      rw [upd_ne x1]
      refine s6 _ _ (s5 _ _ ?_)
      rw [upd_ne x2]
      exact sH _ _ hx
    · rcases List.mem_append.mp hx with hx | hx
      · exact .inl hx
      · rw [List.mem_singleton] at hx
        subst hx
        exact .inr (sH.free l1f)
    · unfold ties
      rw [List.flatMap_append]
      show (ties (ins n c1 z) ++ [z]).Perm _
      refine (List.perm_append_comm).trans ?_
      exact (ties_ins n c1 z hcc.1).cons z
    · rw [List.map_append, ins_names]
      rfl
    · refine .inr ⟨by simp, fun i hi => ?_⟩
      have hfi := (full_ins (z := z) hF hcc.1 hF.either).1
      rw [List.length_append] at hi
      simp at hi
      rcases Nat.lt_or_ge i (ins n c1 z).length with h | h
      · have := hfi i h
        unfold row at this ⊢
        rw [List.getElem?_append_left h]
        exact this
      · unfold row
        rw [List.getElem?_append_right h, show i - (ins n c1 z).length = 0 by omega]
        simp
  ·
    refine run_set 9 nd (ev_lst (ea_cons (ev_v 7 (ea_nil ⟨(by show 1 ≤ sizeLine; decide), fun lf hlf => ?_⟩))))
    have s4 := same_new hlf (.lst [.ref t1])
    have sH4 := sH.trans s4
    have hR4 := hR3.same s4
    obtain ⟨a0, ea0, eat0, et0, el0, er0⟩ := hR4.at hn0
    have lf0 : ∀ x ∈ as, lf ≠ x.2 := fun x hx => hR3.fresh hlf hx
    show Run _ _ _ [some (.ref R), some (.int b3), some (.str z), some (.str pt), some (.ref lc), u1, u2, some (.ref t1), some (.int (b2 % 3)), some (.ref lf), none, none] (upd H3 lf (.lst [.ref t1]))
    refine run_ifH (fun k H' => Same (upd H3 lf (.lst [.ref t1])) H' ∧ (k = true → row n 0 ≠ [])) (fun σ' H' => ∃ (lf : Addr) (ts2 : List Addr) (fs : List Nt.End), Same H3 H' ∧ (∀ x ∈ as, lf ≠ x.2) ∧ H' lf = some (.lst (ts2.map V.ref)) ∧ Pd H' ts2 fs ∧ 0 < fs.length ∧ fs.length ≤ 1000 ∧ (∀ c ∈ fs, Corner n c) ∧
      σ' = [some (.ref R), some (.int b3), some (.str z), some (.str pt), some (.ref lc), u1, u2, some (.ref t1), some (.int (b2 % 3)), some (.ref lf), none, none]) ?_ ?_ (fun H5 ⟨s5, _⟩ => run_nil ⟨lf, [t1], [c1], s4.trans s5, lf0, s5 _ _ upd_same, .cons (s5 _ _ (s4 _ _ e1)) .nil, Nat.one_pos, by show 1 ≤ 1000; decide, fun c hcm => by rw [List.mem_singleton] at hcm; rw [hcm]; exact hcc, rfl⟩) ?_
    · refine et_cmp (op_neD hu) (ev_ix ix_tup (ev_ix ix_list (ev_v 0 (ev_int ⟨R, _, _, .ref a0.1, rfl, rfl, SqL.of hR4.lst, eat0, ev_int ⟨a0.1, _, _, .ref a0.2, rfl, rfl, SqT.of et0, rfl, ev_lst (ea_nil ⟨(by show 0 ≤ sizeLine; decide), fun p hp => ?_⟩)⟩⟩))))
      have s5 := same_new hp (.lst [])
      by_cases h0 : row n 0 = []
      · refine ⟨1, _, by decide, rnD_list (k := 0) (xs := []) (ys := []) (fun _ => true) (SqL.of (by rw [s5 _ _ el0, h0]; rfl)) (SqL.of upd_same) rfl (fun j x y hx _ => by simp at hx), _, rfl, s5, fun h => by cases h⟩
      · refine ⟨1, _, by decide, rnD_lens (k := 1) (SqL.of (s5 _ _ el0)) (SqL.of (xs := []) upd_same) (by rw [List.length_map]; intro h; exact h0 (List.length_eq_zero_iff.mp h)), _, rfl, s5, fun _ => h0⟩
    · rintro H4 ⟨s45, h0⟩
      have h0 := h0 rfl
      have hR4 := hR4.same s45
      have he1 := hF.corner h0 hcc
      have hel := ends_len n
      refine run_set 9 nd (ev_call GF hr mF kF bF pass0 (ea_cons (ev_v 0 (ea_cons (ev_call GS hr mS kS bS pass0 (ea_cons (ev_v 0 (ea_nil ⟨R, as, n, rfl, hR4, by omega, by omega, fun d ks H5 s5 n5 S5 => ?_⟩))))))))
      refine ea_cons (ev_v 7 (ea_nil ⟨R, d, t1, as, n, ks, c1, rfl, hR4.same s5, S5, hT, s5 _ _ (s45 _ _ (s4 _ _ e1)), he1, by omega, fun l6 ts6 fs6 H6 s6 n6 e6 p6 f6 => ?_⟩))
      exact run_nil ⟨l6, ts6, fs6, s4.trans (s45.trans (s5.trans s6)), fun x hx => (hR4.same s5).fresh n6 hx, e6, p6, f6.pos, by have := f6.len; omega, fun c hcm => corner_of (f6.ends hT he1 c hcm), rfl⟩
    · rintro σ' H5 ⟨lf, ts2, fs, s5, lfn, elf, epf, fpos, flen, fcor, rfl⟩
      have epl2 := epf.length
      have n0 : 0 ≤ b3 % (fs.length : Int) := Int.emod_nonneg _ (by omega)
      have n1 : b3 % (fs.length : Int) < fs.length := Int.emod_lt_of_pos _ (by omega)
      obtain ⟨j2, hj2⟩ : ∃ j : Nat, b3 % (fs.length : Int) = j := ⟨(b3 % (fs.length : Int)).toNat, by omega⟩
      have hjl2 : j2 < fs.length := by omega
      have hce2 : fs[j2]? = some fs[j2] := List.getElem?_eq_getElem hjl2
      obtain ⟨t2, et2, e2⟩ := epf.at hce2
      have hcc2 : Corner n fs[j2] := fcor _ (List.getElem_mem hjl2)
      generalize fs[j2] = c2 at e2 hcc2
      have e1' := s5 _ _ e1
      refine run_set 10 nd (ev_ix ix_list (ev_v 9 (ev_op op_mod (ev_v 1 (ev_blt call_len_seq T.len boot_len (ea_cons (ev_v 9 (ea_nil ⟨lf, _, rfl, .inl (SqL.of elf), ?_⟩))))))))
      rw [List.length_map, epl2]
      refine ⟨_, _, rfl, rfl, by omega, lf, _, _, .ref t2, rfl, rfl, SqL.of elf, by rw [hj2]; exact at_refs et2, ?_⟩
      have hR5 := hR3.same s5
      show Run _ _ _ [some (.ref R), some (.int b3), some (.str z), some (.str pt), some (.ref lc), u1, u2, some (.ref t1), some (.int (b2 % 3)), some (.ref lf), some (.ref t2), none] H5
      refine run_forL (ev_sorted2 T.sorted (ev_lst (ea_cons (ev_v 7 (ea_cons (ev_v 10 (ea_nil ⟨(by show 2 ≤ sizeLine; decide), fun l2 hl2 => ?_⟩)))))))
      have s6 := same_new hl2 (.lst [.ref t1, .ref t2])
      refine ⟨l2, t1, t2, (c1.1 : Int), (c1.2 : Int), (c2.1 : Int), (c2.2 : Int), rfl, upd_same, s6 _ _ e1', s6 _ _ e2, fun rr hrr => ?_⟩
      have rn : ∀ x ∈ as, rr ≠ x.2 := fun x hx => (hR5.same s6).fresh hrr hx
      obtain ⟨x1, x2, k1, k2, hxs, f1, f2, q1, q2⟩ : ∃ x1 x2 k1 k2, (if lexLt ((c1.1 : Int), (c1.2 : Int)) ((c2.1 : Int), (c2.2 : Int)) = true then [V.ref t2, .ref t1] else [.ref t1, .ref t2]) = [.ref x1, .ref x2] ∧ (upd H5 l2 (.lst [.ref t1, .ref t2])) x1 = some (Tp k1) ∧ (upd H5 l2 (.lst [.ref t1, .ref t2])) x2 = some (Tp k2) ∧ Corner n k1 ∧ Corner n k2 := by
        cases lexLt ((c1.1 : Int), (c1.2 : Int)) ((c2.1 : Int), (c2.2 : Int)) with
        | true => exact ⟨t2, t1, c2, c1, rfl, s6 _ _ e2, s6 _ _ e1', hcc2, hcc⟩
        | false => exact ⟨t1, t2, c1, c2, rfl, s6 _ _ e1', s6 _ _ e2, hcc, hcc2⟩
      rw [hxs]
      have s7 := same_new hrr (.lst [.ref x1, .ref x2])
      have f1 := s7 _ _ f1
      have f2 := s7 _ _ f2
      have s6 := s6.trans s7
      have fr := upd_same (H := upd H5 l2 (.lst [.ref t1, .ref t2])) (a := rr) (o := .lst [.ref x1, .ref x2])
      generalize upd (upd H5 l2 (.lst [.ref t1, .ref t2])) rr (.lst [.ref x1, .ref x2]) = H6 at f1 f2 s6 fr ⊢
      have sH6 : Same H H6 := sH.trans (s5.trans s6)
      have hR6 := hR5.same s6
      have keep0 : Keep H H6 (R :: as.map (·.2)) := fun x o hx _ => sH6 _ _ hx
      refine ⟨rr, rfl, ⟨_, SqL.of fr⟩, loop_list (xs := [.ref x1, .ref x2]) (fun i σ H7 => ∃ (m : Net) (u : Option V), RowsAt H7 R as m ∧ Keep H H7 (R :: as.map (·.2)) ∧ H7 rr = some (.lst [.ref x1, .ref x2]) ∧ H7 lf = some (.lst (ts2.map V.ref)) ∧ H7 x1 = some (Tp k1) ∧ H7 x2 = some (Tp k2) ∧
        ((i = 0 ∧ m = n) ∨ (i = 1 ∧ m = ins n k1 z) ∨ (i = 2 ∧ m = ins (ins n k1 z) k2 z)) ∧ σ = [some (.ref R), some (.int b3), some (.str z), some (.str pt), some (.ref lc), u1, u2, some (.ref t1), some (.int (b2 % 3)), some (.ref lf), some (.ref t2), u]) ⟨n, _, hR6, keep0, fr, s6 _ _ elf, f1, f2, .inl ⟨rfl, rfl⟩, rfl⟩ ?_ ?_ ?_⟩
      · rintro i σ H7 _ ⟨m, u, _, _, fr7, _⟩
        exact SqL.of fr7
      · rintro i v σ H7 hv ⟨m, u, hR7, kp7, fr7, fl7, g1, g2, hm, rfl⟩
        have ti1 := (ties_ins n k1 z q1.1).length_eq
        rw [List.length_cons] at ti1
        obtain ⟨y, k, rfl, hy, hk, hnext, hml⟩ : ∃ y k, v = .ref y ∧ H7 y = some (Tp k) ∧ Corner m k ∧ ((i + 1 = 0 ∧ ins m k z = n) ∨ (i + 1 = 1 ∧ ins m k z = ins n k1 z) ∨ (i + 1 = 2 ∧ ins m k z = ins (ins n k1 z) k2 z)) ∧ (ties m).length ≤ 200 := by
          rcases hm with ⟨rfl, rfl⟩ | ⟨rfl, rfl⟩ | ⟨rfl, rfl⟩
          · cases hv
            exact ⟨x1, k1, rfl, g1, q1, .inr (.inl ⟨rfl, rfl⟩), by omega⟩
          · cases hv
            exact ⟨x2, k2, rfl, g2, corner_ins q2 q1.1, .inr (.inr ⟨rfl, rfl⟩), by omega⟩
          · simp at hv
        refine eg_name 11 nd ?_
        obtain ⟨a', ea', eat', eta', ela', era'⟩ := hR7.at hk.1
        have rl := row_le m k.1
        have kin : k.2 ≤ (row m k.1).length := by
          have := hk.2
          omega
        refine run_expr (ev_m2 PySem.F.plainAttrs_list PySem.F.slot_list_insert PySem.F.type_list_insert mt_insert (ev_ix ix_tup (ev_ix ix_list (ev_v 0 (ev_ix ix_tup (ev_v 11 (ev_int ⟨y, _, _, .int (k.1 : Int), rfl, rfl, SqT.of hy, rfl, R, _, _, .ref a'.1, rfl, rfl, SqL.of hR7.lst, eat', ev_int ⟨a'.1, _, _, .ref a'.2, rfl, rfl, SqT.of eta', rfl, Or.inl ⟨rfl, _, SqL.of ela'⟩, ?_⟩⟩)))))))
        refine ev_ix ix_tup (ev_v 11 (ev_int ⟨y, _, _, .int (k.2 : Int), rfl, rfl, SqT.of hy, rfl, ev_v 2 ⟨a'.2, _, _, _, rfl, rfl, ela', by omega, by rw [Int.toNat_natCast, List.length_map]; exact kin, by rw [List.length_map]; exact small' (by omega), ?_⟩⟩))
        rw [Int.toNat_natCast, ls_ins]
        have am : a' ∈ as := List.mem_of_getElem? ea'
        refine run_nil ⟨ins m k z, _, hR7.ins ea' hk.1, fun x o hx hbad => ?_, by rw [upd_ne (rn a' am)]; exact fr7, by rw [upd_ne (lfn a' am)]; exact fl7, by rw [upd_ne (tp_ne_lst g1 ela')]; exact g1, by rw [upd_ne (tp_ne_lst g2 ela')]; exact g2, hnext, rfl⟩
        have x2 : x ≠ a'.2 := fun e => hbad (List.mem_cons_of_mem _ (by rw [e]; exact List.mem_map.mpr ⟨a', am, rfl⟩))
        rw [upd_ne x2]
        exact kp7 x o hx hbad
      · rintro σ H7 ⟨m, u, hR7, kp7, fr7, fl7, g1, g2, hm, rfl⟩
        have em : m = ins (ins n k1 z) k2 z := by
          rcases hm with ⟨h, _⟩ | ⟨h, _⟩ | ⟨_, h⟩
          · exact absurd h (by show ¬ (2 = 0); decide)
          · exact absurd h (by show ¬ (2 = 1); decide)
          · exact h
        refine run_ret (ev_op op_fdiv (ev_v 1 (ev_blt call_len_seq T.len boot_len (ea_cons (ev_v 9 (ea_nil ⟨lf, _, rfl, .inl (SqL.of fl7), ?_⟩))))))
        rw [List.length_map, epl2]
        refine ⟨_, _, rfl, rfl, ⟨by omega, by omega⟩, ?_⟩
        have fi := full_ins (z := z) hF q1.1 hF.either
        have F2 : Full (ins n k1 z) := .inr ⟨fi.2, fi.1⟩
        have fi2 := full_ins (z := z) F2 (corner_ins (z := z) q2 q1.1).1 F2.either
        subst em
        exact q _ as _ H7 hR7 kp7 (fun x hx => .inl hx) ((ties_ins _ k2 z (corner_ins (z := z) q2 q1.1).1).trans ((ties_ins n k1 z q1.1).cons z)) (.inl (by rw [ins_names, ins_names])) (.inr ⟨fi2.2, fi2.1⟩) fun hh => hang_ins (hang_ins hh)
end
end C6
namespace C6
open PySem L2 Nt Sort2
def spNet : Sp := fun vs H Q _ => ∃ (b m sm : Int), vs = [.int b, .int m, .int sm] ∧ 0 ≤ m ∧ m ≤ 35 ∧
  ∀ L as n H', Same H H' → H L = none → RowsAt H' L as n → Twice n → (n.map (·.1)).Nodup → Full n → Hang n → (ties n).length ≤ 2 * m.toNat → n.length ≤ m.toNat + 1 → (∀ a ∈ as, H a.2 = none) → Q (.ref L) H'
section
variable {P : Program} {w : World} {K : PySem.W.Frag} {mg : Str → Option Value} {base : Heap}
abbrev NB : List Str := ["_law_big_here", "_law_most", "_law_stem", "_law_many", "_law_ties", "_law_points", "_law_rows", "_law_k", "_law_told", "_law_row", "_law_size"]
theorem scNet : FnScope NB ["_law_big_here", "_law_most", "_law_stem"] (defScope sNet) := ⟨rfl, rfl, rfl, by decide +kernel, rfl, by decide +kernel, by decide +kernel⟩
theorem ty_lst {H : Hp} {d : Addr} {xs : List V} (h : H d = some (.lst xs)) : tyV K "list" (.ref d) H := Or.inl ⟨rfl, xs, SqL.of h⟩
theorem at_name {b : Int} {m i : Nat} (h : i < m) : atI ((namesOf b m).map V.str) (i : Int) = some (.str (nameOf b i)) := at_strs (namesOf_at h)
theorem ok_net {f gN gP : Addr} {fd dN dP : FuncData} (F : Fun K "_law_net_by" "_law_net_by" sNet f fd) (T : Txt mg)
    (GN : FnOk P w K mg base CX0 4 gN dN ["_law_stem", "_law_many"] spNames) (bN : Binds K dN ["_law_stem", "_law_many"] []) (kN : PySem.W.keepIn K (.ref gN) = true) (mN : mg "_law_names" = some (.ref gN))
    (GP : FnOk P w K mg base CX0 4 gP dP ["_law_rows", "_law_big_here", "_law_tie", "_law_point"] spPut) (bP : Binds K dP ["_law_rows", "_law_big_here", "_law_tie", "_law_point"] []) (kP : PySem.W.keepIn K (.ref gP) = true) (mP : mg "_law_put" = some (.ref gP)) :
    FnOk P w K mg base CX0 5 f fd ["_law_big_here", "_law_most", "_law_stem"] spNet := by
  refine F.go scNet (fun vs H Q E h => ?_) (fun cdv A outer s H vs Q E hr h => ?_)
  · obtain ⟨b, m, sm, rfl, _⟩ := h
    rfl
  obtain ⟨b, m, sm, rfl, m0, m35, q⟩ := h
  have nd := scNet.nd
  have hu : (A.deeper (PyProof.Rows.envOfC "_law_net_by" (defScope sNet) s.heap.objs.size f cdv)).units + 100 < cLine := by have := hr.un; omega
  have k0 : 0 ≤ b % (m + 1) := Int.emod_nonneg _ (by omega)
  have k1 : b % (m + 1) < m + 1 := Int.emod_lt_of_pos _ (by omega)
  obtain ⟨mn, hmn⟩ : ∃ k : Nat, b % (m + 1) = k := ⟨(b % (m + 1)).toNat, by omega⟩
  have hmm : mn ≤ m.toNat := by omega
  show Run _ _ _ [some (.int b), some (.int m), some (.int sm), none, none, none, none, none, none, none, none] H
  refine run_set 3 nd (ev_op op_mod (ev_v 0 (ev_op op_add (ev_v 1 (ev_int ⟨_, _, rfl, rfl, ?_⟩)))))
  refine ⟨_, _, rfl, rfl, (by show 0 < m + 1; omega), ?_⟩
  refine run_set 0 nd (ev_op op_fdiv (ev_v 0 (ev_op op_add (ev_v 1 (ev_int ⟨_, _, rfl, rfl, ?_⟩)))))
  refine ⟨_, _, rfl, rfl, (by show CDiv b (m + 1); exact ⟨by omega, by omega⟩), ?_⟩
  show Run _ _ _ [some (.int (b / (m + 1))), some (.int m), some (.int sm), some (.int (b % (m + 1))), none, none, none, none, none, none, none] H
  rw [hmn]
  generalize b / (m + 1) = b1
  refine run_set 4 nd (ev_call GN hr mN kN bN pass0 (ea_cons (ev_v 2 (ea_cons (ev_v 3 (ea_nil ⟨sm, (mn : Int), rfl, by omega, by omega, fun lt H1 s1 n1 e1 => ?_⟩))))))
  rw [Int.toNat_natCast] at e1
  refine run_set 5 nd (ev_call GN hr mN kN bN pass0 (ea_cons (ev_ix ix_list (ev_lst (ea_cons (ev_op op_add (ev_op op_fdiv (ev_v 2 (ev_int ⟨_, _, rfl, rfl, ⟨by decide, by decide⟩, ev_int ⟨_, _, rfl, rfl, ea_cons (ev_v 2 (ea_nil ⟨(by show 2 ≤ sizeLine; decide), fun p hp => ?_⟩))⟩⟩)))))))))
  refine ev_typ call_intB T.tint PyProof.Rows.boot_int (ea_cons (ev_cmp op_eq (ev_op op_mod (ev_v 2 (ev_int ⟨_, _, rfl, rfl, (by show (0 : Int) < 4; decide), ev_int ⟨rfl, ea_nil ⟨_, rfl, ?_⟩⟩⟩)))))
  have s2 := same_new hp (.lst [.int (sm / 3 + 1), .int sm])
  obtain ⟨s2m, ex⟩ : ∃ s2m : Int, atI [V.int (sm / 3 + 1), .int sm] (if decide (V.int (sm % 4) = V.int 1) = true then 1 else 0) = some (.int s2m) := by
    cases decide (V.int (sm % 4) = V.int 1) with
    | true => exact ⟨sm, rfl⟩
    | false => exact ⟨sm / 3 + 1, rfl⟩
  refine ⟨p, _, _, .int s2m, rfl, rfl, SqL.of upd_same, ex, ?_⟩
  refine ea_cons (ev_op op_add (ev_v 3 (ev_int ⟨_, _, rfl, rfl, ea_nil ⟨s2m, (mn : Int) + 1, rfl, by omega, by omega, fun lp H2 s3 n3 e3 => ?_⟩⟩)))
  have em : ((mn : Int) + 1).toNat = mn + 1 := by omega
  rw [em] at e3
  have sH2 : Same H H2 := s1.trans (s2.trans s3)
  have e1 : H2 lt = some (Ls (namesOf sm mn)) := s3 _ _ (s2 _ _ e1)
  show Run _ _ _ [some (.int b1), some (.int m), some (.int sm), some (.int (mn : Int)), some (.ref lt), some (.ref lp), none, none, none, none, none] H2
  refine run_set 6 nd (ev_lst (ea_cons (ev_tup (ea_cons (ev_ix ix_list (ev_v 5 (ev_int ⟨lp, _, _, .str (nameOf s2m 0), rfl, rfl, SqL.of e3, at_name (Nat.succ_pos _), ea_cons (ev_lst (ea_nil ⟨(by show 0 ≤ sizeLine; decide), fun l1 hl1 => ?_⟩))⟩)))))))
  refine ea_nil ⟨(by show 2 ≤ sizeLine; decide), fun t1 ht1 => ea_nil ⟨(by show 1 ≤ sizeLine; decide), fun R hRn => ?_⟩⟩
  have s4 := same_new hl1 (Ls [])
  have s5 := same_new ht1 (.tup [.str (nameOf s2m 0), .ref l1])
  have s6 := same_new hRn (.lst [.ref t1])
  have hR0 : RowsAt (upd (upd (upd H2 l1 (.lst [])) t1 (.tup [.str (nameOf s2m 0), .ref l1])) R (.lst [.ref t1])) R [(t1, l1)] [(nameOf s2m 0, [])] := by
    refine ⟨rfl, upd_same, fun i a r h1 h2 => ?_, by simp⟩
    cases i with
    | zero =>
      cases h1
      cases h2
      exact ⟨s6 _ _ upd_same, s6 _ _ (s5 _ _ upd_same)⟩
    | succ i => simp at h1
  have fR : H2 R = none := s4.free (s5.free hRn)
  show Run _ _ _ [some (.int b1), some (.int m), some (.int sm), some (.int (mn : Int)), some (.ref lt), some (.ref lp), some (.ref R), none, none, none, none] (upd (upd (upd H2 l1 (.lst [])) t1 (.tup [.str (nameOf s2m 0), .ref l1])) R (.lst [.ref t1]))
  refine run_forR1 T.range (ev_v 3 ⟨(mn : Int), rfl, by omega, by omega, ?_⟩)
  rw [Int.toNat_natCast]
  refine loop_range (fun k σ H3 => ∃ (as : List (Addr × Addr)) (n : Net) (b : Int) (u : Option V), RowsAt H3 R as n ∧ Same H2 H3 ∧ (∀ a ∈ as, H2 a.2 = none) ∧ Full n ∧ Hang n ∧ (ties n).Perm (dbl (namesOf sm k)) ∧ n.map (·.1) = namesOf s2m n.length ∧ n.length ≤ k + 1 ∧
    σ = [some (.int b), some (.int m), some (.int sm), some (.int (mn : Int)), some (.ref lt), some (.ref lp), some (.ref R), u, none, none, none]) ⟨_, _, b1, _, hR0, s4.trans (s5.trans s6), fun a ha => by rw [List.mem_singleton] at ha; rw [ha]; exact hl1, .inl ⟨_, rfl⟩, hang_one _, List.Perm.refl _, rfl, Nat.le_refl _, rfl⟩ ?_ ?_
  · rintro k σ H3 hk ⟨as, n, b, u, hR, sH, hfr, hF, hHg, hp, hnm, hlen, rfl⟩
    rw [Int.zero_add]
    refine eg_name 7 nd ?_
    have hal := hR.len
    have tl := hp.length_eq
    rw [dbl_len, namesOf_len] at tl
    have nz : nameOf sm k ∉ ties n := fun h => by
      have h1 := dbl_mem.mp (hp.mem_iff.mp h)
      have h2 := namesOf_nodup (b := sm) (m := k + 1) (by omega)
      rw [namesOf_succ, List.nodup_append] at h2
      exact h2.2.2 _ h1 _ (List.mem_singleton.mpr rfl) rfl
    have n0 : 0 < n.length := List.length_pos_iff.mpr hF.some
    refine run_set 0 nd (ev_call GP hr mP kP bP pass0 (ea_cons (ev_v 6 (ea_cons (ev_v 0 (ea_cons (ev_ix ix_list (ev_v 4 (ev_v 7 ⟨lt, _, _, .str (nameOf sm k), rfl, rfl, SqL.of (sH _ _ e1), at_name hk, ?_⟩)))))))))
    refine ea_cons (ev_ix ix_list (ev_v 5 (ev_blt call_len_seq T.len boot_len (ea_cons (ev_v 6 (ea_nil ⟨R, _, rfl, .inl (SqL.of hR.lst), ?_⟩))))))
    rw [List.length_map, hal]
    refine ⟨lp, _, _, .str (nameOf s2m n.length), rfl, rfl, SqL.of (sH _ _ e3), at_name (by omega), ?_⟩
    refine ea_nil ⟨R, as, n, b, nameOf sm k, nameOf s2m n.length, rfl, hR, twice_of (namesOf_nodup (by omega)) hp, hF, nz, by omega, by omega, fun i as' n' H' hR' kp hfr' hp' hnm' hF' hHg' => ?_⟩
    have sH' : Same H2 H' := fun x o hx => by
      refine kp x o (sH _ _ hx) fun hm => ?_
      rcases List.mem_cons.mp hm with h | h
      · rw [h, fR] at hx; cases hx
      · obtain ⟨y, hy, e⟩ := List.mem_map.mp h
        rw [← e, hfr y hy] at hx; cases hx
    refine run_nil ⟨as', n', i, _, hR', sH', fun y hy => ?_, hF', hHg' hHg, ?_, ?_, ?_, rfl⟩
    · rcases hfr' y hy with h | h
      · exact hfr y h
      · exact sH.free h
    · refine hp'.trans ?_
      rw [namesOf_succ, dbl_snoc]
      refine List.Perm.trans ?_ List.perm_append_comm
      exact ((hp.cons _).cons _)
    · rcases hnm' with h | h
      · have hl := congrArg List.length h
        rw [List.length_map, List.length_map] at hl
        rw [h, hl]
        exact hnm
      · have hl := congrArg List.length h
        rw [List.length_map, List.length_append, List.length_map] at hl
        have hl' : n'.length = n.length + 1 := hl
        rw [h, hl', namesOf_succ, hnm]
    · rcases hnm' with h | h
      · have hl := congrArg List.length h
        rw [List.length_map, List.length_map] at hl
        omega
      · have hl := congrArg List.length h
        rw [List.length_map, List.length_append, List.length_map] at hl
        have hl' : n'.length = n.length + 1 := hl
        omega
  rintro σ H3 ⟨as0, n0, b, u, hR, sH, hfr, hF, hHg, hp, hnm, hlen, rfl⟩
  have tl := hp.length_eq
  rw [dbl_len, namesOf_len] at tl
  have hT0 : Twice n0 := twice_of (namesOf_nodup (by omega)) hp
  have hN0 : (n0.map (·.1)).Nodup := by rw [hnm]; exact namesOf_nodup (by omega)
  refine run_set 8 nd (ev_lst (ea_nil ⟨(by show 0 ≤ sizeLine; decide), fun L hL => ?_⟩))
  have s7 := same_new hL (.lst [])
  have hRL : R ≠ L := ne_of_none hR.lst hL
  have fL : H2 L = none := sH.free hL
  have hL0 : RowsAt (upd H3 L (.lst [])) L [] [] := ⟨rfl, upd_same, fun i a r h1 => by simp at h1, by simp⟩
  refine run_while (fun k σ H4 => ∃ (as as2 : List (Addr × Addr)) (n n2 : Net) (b : Int) (u9 u10 : Option V), k = n.length ∧ RowsAt H4 R as n ∧ RowsAt H4 L as2 n2 ∧ Same H2 H4 ∧ (∀ a ∈ as, a.2 ≠ L) ∧ (∀ a ∈ as2, a.2 ≠ R) ∧ (∀ a ∈ as2, H2 a.2 = none) ∧ n.length + n2.length = n0.length ∧
      (ties n ++ ties n2).Perm (ties n0) ∧ (n.map (·.1) ++ n2.map (·.1)).Perm (n0.map (·.1)) ∧ (NE n0 → NE n ∧ NE n2) ∧ (∀ r ∈ n0, ∃ x ∈ n ++ n2, x.1 = r.1 ∧ ∀ t ∈ r.2, t ∈ x.2) ∧ (∀ x ∈ n ++ n2, ∃ r ∈ n0, r.1 = x.1) ∧
      σ = [some (.int b), some (.int m), some (.int sm), some (.int (mn : Int)), some (.ref lt), some (.ref lp), some (.ref R), u, some (.ref L), u9, u10])
    (m0 := n0.length) ⟨as0, [], n0, [], b, _, _, rfl, hR.same s7, hL0, sH.trans s7, fun a ha => (hR.fresh hL ha).symm, fun a ha => (nomatch ha), fun a ha => (nomatch ha), rfl, by simp [ties], by simp, fun h => ⟨h, fun r hr => (nomatch hr)⟩, fun r hr => ⟨r, by rw [List.append_nil]; exact hr, rfl, fun t ht => ht⟩, fun x hx => ⟨x, by rw [List.append_nil] at hx; exact hx, rfl⟩, rfl⟩ ?_
  rintro k σ H4 ⟨as, as2, n, n2, b, u9, u10, rfl, hR, hL2, sH, aL, aR, fr2, hlen2, pt, pn, hne, hg1, hg2, rfl⟩
  have hal := hR.len
  have hal2 := hL2.len
  have tlen : (ties n).length ≤ 70 := by
    have := pt.length_eq
    rw [List.length_append] at this
    omega
  refine et_cmp (op_neD hu) (ev_v 6 (ev_lst (ea_nil ⟨(by show 0 ≤ sizeLine; decide), fun p hp2 => ?_⟩)))
  have s8 := same_new hp2 (.lst [])
  by_cases h0 : n = []
  · subst h0
    have ea : as = [] := List.length_eq_zero_iff.mp (by simpa using hal)
    subst ea
    refine ⟨1, _, by decide, rnD_list (k := 0) (xs := []) (ys := []) (fun _ => true) (SqL.of (s8 _ _ hR.lst)) (SqL.of upd_same) rfl (fun j x y hx _ => by simp at hx), _, rfl, iteF (run_ret (ev_v 8 ?_))⟩
    have pt' : (ties n2).Perm (ties n0) := pt
    have pn' : (n2.map (·.1)).Perm (n0.map (·.1)) := pn
    have l2 : n2.length = n0.length := by simpa using hlen2
    refine q L as2 n2 _ (sH2.trans (sH.trans s8)) (sH2.free fL) (hL2.same s8) (fun z hz => ?_) (pn'.nodup_iff.mpr hN0) ?_ (hang_of hg1 hg2 hHg) (by rw [pt'.length_eq]; omega) (by omega) fun a ha => sH2.free (fr2 a ha)
    · rw [pt'.count_eq]
      exact hT0 z (pt'.mem_iff.mp hz)
    · rcases hF.ne with ⟨nm, h⟩ | h
      · subst h
        have t0 : ties n2 = [] := List.Perm.eq_nil pt'
        match n2, l2, t0 with
        | [(nm2, zs)], _, t0 =>
          have : zs = [] := by simpa [ties] using t0
          subst this
          exact .inl ⟨_, rfl⟩
      · refine ne_full (hne h).2 fun e => ?_
        rw [e] at l2
        exact hF.some (List.length_eq_zero_iff.mp l2.symm)
  · have np : 0 < n.length := List.length_pos_iff.mpr h0
    refine ⟨1, _, by decide, rnD_lens (k := 1) (SqL.of (s8 _ _ hR.lst)) (SqL.of (xs := []) upd_same) (by rw [List.length_map, hal]; exact Nat.ne_of_gt np), _, rfl, iteT ?_⟩
    have hR := hR.same s8
    have hL2 := hL2.same s8
    have sH := sH.trans s8
    generalize upd H4 p (.lst []) = H5 at hR hL2 sH ⊢
    have r0 : 0 ≤ b % (n.length : Int) := Int.emod_nonneg _ (by omega)
    have r1 : b % (n.length : Int) < n.length := Int.emod_lt_of_pos _ (by omega)
    obtain ⟨j, hj⟩ : ∃ k : Nat, b % (n.length : Int) = k := ⟨(b % (n.length : Int)).toNat, by omega⟩
    have hjn : j < n.length := by omega
    obtain ⟨a, ea, eat, et, el, er⟩ := hR.at hjn
    refine run_set 9 nd (ev_m1 PySem.F.plainAttrs_list PySem.F.slot_list_pop PySem.F.type_list_pop mt_popAt (ev_v 6 ⟨ty_lst hR.lst, ev_op op_mod (ev_v 0 (ev_blt call_len_seq T.len boot_len (ea_cons (ev_v 6 (ea_nil ⟨R, _, rfl, .inl (SqL.of hR.lst), ?_⟩)))))⟩))
    rw [List.length_map, hal]
    refine ⟨_, _, rfl, rfl, by omega, R, _, _, j, .ref a.1, rfl, rfl, hR.lst, by rw [hj]; omega, by rw [hj]; omega, ?_, ?_, ?_⟩
    · rw [hj, List.length_map, hal]
      unfold seqIndex?
      have c1 : ¬ ((j : Int) < 0) := by omega
      simp only [c1, if_false]
      have c2 : (decide (0 ≤ (j : Int)) && decide ((j : Int) < (n.length : Int))) = true := by
        rw [Bool.and_eq_true, decide_eq_true_eq, decide_eq_true_eq]
        omega
      rw [if_pos c2, Int.toNat_natCast]
    · rw [List.getElem?_map, ea]
      rfl
    have R6 := hR.erase hjn
    have am : a ∈ as := List.mem_of_getElem? ea
    have lneR : ∀ x ∈ as, x.2 ≠ R := fun x hx e => by
      obtain ⟨zs, e2⟩ := hR.lists hx
      have h3 := hR.lst
      rw [← e, e2] at h3
      have h4 := HO.lst.inj (Option.some.inj h3)
      cases as with
      | nil => cases hx
      | cons b' bs =>
        cases zs with
        | nil => simp at h4
        | cons y r => simp at h4
    have L6 := hL2.upd (o := .lst ((as.map fun a => V.ref a.1).eraseIdx j)) hR.lst hRL.symm aR
    have et6 : (upd H5 R (.lst ((as.map fun a => V.ref a.1).eraseIdx j))) a.1 = some (.tup [.str n[j].1, .ref a.2]) := by rw [upd_ne (ne_of et hR.lst fun e => nomatch e)]; exact et
    have el6 : (upd H5 R (.lst ((as.map fun a => V.ref a.1).eraseIdx j))) a.2 = some (Ls (row n j)) := by rw [upd_ne (lneR a am)]; exact el
    have sH6 : Same H2 (upd H5 R (.lst ((as.map fun a => V.ref a.1).eraseIdx j))) := same_mut sH fR
    generalize upd H5 R (.lst ((as.map fun a => V.ref a.1).eraseIdx j)) = H6 at R6 L6 et6 el6 sH6 ⊢
    have le6 := R6.len
    have len6 : (n.eraseIdx j).length = n.length - 1 := by rw [List.length_eraseIdx, if_pos hjn]
    refine run_set 0 nd (ev_op op_fdiv (ev_v 0 (ev_op op_add (ev_blt call_len_seq T.len boot_len (ea_cons (ev_v 6 (ea_nil ⟨R, _, rfl, .inl (SqL.of R6.lst), ev_int ⟨_, _, rfl, rfl, ?_⟩⟩)))))))
    rw [List.length_map, le6, len6]
    refine ⟨_, _, rfl, rfl, ⟨by omega, by omega⟩, ?_⟩
    have rlen := row_le n j
    refine run_set 10 nd (ev_blt (call_max2 rfl) T.max PyProof.Rows.boot_max (ea_cons (ev_int (ea_cons (ev_blt call_len_seq T.len boot_len (ea_cons (ev_ix ix_tup (ev_v 9 (ev_int ⟨a.1, _, _, .ref a.2, rfl, rfl, SqT.of et6, rfl, ea_nil ⟨a.2, _, rfl, .inl (SqL.of el6), ?_⟩⟩)))))))))
    rw [List.length_map]
    refine ea_nil ⟨1, _, rfl, ?_⟩
    have emx : (if ((row n j).length : Int) > 1 then ((row n j).length : Int) else 1) = ((max 1 (row n j).length : Nat) : Int) := by
      split <;> omega
    rw [emx]
    show Run _ _ _ [some (.int (b / ((n.length - 1 : Nat) + 1 : Int))), some (.int m), some (.int sm), some (.int (mn : Int)), some (.ref lt), some (.ref lp), some (.ref R), u, some (.ref L), some (.ref a.1), some (.int ((max 1 (row n j).length : Nat) : Int))] H6
    generalize b / ((n.length - 1 : Nat) + 1 : Int) = b2
    have z0 : 0 ≤ b2 % ((max 1 (row n j).length : Nat) : Int) := Int.emod_nonneg _ (by omega)
    obtain ⟨i, hi⟩ : ∃ k : Nat, b2 % ((max 1 (row n j).length : Nat) : Int) = k := ⟨(b2 % ((max 1 (row n j).length : Nat) : Int)).toNat, by omega⟩
    refine run_expr (ev_append (ev_v 8 ⟨L, rfl, ⟨_, L6.lst⟩, ev_tup (ea_cons (ev_ix ix_tup (ev_v 9 (ev_int ⟨a.1, _, _, .str n[j].1, rfl, rfl, SqT.of et6, rfl, ?_⟩))))⟩))
    refine ea_cons (ev_op op_cat (ev_slice sl_list (ev_ix ix_tup (ev_v 9 (ev_int ⟨a.1, _, _, .ref a.2, rfl, rfl, SqT.of et6, rfl, eo_some (ev_op op_mod (ev_v 0 (ev_v 10 ⟨b2, ((max 1 (row n j).length : Nat) : Int), rfl, rfl, by omega, _, rfl, eo_none ⟨a.2, _, rfl, SqL.of el6, fun p1 hp1 => ?_⟩⟩)))⟩)))))
    rw [hi, cut_from]
    have t1 := same_new hp1 (Ls ((row n j).drop i))
    refine ev_slice sl_list (ev_ix ix_tup (ev_v 9 (ev_int ⟨a.1, _, _, .ref a.2, rfl, rfl, SqT.of (t1 _ _ et6), rfl, eo_none (eo_some (ev_op op_mod (ev_v 0 (ev_v 10 ⟨b2, ((max 1 (row n j).length : Nat) : Int), rfl, rfl, by omega, _, rfl, a.2, _, rfl, SqL.of (t1 _ _ el6), fun p2 hp2 => ?_⟩))))⟩)))
    rw [hi, cut_to]
    have t2 := same_new hp2 (Ls ((row n j).take i))
    refine ⟨p1, p2, _, _, rfl, rfl, t2 _ _ upd_same, upd_same, ?_, fun p3 hp3 => ?_⟩
    · rw [List.length_map, List.length_map, List.length_drop, List.length_take]
      exact small (by omega)
    rw [← List.map_append]
    have t3 := same_new hp3 (Ls ((row n j).drop i ++ (row n j).take i))
    refine ea_nil ⟨(by show 2 ≤ sizeLine; decide), fun t4 ht4 => ?_⟩
    have s4 := same_new ht4 (.tup [.str n[j].1, .ref p3])
    have sAll := t1.trans (t2.trans (t3.trans s4))
    have L7 := L6.same sAll
    have R7 := R6.same sAll
    have p3L : p3 ≠ L := fun e => by rw [e, (t1.trans t2) _ _ L6.lst] at hp3; cases hp3
    have p3R : p3 ≠ R := fun e => by rw [e, (t1.trans t2) _ _ R6.lst] at hp3; cases hp3
    have p3n : p3 ∉ as2.map (·.2) := fun hm => by
      obtain ⟨y, hy, e⟩ := List.mem_map.mp hm
      exact (L6.same (t1.trans t2)).fresh hp3 hy e.symm
    have L8 := L7.more (t := t4) (l := p3) (pt := n[j].1) (zs := (row n j).drop i ++ (row n j).take i) upd_same (s4 _ _ upd_same) p3n p3L
    refine ⟨_, L7.lst, by rw [List.length_map, hal2]; exact small' (by omega), ?_⟩
    have aL6 : ∀ x ∈ as.eraseIdx j, x.2 ≠ L := fun x hx => aL x (List.mem_of_mem_eraseIdx hx)
    have R8 := R7.upd (o := .lst (as2.map (fun a => V.ref a.1) ++ [.ref t4])) L7.lst hRL aL6
    refine run_set 0 nd (ev_op op_fdiv (ev_v 0 (ev_v 10 ⟨b2, ((max 1 (row n j).length : Nat) : Int), rfl, rfl, ⟨by omega, by omega⟩, ?_⟩)))
    have pe := ties_erase n j hjn
    have ne := names_erase n j hjn
    refine run_nil ⟨n.length - 1, by omega, as.eraseIdx j, as2 ++ [(t4, p3)], n.eraseIdx j, n2 ++ [(n[j].1, (row n j).drop i ++ (row n j).take i)], _, _, _, len6.symm, R8, L8, same_mut (sH6.trans sAll) fL, aL6, fun x hx => ?_, fun x hx => ?_, ?_, ?_, ?_, fun h => ⟨fun r hr => ?_, fun r hr => ?_⟩, fun r hr => ?_, fun x hx => ?_, rfl⟩
    · rcases List.mem_append.mp hx with hx | hx
      · exact aR x hx
      · rw [List.mem_singleton] at hx
        rw [hx]
        exact p3R
    · rcases List.mem_append.mp hx with hx | hx
      · exact fr2 x hx
      · rw [List.mem_singleton] at hx
        rw [hx]
        exact sH6.free (t1.free (t2.free hp3))
    · rw [List.length_append, len6]
      simp
      omega
    · refine List.Perm.trans ?_ pt
      unfold ties
      rw [List.flatMap_append]
      show (ties (n.eraseIdx j) ++ (ties n2 ++ (((row n j).drop i ++ (row n j).take i) ++ []))).Perm _
      rw [List.append_nil, er]
      have w1 : (n[j].2.drop i ++ n[j].2.take i).Perm n[j].2 := rot_perm _ _
      refine ((w1.append_left _).append_left _).trans ?_
      have w2 : (ties n ++ ties n2).Perm ((n[j].2 ++ ties (n.eraseIdx j)) ++ ties n2) := pe.append_right _
      refine List.Perm.trans ?_ w2.symm
      rw [List.append_assoc]
      refine List.Perm.trans ?_ (List.perm_append_comm (l₁ := ties (n.eraseIdx j) ++ ties n2))
      rw [List.append_assoc]
    · refine List.Perm.trans ?_ pn
      rw [List.map_append]
      show ((n.eraseIdx j).map (·.1) ++ (n2.map (·.1) ++ [n[j].1])).Perm _
      refine List.Perm.trans ?_ (ne.append_right _).symm
      rw [← List.append_assoc]
      exact List.perm_append_comm
    · exact (hne h).1 r (List.mem_of_mem_eraseIdx hr)
    · rcases List.mem_append.mp hr with hr | hr
      · exact (hne h).2 r hr
      · rw [List.mem_singleton] at hr
        rw [hr]
        intro e
        have w1 := (rot_perm (row n j) i).length_eq
        have e' : (row n j).drop i ++ (row n j).take i = [] := e
        rw [e'] at w1
        have := (hne h).1 n[j] (List.getElem_mem hjn)
        rw [er] at w1
        exact this (List.length_eq_zero_iff.mp w1.symm)
    · obtain ⟨x, hx, e1, e2⟩ := hg1 r hr
      rcases List.mem_append.mp hx with hx | hx
      · rcases (SetT.pick_perm n j hjn).symm.mem_iff.mp hx |> List.mem_cons.mp with q | q
        · refine ⟨(n[j].1, (row n j).drop i ++ (row n j).take i), List.mem_append_right _ (List.mem_append_right _ (List.mem_singleton.mpr rfl)), by rw [← e1, q], fun t ht => ?_⟩
          refine (rot_perm (row n j) i).mem_iff.mpr ?_
          rw [er, ← q]
          exact e2 t ht
        · exact ⟨x, List.mem_append_left _ q, e1, e2⟩
      · exact ⟨x, List.mem_append_right _ (List.mem_append_left _ hx), e1, e2⟩
    · rcases List.mem_append.mp hx with hx | hx
      · exact hg2 x (List.mem_append_left _ (List.mem_of_mem_eraseIdx hx))
      · rcases List.mem_append.mp hx with hx | hx
        · exact hg2 x (List.mem_append_right _ hx)
        · rw [List.mem_singleton] at hx
          obtain ⟨r, hr, e⟩ := hg2 n[j] (List.mem_append_left _ (List.getElem_mem hjn))
          exact ⟨r, hr, by rw [e, hx]⟩
end
end C6
namespace PySem
end PySem
namespace PySem
namespace F
end F
section
variable {prog : Program} {w : World} {K : Type} [DecidableEq K] {knd : KeyKind prog w K} {A : Around} {R : Result → Shared → Prop}
def PairsAt (knd : KeyKind prog w K) (h : Heap) (items : List Value) (prs : List (K × Value)) : Prop :=
  items.length = prs.length ∧ ∀ (j : Nat) it, items[j]? = some it → ∃ T key k v o n, it = .ref T ∧ prs[j]? = some (k, v) ∧ knd.is k key = true ∧ h.get? T = some o ∧ o.cls = .type "tuple" ∧ o.data = .seq #[key, v] n
end
end PySem
namespace L2
open PySem PySem.Spec PyProof.Rows
section
variable {X : Cx} {pins : List (Addr × Obj)} {σ : St} {H : Hp} {s : Shared}
end
end L2
namespace L2
open PySem PySem.Spec PyProof.Rows
section
variable {X : Cx} {pins : List (Addr × Obj)} {σ : St} {H : Hp} {s : Shared} {h' : Heap}
def Itz (K : PySem.W.Frag) (a b : Addr) : It :=
  ⟨fun i H => ∃ xs ys x y, SqL K H a xs ∧ SqL K H b ys ∧ xs[i]? = some x ∧ ys[i]? = some y,
   fun i H v H' => ∃ T x y, H T = none ∧ v = .ref T ∧ H' = upd H T (.tup [x, y]) ∧ (∀ xs, SqL K H a xs → xs[i]? = some x) ∧ ∀ ys, SqL K H b ys → ys[i]? = some y,
   fun i H => ∃ xs ys, SqL K H a xs ∧ SqL K H b ys ∧ (xs.length ≤ i ∨ ys.length ≤ i)⟩
def ZipTn (m a b : Addr) (i : Nat) (h : Heap) : Prop :=
  IsZip h (m + 4) (m + 2) (m + 3) .none ∧ IsPair h (m + 2) (.ref m) (.ref (m + 1)) ∧ (∃ x y, IsPair h (m + 3) x y) ∧ h.IsListIter m a i ∧ h.IsListIter (m + 1) b i
end
section
variable {X : Cx}
def iZip (K : PySem.W.Frag) (ta : TA) : TI := fun σ H R => ta σ H fun vs H1 => ∃ a b, vs = [.ref a, .ref b] ∧ (∃ xs, SqL K H1 a xs) ∧ (∃ ys, SqL K H1 b ys) ∧ R (Itz K a b) H1
end
end L2
namespace L2
open PySem PySem.Spec PyProof.Rows
structure Clause (e : Expr) (d : Nat) (tg iter : Expr) (ifs : List Expr) (acc : Value) (env : Env) (inner : Sem Unit) : Prop where
  at' : (clausesOf e)[d]? = some ⟨tg, iter, ifs, 0⟩
  quiet : ∀ it, (Code.compLoop e d it acc env).quiet = true
  den : ∀ (prog : Program) (w : World) it, (model prog w).den (.compLoop e d it acc env) = (compTurn e d it acc env).onRaise (fun x => do noteFrame x env; theTreesLotGoes x)
  und : ∀ (A : Around) it, A.under (.compLoop e d it acc env) = A
  denS : ∀ (prog : Program) (w : World) it, (model prog w).den (.compStart e d it acc env) = (compStart e d it acc env).onRaise (fun x => do noteFrame x env; standAt theWindowsPlace)
  undS : ∀ (A : Around) it, A.under (.compStart e d it acc env) = A
  turn : ∀ it, compTurn e d it acc env = (do
      standAt iter.pos
      match ← pyNext it with
      | none => pure (.done .next)
      | some v =>
        letOwnedTupleGo tg it v
        assign tg env v
        let mut ok := true
        for c in ifs do
          if ok then ok ← isTrue c env (eval c env)
        if ok then
          inner
        again (.compLoop e d it acc env))
section
variable {prog : Program} {w : World} {A : Around} {R : Result → Shared → Prop} {s : Shared}
end
structure Ein (X : Cx) (m : Sem Unit) (σ : St) (H : Hp) (Q : St → Hp → Prop) : Prop where
  run : ∀ (pins : List (Addr × Obj)) (s : Shared), Inv X pins σ H s → wpAny (model X.prog X.w) X.A m (fun _ s' => ∃ σ' H', Inv X pins σ' H' s' ∧ Q σ' H') X.xe s
def ClauseL (X : Cx) (tg : Expr) (ifs : List Expr) (inner : Sem Unit) (J : It) (after : St → Hp → Prop) (σ : St) (H : Hp) : Prop :=
  ∃ W : Nat → Nat → St → Hp → Prop, (∃ m, W 0 m σ H) ∧ ∀ i m σ' H', W i m σ' H' →
    (J.stop i H' ∧ after σ' H') ∨ (J.go i H' ∧ ∃ N : St → Hp → Prop, (∀ σ' H', N σ' H' → ∃ m', m' < m ∧ W (i + 1) m' σ' H') ∧ ∀ x H2, J.yld i H' x H2 → Eg X tg x σ' H2 fun σ2 H3 => Ei X ifs σ2 H3 fun b H4 =>
      if b = true then Ein X inner σ2 H4 N else N σ2 H4)
end L2
namespace L2
open PySem PySem.Spec PyProof.Rows
end L2
namespace L2
open PySem PySem.Spec PyProof.Rows
def next2 (elt t1 i1 : Expr) (f1 : List Expr) (t2 i2 : Expr) (f2 : List Expr) (scope : Scope) (pos : Pos) (acc : Value) (env : Env) : Sem Unit := do
  let x ← eval i2 env
  standAt i2.pos
  let x ← foldedSetIterable i2 env x
  let _ ← runOwn (.compStart (.ListComp elt [⟨t1, i1, f1, 0⟩, ⟨t2, i2, f2, 0⟩] scope pos) 1 (← holding [x] (pyIter x)) acc env) env
def emit (elt : Expr) (acc : Value) (env : Env) : Sem Unit := do let _ ← call (.builtin "list.append") [acc, ← eval elt env]
section
variable {X : Cx} {elt t1 i1 t2 i2 : Expr} {f1 f2 : List Expr} {scope : Scope} {pos : Pos} {σ : St} {H : Hp} {acc : Value} {env : Env}
end
end L2
namespace L2
open PySem PySem.Spec PyProof.Rows
section
variable {X : Cx} {pins : List (Addr × Obj)} {σ : St} {H : Hp} {s : Shared} {a : Addr} {y v : V} {u r : Value} {A : Around} {E : Value → Shared → Prop}
theorem d_dictSet {H' : Hp} {Q : Unit → Shared → Prop} (hu : A.units + 1 < cLine) (I : Inv X pins σ H s) (g : DPut H a y v H') (ry : RelV y u) (rv : RelV v r) (h : ∀ s', Inv X pins σ H' s' → Q () s') :
    wpAny (model X.prog X.w) A (dictSet a u r) Q E s := by
  rcases g with ⟨kvs, k, e, ey, l, eH⟩ | ⟨kvs, k, b, e, ey, eb, l, eH⟩
  · subst ey eH
    obtain ⟨z, hd, vs, rel, dd⟩ := dk_of I.hok e
    have hz : vs.length ≤ sizeLine := by rw [← rel.length]; exact z
    have hl : (putK kvs k v).length ≤ sizeLine := by have := length_putK kvs k v; omega
    refine wpAny_dictSet_pairs (hsz := hz) (kV_is ry) dd fun h' dd' hs => h _ ?_
    have he : ∃ q, h'.get? a = some q := let ⟨q, _, _, hq, _⟩ := dd'; ⟨q, hq⟩
    exact d_write I (by rw [e]; exact True.intro) hs he (dk_new hl hd (rel.put k rv) dd')
  · subst ey eH
    cases (show u = Value.ref b from ry)
    obtain ⟨z, hd, xs, rel, dd⟩ := dt_of I.hok e
    have hz : xs.length ≤ sizeLine := by rw [← Paired.length rel]; exact z
    have hl : (putK kvs k v).length ≤ sizeLine := by have := length_putK kvs k v; omega
    have room : (tupleKind (mixKind X.prog X.w)).room A := by first | exact hu | exact Nat.lt_of_succ_lt hu | exact Nat.lt_of_le_of_lt (Nat.le_succ _) hu
    refine wpAny_dictSet_heap (hsz := hz) room (key_of I.hok eb) dd fun h' dd' hs => h _ ?_
    obtain ⟨q, es, ep, hq, h2, h3, h4, _, h5⟩ := dd'
    refine d_write I (by rw [e]; exact True.intro) hs ⟨q, hq⟩ ⟨hl, hd, _, (rel.put k eb rv).keeps fun c ys ec => ?_, q, es, ep, hq, h2, h3, h4, h5⟩
    rw [upd_ne (ne_of ec e (fun z => nomatch z))]
    exact ec
end
def emitD (k v : Expr) (acc : Value) (env : Env) : Sem Unit := do
  let kv ← eval k env
  let vv ← holding [kv] (eval v env)
  match acc with
  | .ref d => do
    standAt { k.pos with endLine := v.pos.endLine, endCol := v.pos.endCol }
    holding [kv, vv] (dictSet d kv vv)
  | _ => unsupported "internal:dictcomp"
def nextD (k v t1 i1 : Expr) (f1 : List Expr) (t2 i2 : Expr) (f2 : List Expr) (scope : Scope) (pos : Pos) (acc : Value) (env : Env) : Sem Unit := do
  let x ← eval i2 env
  standAt i2.pos
  let x ← foldedSetIterable i2 env x
  let _ ← runOwn (.compStart (.DictComp k v [⟨t1, i1, f1, 0⟩, ⟨t2, i2, f2, 0⟩] scope pos) 1 (← holding [x] (pyIter x)) acc env) env
section
variable {X : Cx} {k v t1 i1 t2 i2 : Expr} {f1 f2 : List Expr} {scope : Scope} {pos : Pos} {σ : St} {H : Hp} {acc : Value} {env : Env}
end
end L2
namespace L2
open PySem PySem.Spec PyProof.Rows SetT
def emitS (elt : Expr) (acc : Value) (env : Env) : Sem Unit := do let v ← eval elt env; standAt elt.pos; let _ ← call (.builtin "set.add") [acc, v]
def nextS (elt t1 i1 : Expr) (f1 : List Expr) (t2 i2 : Expr) (f2 : List Expr) (scope : Scope) (pos : Pos) (acc : Value) (env : Env) : Sem Unit := do
  let x ← eval i2 env
  standAt i2.pos
  let x ← foldedSetIterable i2 env x
  let _ ← runOwn (.compStart (.SetComp elt [⟨t1, i1, f1, 0⟩, ⟨t2, i2, f2, 0⟩] scope pos) 1 (← holding [x] (pyIter x)) acc env) env
section
variable {X : Cx} {elt t1 i1 t2 i2 : Expr} {f1 f2 : List Expr} {scope : Scope} {pos : Pos} {σ : St} {H : Hp} {acc : Value} {env : Env}
end
end L2
namespace Spl
open PySem PySem.Builtin PySem.Builtin.Str PySem.StrLaws
def gl (y : List Nat) : List (List Nat) → List Nat
  | [] => []
  | [a] => a
  | a :: b :: r => a ++ y ++ gl y (b :: r)
end Spl
namespace L2
open PySem PySem.Builtin PySem.Builtin.Str
section
variable {X : Cx} {σ : St} {H : Hp} {Q : VK}
def rSplit : V → List V → Hp → VK → Prop := fun x xs H Q => ∃ z y : Str, x = .str z ∧ xs = [.str y] ∧ 1 ≤ y.length ∧ z.length + 2 ≤ sizeLine ∧ ∀ l, H l = none → Q (.ref l) (upd H l (.lst ((Txt.split z y).map V.str)))
def rJoin (K : PySem.W.Frag) : V → List V → Hp → VK → Prop := fun x xs H Q => ∃ (z : Str) (p : Addr) (ts : List Str), x = .str z ∧ xs = [.ref p] ∧ SqL K H p (ts.map V.str) ∧ (ts.map (·.length)).sum + ts.length ≤ 100000 ∧ z.length ≤ 16 ∧ Q (.str (Str.join z ts)) H
end
end L2
namespace PySem
def Plain (h : Heap) (d : Addr) (es : Array DictEntry) (ep : Nat) : Prop := ∃ o, h.get? d = some o ∧ o.ExactDict ∧ o.data = .dict es ep
section
variable {P : Program} {w : World} {A : Around} {E : Value → Shared → Prop} {s : Shared}
end
end PySem
namespace L2
open PySem PySem.Spec PyProof.Rows
section
variable {X : Cx} {pins : List (Addr × Obj)} {σ : St} {H : Hp} {s : Shared}
def Itm (d : Addr) (o : Obj) (kvs : List (List Key × V)) : It :=
  ⟨fun i H => H d = some (.frz o (.dT kvs)) ∧ i < kvs.length,
   fun i H v H' => ∃ T b k x, kvs[i]? = some (k, x) ∧ H b = some (.tup (k.map kV)) ∧ H T = none ∧ v = .ref T ∧ H' = upd H T (.tup [.ref b, x]),
   fun i H => H d = some (.frz o (.dT kvs)) ∧ kvs.length ≤ i⟩
end
section
variable {X : Cx}
def iItems (to : TE) : TI := fun σ H R => to σ H fun x H1 => ∃ d kvs, x = .ref d ∧ H1 d = some (.dT kvs) ∧ ∀ o, R (Itm d o kvs) (upd H1 d (.frz o (.dT kvs)))
end
section
variable {X : Cx} {tg : Expr} {ifs : List Expr} {inner : Sem Unit} {σ : St} {H : Hp} {d : Addr} {o : Obj} {kvs : List (List Key × V)} {after : St → Hp → Prop}
end
end L2
namespace L2
open PySem PySem.Spec PyProof.Rows SetT
def evens {α : Type} : List α → List α
  | [] => []
  | [a] => [a]
  | a :: _ :: r => a :: evens r
section
variable {X : Cx} {σ : St} {H : Hp} {Q : VK}
end
section
variable {prog : Program} {w : World} {A : Around} {E : Value → Shared → Prop} {s : Shared}
end
section
variable {X : Cx} {σ : St} {H : Hp} {Q : VK}
end
end L2
namespace Sort3
open PySem PySem.W PyProof.Rows
section
variable {lt : Nat → Nat → Bool} {cmp : Nat → Nat → (Bool → Shared → Prop) → Shared → Prop} {J : Shared → Prop} {n : Nat}
structure Asks (lt : Nat → Nat → Bool) (cmp : Nat → Nat → (Bool → Shared → Prop) → Shared → Prop) (J : Shared → Prop) (n : Nat) : Prop where
  ask : ∀ (i j : Nat) (C : Bool → Shared → Prop) (s : Shared), i < n → j < n → i ≠ j → J s → (∀ s', J s' → C (lt i j) s') → cmp i j C s
  tot : ∀ i j, i < n → j < n → i ≠ j → lt i j = true ∨ lt j i = true
  asy : ∀ i j, lt i j = true → lt j i = false
  tra : ∀ i j k, lt i j = true → lt j k = true → lt i k = true
def g (p : Array Nat) (i : Nat) : Nat := p.getD i 0
structure Pm (p : Array Nat) (n : Nat) : Prop where
  size : p.size = n
  lt : ∀ i, i < n → g p i < n
  inj : ∀ i j, i < n → j < n → g p i = g p j → i = j
theorem g_eq {p : Array Nat} {i : Nat} {v : Nat} (h : p[i]? = some v) : g p i = v := by
  unfold g
  rw [Array.getD_eq_getD_getElem?, h]
  rfl
theorem g_of {p q : Array Nat} {i j : Nat} (h : p[i]? = q[j]?) : g p i = g q j := by
  unfold g
  rw [Array.getD_eq_getD_getElem?, Array.getD_eq_getD_getElem?, h]
theorem pm_range (n : Nat) : Pm (List.toArray (List.range n)) n := by
  have e : ∀ i, i < n → g (List.toArray (List.range n)) i = i := fun i hi => g_eq (by simp [hi])
  exact ⟨by simp, fun i hi => by rw [e i hi]; exact hi, fun i j hi hj h => by rw [e i hi, e j hj] at h; exact h⟩
def Up (lt : Nat → Nat → Bool) (p : Array Nat) (m : Nat) : Prop := ∀ i j, i < j → j < m → lt (g p i) (g p j) = true
def Dn (lt : Nat → Nat → Bool) (p : Array Nat) (m : Nat) : Prop := ∀ i j, i < j → j < m → lt (g p j) (g p i) = true
theorem up_one (p : Array Nat) : Up lt p 1 := fun i j h1 h2 => by omega
theorem up_succ (A : Asks lt cmp J n) {p : Array Nat} {m : Nat} (h1 : 1 ≤ m) (h : Up lt p m) (hm : lt (g p (m - 1)) (g p m) = true) : Up lt p (m + 1) := fun i j hi hj => by
  by_cases c : j < m
  · exact h i j hi c
  · have : j = m := by omega
    subst this
    by_cases d : i = j - 1
    · rw [d]
      exact hm
    · exact A.tra _ _ _ (h i (j - 1) (by omega) (by omega)) hm
theorem dn_succ (A : Asks lt cmp J n) {p : Array Nat} {m : Nat} (h1 : 1 ≤ m) (h : Dn lt p m) (hm : lt (g p m) (g p (m - 1)) = true) : Dn lt p (m + 1) := fun i j hi hj => by
  by_cases c : j < m
  · exact h i j hi c
  · have : j = m := by omega
    subst this
    by_cases d : i = j - 1
    · rw [d]
      exact hm
    · exact A.tra _ _ _ hm (h i (j - 1) (by omega) (by omega))
theorem other_way (A : Asks lt cmp J n) {i j : Nat} (hi : i < n) (hj : j < n) (hne : i ≠ j) (h : lt i j = false) : lt j i = true := by
  rcases A.tot i j hi hj hne with q | q
  · rw [h] at q
    cases q
  · exact q
theorem asc_ok (A : Asks lt cmp J n) {p : Array Nat} (P : Pm p n) : ∀ (f m : Nat) (Q : Nat → Shared → Prop) (s : Shared), 1 ≤ m → m + f ≤ n → Up lt p m → J s →
    (∀ k s', J s' → m ≤ k → k ≤ m + f → Up lt p k → (k < m + f → lt (g p k) (g p (k - 1)) = true) → Q k s') → (kas_asc p f m).kasWp cmp Q s
  | 0, m, Q, s, h1, h2, hu, hJ, k => k m s hJ (Nat.le_refl _) (Nat.le_refl _) hu fun h => by omega
  | f + 1, m, Q, s, h1, h2, hu, hJ, k => by
    have hne : g p m ≠ g p (m - 1) := fun h => by have := P.inj m (m - 1) (by omega) (by omega) h; omega
    refine A.ask _ _ _ _ (P.lt m (by omega)) (P.lt (m - 1) (by omega)) hne hJ fun s' hJ' => ?_
    cases e : lt (p.getD m 0) (p.getD (m - 1) 0) with
    | true => exact k m s' hJ' (Nat.le_refl _) (by omega) hu fun _ => e
    | false =>
      have hup : Up lt p (m + 1) := up_succ A h1 hu (other_way A (P.lt m (by omega)) (P.lt (m - 1) (by omega)) hne e)
      exact asc_ok A P f (m + 1) Q s' (by omega) (by omega) hup hJ' fun k' s2 j2 a b c d => k k' s2 j2 (by omega) (by omega) c fun h => d (by omega)
theorem desc_ok (A : Asks lt cmp J n) {p : Array Nat} (P : Pm p n) : ∀ (f m : Nat) (Q : Array Nat × Nat × Nat → Shared → Prop) (s : Shared), 1 ≤ m → m + f ≤ n → Dn lt p m → J s →
    (∀ k s', J s' → m ≤ k → k ≤ m + f → Dn lt p k → Q (p, k, 0) s') → (kas_desc f p m 0).kasWp cmp Q s
  | 0, m, Q, s, h1, h2, hd, hJ, k => k m s hJ (Nat.le_refl _) (Nat.le_refl _) hd
  | f + 1, m, Q, s, h1, h2, hd, hJ, k => by
    have hne : g p m ≠ g p (m - 1) := fun h => by have := P.inj m (m - 1) (by omega) (by omega) h; omega
    refine A.ask _ _ _ _ (P.lt m (by omega)) (P.lt (m - 1) (by omega)) hne hJ fun s' hJ' => ?_
    cases e : lt (p.getD m 0) (p.getD (m - 1) 0) with
    | true =>
      show (if true = true then (if 0 > 0 then _ else kas_desc f p (m + 1) 0) else _ : KasT _).kasWp cmp Q s'
      rw [if_pos rfl, if_neg (by omega)]
      exact desc_ok A P f (m + 1) Q s' (by omega) (by omega) (dn_succ A h1 hd e) hJ' fun k' s2 j2 a b c => k k' s2 j2 (by omega) (by omega) c
    | false =>
      refine A.ask _ _ _ _ (P.lt (m - 1) (by omega)) (P.lt m (by omega)) (Ne.symm hne) hJ' fun s2 hJ2 => ?_
      have e2 : lt (p.getD (m - 1) 0) (p.getD m 0) = true := other_way A (P.lt m (by omega)) (P.lt (m - 1) (by omega)) hne e
      rw [e2]
      exact k m s2 hJ2 (Nat.le_refl _) (by omega) hd
theorem rev_at {p : Array Nat} {m k : Nat} (h : m ≤ p.size) : g (kas_rev p 0 m) k = if k < m then g p (m - 1 - k) else g p k := by
  have e := getElem?_mirror_all (xs := p) (i := 0) (j := m) h k
  by_cases c : k < m
  · rw [if_pos c]
    rw [if_pos ⟨Nat.zero_le _, c⟩] at e
    refine g_of (e.trans ?_)
    congr 1
    omega
  · rw [if_neg c]
    rw [if_neg (fun q => c q.2)] at e
    exact g_of e
theorem rev_pm {p : Array Nat} {m : Nat} (P : Pm p n) (h : m ≤ n) : Pm (kas_rev p 0 m) n := by
  have hs : m ≤ p.size := by rw [P.size]; exact h
  refine ⟨by rw [kas_rev_size]; exact P.size, fun i hi => ?_, fun i j hi hj q => ?_⟩
  · rw [rev_at hs]
    split
    · exact P.lt _ (by omega)
    · exact P.lt _ hi
  · rw [rev_at hs, rev_at hs] at q
    by_cases c : i < m <;> by_cases d : j < m
    · rw [if_pos c, if_pos d] at q
      have := P.inj _ _ (by omega) (by omega) q
      omega
    · rw [if_pos c, if_neg d] at q
      have := P.inj _ _ (by omega) hj q
      omega
    · rw [if_neg c, if_pos d] at q
      have := P.inj _ _ hi (by omega) q
      omega
    · rw [if_neg c, if_neg d] at q
      exact P.inj _ _ hi hj q
theorem rev_up {p : Array Nat} {m : Nat} (P : Pm p n) (h : m ≤ n) (hd : Dn lt p m) : Up lt (kas_rev p 0 m) m := fun i j hi hj => by
  have hs : m ≤ p.size := by rw [P.size]; exact h
  rw [rev_at hs, rev_at hs, if_pos (by omega), if_pos hj]
  exact hd (m - 1 - j) (m - 1 - i) (by omega) (by omega)
theorem tail3_ok (A : Asks lt cmp J n) {p : Array Nat} (P : Pm p n) {m : Nat} {Q : Nat × Array Nat → Shared → Prop} {s : Shared} (h1 : 1 ≤ m) (h2 : m ≤ n) (hd : Dn lt p m) (hJ : J s)
    (k : ∀ r q s', J s' → 1 ≤ r → r ≤ n → Pm q n → Up lt q r → Q (r, q) s') : (kas_tail3 m n p).kasWp cmp Q s := by
  unfold kas_tail3
  rw [KasT.kasWp_bind]
  exact asc_ok A (rev_pm P h2) (n - m) m _ s h1 (by omega) (rev_up P h2 hd) hJ fun r s' j a b c _ => k r _ s' j (by omega) (by omega) (rev_pm P h2) c
theorem count_ok (A : Asks lt cmp J n) {p : Array Nat} (P : Pm p n) {Q : Nat × Array Nat → Shared → Prop} {s : Shared} (h2 : 2 ≤ n) (hJ : J s)
    (k : ∀ r q s', J s' → 1 ≤ r → r ≤ n → Pm q n → Up lt q r → Q (r, q) s') : (kas_count n p).kasWp cmp Q s := by
  unfold kas_count
  rw [KasT.kasWp_bind]
  refine asc_ok A P (n - 1) 1 _ s (Nat.le_refl _) (by omega) (up_one p) hJ fun m s' hJ' m1 m2 hu hlast => ?_
  by_cases c : m = n
  · subst c
    rw [if_pos (by simp)]
    exact k m p s' hJ' m1 (Nat.le_refl _) P hu
  · rw [if_neg (by simpa using c)]
    by_cases d : m > 1
    · rw [if_pos d]
      have hne : g p 0 ≠ g p (m - 1) := fun h => by have := P.inj 0 (m - 1) (by omega) (by omega) h; omega
      refine A.ask _ _ _ _ (P.lt 0 (by omega)) (P.lt (m - 1) (by omega)) hne hJ' fun s2 hJ2 => ?_
      have e : lt (p.getD 0 0) (p.getD (m - 1) 0) = true := hu 0 (m - 1) (by omega) (by omega)
      rw [e]
      exact k m p s2 hJ2 m1 (by omega) P hu
    · rw [if_neg d]
      have em : m = 1 := by omega
      subst em
      unfold kas_descPart
      rw [KasT.kasWp_bind]
      have hl := hlast (by omega)
      have hd2 : Dn lt p 2 := fun i j hi hj => by
        have : i = 0 ∧ j = 1 := by omega
        rw [this.1, this.2]
        exact hl
      refine desc_ok A P (n - (1 + 1)) (1 + 1) _ s' (by omega) (by omega) hd2 hJ' fun r s2 hJ2 r1 r2 hd => ?_
      show (if (0 : Nat) > 0 then _ else kas_tail3 r n p : KasT _).kasWp cmp Q s2
      rw [if_neg (by omega)]
      exact tail3_ok A P (by omega) (by omega) hd hJ2 k
theorem place_ok (A : Asks lt cmp J n) {p : Array Nat} (P : Pm p n) {k : Nat} (hk : k < n) (hu : Up lt p k) : ∀ (f l r : Nat) (Q : Nat → Shared → Prop) (s : Shared), r ≤ k → l ≤ r → r - l ≤ f → J s → (∀ i, i < l → lt (g p i) (g p k) = true) → (∀ i, r ≤ i → i < k → lt (g p k) (g p i) = true) →
    (∀ m s', J s' → m ≤ k → (∀ i, i < m → lt (g p i) (g p k) = true) → (∀ i, m ≤ i → i < k → lt (g p k) (g p i) = true) → Q m s') → (kas_place p k f l r).kasWp cmp Q s
  | 0, l, r, Q, s, h1, h2, h3, hJ, ha, hb, q => q l s hJ (by omega) ha fun i hi => hb i (by omega)
  | f + 1, l, r, Q, s, h1, h2, h3, hJ, ha, hb, q => by
    unfold kas_place
    by_cases c : l ≥ r
    · rw [if_pos c]
      exact q l s hJ (by omega) ha fun i hi => hb i (by omega)
    · rw [if_neg c]
      have hmk : (l + r) / 2 < k := by omega
      have hne : g p k ≠ g p ((l + r) / 2) := fun h => by have := P.inj k _ hk (by omega) h; omega
      refine A.ask _ _ _ _ (P.lt k hk) (P.lt _ (by omega)) hne hJ fun s' hJ' => ?_
      cases e : lt (p.getD k 0) (p.getD ((l + r) / 2) 0) with
      | true =>
        show (kas_place p k f l ((l + r) / 2)).kasWp cmp Q s'
        refine place_ok A P hk hu f l ((l + r) / 2) Q s' (by omega) (by omega) (by omega) hJ' ha (fun i hi hik => ?_) q
        by_cases d : i = (l + r) / 2
        · rw [d]
          exact e
        · exact A.tra _ _ _ e (hu _ _ (by omega) hik)
      | false =>
        show (kas_place p k f ((l + r) / 2 + 1) r).kasWp cmp Q s'
        have e2 := other_way A (P.lt k hk) (P.lt _ (by omega)) hne e
        refine place_ok A P hk hu f ((l + r) / 2 + 1) r Q s' h1 (by omega) (by omega) hJ' (fun i hi => ?_) hb q
        by_cases d : i = (l + r) / 2
        · rw [d]
          exact e2
        · exact A.tra _ _ _ (hu _ _ (by omega) hmk) e2
theorem bub_at {p : Array Nat} {k m i : Nat} (hk : k < p.size) (hm : m ≤ k) : g (bubble p k (k - m)) i = if i = m then g p k else if m < i ∧ i ≤ k then g p (i - 1) else g p i := by
  have e := getElem?_bubble (xs := p) hk (k - m) (by omega) i
  rw [show k - (k - m) = m by omega] at e
  by_cases c : i = m
  · rw [if_pos c]
    rw [if_pos c] at e
    exact g_of e
  · rw [if_neg c]
    rw [if_neg c] at e
    by_cases d : m < i ∧ i ≤ k
    · rw [if_pos d]
      rw [if_pos d] at e
      exact g_of e
    · rw [if_neg d]
      rw [if_neg d] at e
      exact g_of e
theorem bub_pm {p : Array Nat} {k m : Nat} (P : Pm p n) (hk : k < n) (hm : m ≤ k) : Pm (bubble p k (k - m)) n := by
  have hs : k < p.size := by rw [P.size]; exact hk
  refine ⟨by rw [bubble_size]; exact P.size, fun i hi => ?_, fun i j hi hj q => ?_⟩
  · rw [bub_at hs hm]
    split
    · exact P.lt k hk
    · split
      · exact P.lt _ (by omega)
      · exact P.lt _ hi
  · rw [bub_at hs hm, bub_at hs hm] at q
    have src : ∀ a, a < n → ∃ b, b < n ∧ (if a = m then g p k else if m < a ∧ a ≤ k then g p (a - 1) else g p a) = g p b ∧ ((a = m ∧ b = k) ∨ (a ≠ m ∧ (m < a ∧ a ≤ k) ∧ b = a - 1) ∨ (a ≠ m ∧ ¬ (m < a ∧ a ≤ k) ∧ b = a)) := fun a ha => by
      by_cases c : a = m
      · exact ⟨k, hk, by rw [if_pos c], .inl ⟨c, rfl⟩⟩
      · by_cases d : m < a ∧ a ≤ k
        · exact ⟨a - 1, by omega, by rw [if_neg c, if_pos d], .inr (.inl ⟨c, d, rfl⟩)⟩
        · exact ⟨a, ha, by rw [if_neg c, if_neg d], .inr (.inr ⟨c, d, rfl⟩)⟩
    obtain ⟨x, x1, x2, x3⟩ := src i hi
    obtain ⟨y, y1, y2, y3⟩ := src j hj
    rw [x2, y2] at q
    have := P.inj x y x1 y1 q
    omega
theorem bub_up {p : Array Nat} {k m : Nat} (P : Pm p n) (hk : k < n) (hm : m ≤ k) (hu : Up lt p k) (ha : ∀ i, i < m → lt (g p i) (g p k) = true) (hb : ∀ i, m ≤ i → i < k → lt (g p k) (g p i) = true) : Up lt (bubble p k (k - m)) (k + 1) := fun i j hi hj => by
  have hs : k < p.size := by rw [P.size]; exact hk
  rw [bub_at hs hm, bub_at hs hm]
  by_cases c : i = m
  · rw [if_pos c, if_neg (by omega), if_pos (by omega)]
    exact hb _ (by omega) (by omega)
  · rw [if_neg c]
    by_cases d : j = m
    · rw [if_pos d, if_neg (by omega)]
      exact ha i (by omega)
    · rw [if_neg d]
      by_cases e : m < i ∧ i ≤ k
      · rw [if_pos e, if_pos (by omega)]
        exact hu _ _ (by omega) (by omega)
      · rw [if_neg e]
        by_cases f : m < j ∧ j ≤ k
        · rw [if_pos f]
          exact hu _ _ (by omega) (by omega)
        · rw [if_neg f]
          exact hu _ _ hi (by omega)
theorem bin_ok (A : Asks lt cmp J n) : ∀ (f : Nat) (p : Array Nat) (k : Nat) (Q : Array Nat → Shared → Prop) (s : Shared), Pm p n → 1 ≤ k → k + f = n → Up lt p k → J s → (∀ q s', J s' → Pm q n → Up lt q n → Q q s') → (kas_bin f p k).kasWp cmp Q s
  | 0, p, k, Q, s, P, h1, h2, hu, hJ, q => by
    have : k = n := by omega
    subst this
    exact q p s hJ P hu
  | f + 1, p, k, Q, s, P, h1, h2, hu, hJ, q => by
    unfold kas_bin
    rw [KasT.kasWp_bind]
    refine place_ok A P (by omega) hu k 0 k _ s (Nat.le_refl _) (Nat.zero_le _) (by omega) hJ (fun i hi => by omega) (fun i hi hik => by omega) fun m s' hJ' hm ha hb => ?_
    exact bin_ok A f _ (k + 1) Q s' (bub_pm P (by omega) hm) (by omega) (by omega) (bub_up P (by omega) hm hu ha hb) hJ' q
theorem sort_ok (A : Asks lt cmp J n) {Q : Array Nat → Shared → Prop} {s : Shared} (h2 : 2 ≤ n) (hJ : J s) (q : ∀ p s', J s' → Pm p n → Up lt p n → Q p s') : (kas_sort n).kasWp cmp Q s := by
  unfold kas_sort
  rw [KasT.kasWp_bind]
  refine count_ok A (pm_range n) h2 hJ fun r p s' hJ' r1 r2 P hu => ?_
  show (if r < n then kas_bin (n - max r 1) p (max r 1) else .ret p : KasT _).kasWp cmp Q s'
  have em : max r 1 = r := by omega
  rw [em]
  by_cases c : r < n
  · rw [if_pos c]
    exact bin_ok A (n - r) p r Q s' P r1 (by omega) hu hJ' q
  · rw [if_neg c]
    have : r = n := by omega
    subst this
    exact q p s' hJ' P hu
end
end Sort3
namespace Sort3
open PySem PySem.W PyProof.Rows
theorem pm_nodup {p : Array Nat} {n : Nat} (P : Pm p n) : p.toList.Nodup := by
  rw [List.nodup_iff_pairwise_ne, List.pairwise_iff_getElem]
  intro i j hi hj hij e
  have hi' : i < n := by rw [Array.length_toList, P.size] at hi; exact hi
  have hj' : j < n := by rw [Array.length_toList, P.size] at hj; exact hj
  have e1 : g p i = p.toList[i] := g_eq (by rw [← Array.getElem?_toList]; exact List.getElem?_eq_getElem hi)
  have e2 : g p j = p.toList[j] := g_eq (by rw [← Array.getElem?_toList]; exact List.getElem?_eq_getElem hj)
  have := P.inj i j hi' hj' (by rw [e1, e2, e])
  omega
theorem pm_mem {p : Array Nat} {n v : Nat} (P : Pm p n) (h : v ∈ p.toList) : v < n := by
  obtain ⟨i, hi⟩ := List.getElem?_of_mem h
  have hl : i < n := by have := (List.getElem?_eq_some_iff.mp hi).1; rw [Array.length_toList, P.size] at this; exact this
  have e1 : g p i = v := g_eq (by rw [← Array.getElem?_toList]; exact hi)
  rw [← e1]
  exact P.lt i hl
theorem pm_perm {p : Array Nat} {n : Nat} (P : Pm p n) : p.toList.Perm (List.range n) := by
  rw [List.perm_ext_iff_of_nodup (pm_nodup P) List.nodup_range]
  intro v
  rw [List.mem_range]
  refine ⟨fun h => pm_mem P h, fun h => Classical.byContradiction fun hn => ?_⟩
  have l1 : p.toList.length ≤ ((List.range n).erase v).length := Nt.nodup_le (pm_nodup P) fun z hz => by
    have hne : z ≠ v := fun e => hn (e ▸ hz)
    exact (List.mem_erase_of_ne hne).mpr (List.mem_range.mpr (pm_mem P hz))
  rw [List.length_erase_of_mem (List.mem_range.mpr h), Array.length_toList, P.size, List.length_range] at l1
  omega
def Hd (h : Heap) (v : Value) (z : Str) : Prop := ∃ a o xs n t, v = .ref a ∧ h.get? a = some o ∧ o.cls = .type "tuple" ∧ o.data = .seq xs n ∧ xs[0]? = some (.str z t)
theorem Hd.keep {h h' : Heap} {v : Value} {z : Str} (x : Hd h v z) (k : ∀ a o, v = .ref a → h.get? a = some o → h'.get? a = some o) : Hd h' v z := by
  obtain ⟨a, o, xs, n, t, e, h1, h2⟩ := x
  exact ⟨a, o, xs, n, t, e, k a o e h1, h2⟩
def Hds (h : Heap) (vs : List Value) (zs : List Str) : Prop := vs.length = zs.length ∧ ∀ (i : Nat) v z, vs[i]? = some v → zs[i]? = some z → Hd h v z
def ltZ (zs : List Str) (i j : Nat) : Bool := decide ((zs.getD i ⟨#[]⟩).cps.toList < (zs.getD j ⟨#[]⟩).cps.toList)
section
variable {prog : Program} {w : World} {A : Around} {E : Value → Shared → Prop} {s : Shared}
theorem hds_firsts : ∀ {h : Heap} {vs : List Value} {zs : List Str}, Hds h vs zs → ∃ fs, KatTups h vs fs ∧ fs.length = vs.length ∧ ∀ f ∈ fs, ∃ z t, f = Value.str z t
  | h, [], _, _ => ⟨[], KatTups.nil, rfl, fun f hf => by cases hf⟩
  | h, v :: vs, [], hh => by have := hh.1; simp at this
  | h, v :: vs, z :: zs, hh => by
    obtain ⟨fs, k1, k2, k3⟩ := hds_firsts (h := h) (vs := vs) (zs := zs) ⟨by have := hh.1; simpa using this, fun i a b h1 h2 => hh.2 (i + 1) a b (by simpa using h1) (by simpa using h2)⟩
    obtain ⟨a, o, xs, n, t, rfl, h1, h2, h3, h4⟩ := hh.2 0 v z rfl rfl
    refine ⟨.str z t :: fs, KatTups.cons h1 h2 h3 h4 k1, by rw [List.length_cons, List.length_cons, k2], fun f hf => ?_⟩
    rcases List.mem_cons.mp hf with rfl | hf
    · exact ⟨z, t, rfl⟩
    · exact k3 f hf
theorem lt_tup {x y : Value} {z u : Str} {Q : Bool → Shared → Prop} (hx : Hd s.heap x z) (hy : Hd s.heap y u) (hne : z ≠ u) (h : Q (decide (z.cps.toList < u.cps.toList)) s) : wpAny (model prog w) A (keyLt' (tuples' true) x y) Q E s := by
  obtain ⟨a, o, xs, n, t, rfl, h1, h2, h3, h4⟩ := hx
  obtain ⟨b, o', ys, n', t', rfl, g1, g2, g3, g4⟩ := hy
  refine kat_lt h1 h3 g1 g3 ?_
  have ex : ∃ r, xs.toList = .str z t :: r := by
    have : xs.toList[0]? = some (.str z t) := by rw [Array.getElem?_toList]; exact h4
    cases e : xs.toList with
    | nil => rw [e] at this; cases this
    | cons c r => rw [e] at this; cases this; exact ⟨r, rfl⟩
  have ey : ∃ r, ys.toList = .str u t' :: r := by
    have : ys.toList[0]? = some (.str u t') := by rw [Array.getElem?_toList]; exact g4
    cases e : ys.toList with
    | nil => rw [e] at this; cases this
    | cons c r => rw [e] at this; cases this; exact ⟨r, rfl⟩
  obtain ⟨rx, ex⟩ := ex
  obtain ⟨ry, ey⟩ := ey
  rw [ex, ey]
  show KatLex prog w A true _ Q ((.str z t, .str u t') :: rx.zip ry) 0 s
  refine kat_cons (eqBool_str ?_)
  have : (z == u) = false := beq_eq_false_iff_ne.mpr hne
  rw [this]
  exact kat_no (oneLt_str h)
theorem cps_inj {a b : Str} (h : a.cps.toList = b.cps.toList) : a = b := by
  apply Str.ext'
  exact Array.toList_inj.mp h
theorem asks_tup {vs : List Value} {zs : List Str} (hh : Hds s.heap vs zs) (hn : zs.Nodup) : Asks (ltZ zs) (kas_ask prog w A (tuples' true) vs) (fun s' => s' = s) vs.length := by
  have hl := hh.1
  have gz : ∀ i, (hi : i < zs.length) → zs.getD i ⟨#[]⟩ = zs[i] := fun i hi => by simp [hi]
  have gv : ∀ i, (hi : i < vs.length) → vs.getD i Value.none = vs[i] := fun i hi => by simp [hi]
  have ne : ∀ i j, (hi : i < zs.length) → (hj : j < zs.length) → i ≠ j → zs[i] ≠ zs[j] := fun i j hi hj hij e => by
    rcases Nat.lt_or_gt_of_ne hij with c | c
    · exact List.pairwise_iff_getElem.mp (List.nodup_iff_pairwise_ne.mp hn) i j hi hj c e
    · exact List.pairwise_iff_getElem.mp (List.nodup_iff_pairwise_ne.mp hn) j i hj hi c e.symm
  refine ⟨fun i j C s' hi hj hij hs hC => ?_, fun i j hi hj hij => ?_, fun i j h => ?_, fun i j k h1 h2 => ?_⟩
  · subst hs
    unfold kas_ask
    rw [gv i hi, gv j hj]
    have e : ltZ zs i j = decide (zs[i].cps.toList < zs[j].cps.toList) := by unfold ltZ; rw [gz i (by omega), gz j (by omega)]
    refine lt_tup (hh.2 i _ zs[i] (List.getElem?_eq_getElem hi) (List.getElem?_eq_getElem (by omega))) (hh.2 j _ zs[j] (List.getElem?_eq_getElem hj) (List.getElem?_eq_getElem (by omega))) (ne i j (by omega) (by omega) hij) ?_
    rw [← e]
    exact hC s' rfl
  · unfold ltZ
    rw [gz i (by omega), gz j (by omega), decide_eq_true_iff, decide_eq_true_iff]
    by_cases c : zs[i].cps.toList < zs[j].cps.toList
    · exact .inl c
    · by_cases d : zs[j].cps.toList < zs[i].cps.toList
      · exact .inr d
      · have : zs[i].cps.toList = zs[j].cps.toList := List.le_antisymm (List.not_lt.mp d) (List.not_lt.mp c)
        exact absurd (cps_inj this) (ne i j (by omega) (by omega) hij)
  · unfold ltZ at h ⊢
    have := of_decide_eq_true h
    exact decide_eq_false fun q => List.lt_irrefl _ (List.lt_trans this q)
  · unfold ltZ at h1 h2 ⊢
    exact decide_eq_true (List.lt_trans (of_decide_eq_true h1) (of_decide_eq_true h2))
theorem map_range (vs : List Value) : (List.range vs.length).map (fun i => vs.getD i Value.none) = vs := by
  apply List.ext_getElem
  · simp
  · intro i h1 h2
    simp [h2]
theorem wp_sortT {a : Addr} {vs : List Value} {zs : List Str} {n : Nat} {P : Fin → Shared → Prop} (ho : s.heap.get? a = some (seqObj "list" vs.toArray n)) (hal : ∀ v ∈ vs, v ≠ .ref a) (hh : Hds s.heap vs zs) (hn : zs.Nodup) (h64 : vs.length < 64)
    (h : ∀ p : Array Nat, Pm p vs.length → Up (ltZ zs) p vs.length → P (.done (.ret .none)) { s with heap := sortedHeap s.heap a vs (List.toArray (p.toList.map fun i => vs.getD i Value.none)) }) :
    wpAny (model prog w) A (Builtin.«list.sort» ⟨[.ref a], []⟩) P E s := by
  rw [list_sort_plain]
  have ha : a < s.heap.objs.size := Heap.lt_size ho
  have hsl : vs.length ≤ sizeLine := by rw [sizeLine_eq]; omega
  refine wpAny_bind (listItems_at ho rfl ?_)
  refine wpAny_bind (listUpdate_at ho rfl ?_)
  obtain ⟨e1, ho1⟩ : ∃ e1, (s.heap.update a (Obj.mapSeq fun _ => #[])).get? a = some (seqObj "list" #[] e1) := ⟨_, get?_update_seq ho (fun _ => #[])⟩
  refine wpAny_bind (seqEpoch_at ho1 rfl ?_)
  refine wpAny_bind (wpAny_newTuple ?_)
  refine wpAny_bind (wpAny_newList ?_)
  refine wpAny_holding ?_
  have ho6 : (((s.heap.update a (Obj.mapSeq fun _ => #[])).push (seqObj "tuple" vs.toArray 0)).push (seqObj "list" #[] 0)).get? a = some (seqObj "list" #[] e1) := Heap.get?_push_of_some _ (Heap.get?_push_of_some _ ho1)
  show wpAny (model prog w) A _ P E { s with heap := ((s.heap.update a (Obj.mapSeq fun _ => #[])).push (seqObj "tuple" vs.toArray 0)).push (seqObj "list" #[] 0) }
  have hh6 : Hds (((s.heap.update a (Obj.mapSeq fun _ => #[])).push (seqObj "tuple" vs.toArray 0)).push (seqObj "list" #[] 0)) vs zs := ⟨hh.1, fun i v z h1 h2 => (hh.2 i v z h1 h2).keep fun b o e q => by
    have hb : a ≠ b := fun e2 => hal v (List.mem_of_getElem? h1) (by rw [e, e2])
    exact Heap.get?_push_of_some _ (Heap.get?_push_of_some _ ((Heap.get?_update_other _ _ hb).trans q))⟩
  dsimp only
  have hsz : vs.toArray.size = vs.length := by simp
  by_cases h2 : vs.toArray.size < 2
  · rw [if_pos h2, if_pos h2]
    refine wpAny_bind (wpAny_pure ?_)
    rw [StateT.run_pure]
    refine wpAny_bind (wpAny_pure ?_)
    dsimp only
    have e5 : (arrOf (SortSt.mk' general' (vs.toArray.zip vs.toArray) #[] 7 none)).map (·.2) = vs.toArray := by
      show (vs.toArray.zip vs.toArray).map (·.2) = _
      apply Array.toList_inj.mp
      simp [List.map_snd_zip]
    refine wpAny_bind (seqEpoch_at ho6 rfl ?_)
    refine wpAny_bind (listUpdate_at ho6 rfl ?_ (hsz2 := by rw [e5, hsz]; omega))
    simp only [bne_self_eq_false, Bool.false_eq_true, if_false]
    refine wpAny_pure ?_
    rw [e5]
    have fin := h (List.toArray (List.range vs.length)) (pm_range _) fun i j hi hj => by rw [hsz] at h2; omega
    have e6 : (List.toArray (List.range vs.length)).toList.map (fun i => vs.getD i Value.none) = vs := map_range vs
    rw [e6] at fin
    exact fin
  · rw [if_neg h2, if_neg h2]
    obtain ⟨fs, k1, k2, k3⟩ := hds_firsts hh6
    rw [hsz] at h2
    refine wpAny_bind (kat_kind (T := .type "str") k1 (by omega) (fun f hf => ?_) (by decide) ?_)
    · obtain ⟨z, t, rfl⟩ := k3 f hf
      exact Looks.of_pure rfl
    refine wpAny_bind (wpAny_mono (kat_run (prog := prog) (w := w) (A := A) (E := E) (κ := tuples' true) (ks := vs) (vs := vs) (Q := fun st' s' => s' = { s with heap := ((s.heap.update a (Obj.mapSeq fun _ => #[])).push (seqObj "tuple" vs.toArray 0)).push (seqObj "list" #[] 0) } ∧ ∃ p : Array Nat, Pm p vs.length ∧ Up (ltZ zs) p vs.length ∧ arrOf st' = p.map (kas_item (vs.toArray.zip vs.toArray)) ∧ failedOf st' = none)
      (G := fun p s' => s' = { s with heap := ((s.heap.update a (Obj.mapSeq fun _ => #[])).push (seqObj "tuple" vs.toArray 0)).push (seqObj "list" #[] 0) } ∧ Pm p vs.length ∧ Up (ltZ zs) p vs.length) rfl (by omega) h64 (fun p st' s' _ a2 a3 a4 => ⟨a4.1, p, a4.2.1, a4.2.2, a2, a3⟩)
      (sort_ok (asks_tup (s := { s with heap := ((s.heap.update a (Obj.mapSeq fun _ => #[])).push (seqObj "tuple" vs.toArray 0)).push (seqObj "list" #[] 0) }) hh6 hn) (by omega) rfl fun p s' e P U => ⟨e, P, U⟩)) ?_ fun _ _ e => e)
    rintro ⟨⟨⟩, st'⟩ s' ⟨rfl, p, P, U, har, hf⟩
    dsimp only
    have e3 := kat_snds (ks := vs) (vs := vs) rfl har
    refine wpAny_bind (seqEpoch_at ho6 rfl ?_)
    refine wpAny_bind (listUpdate_at ho6 rfl ?_ (hsz2 := by rw [e3, List.size_toArray, List.length_map, Array.length_toList, P.size]; omega))
    rw [hf]
    simp only [bne_self_eq_false, Bool.false_eq_true, if_false]
    refine wpAny_pure ?_
    rw [e3]
    exact h p P U
theorem sortedT {l : Addr} {vs : List Value} {zs : List Str} {Q : Value → Shared → Prop} (hl : s.heap.IsList l vs.toArray) (hh : Hds s.heap vs zs) (hn : zs.Nodup) (h64 : vs.length < 64)
    (h : ∀ (h' : Heap) (e : Nat) (p : Array Nat), Pm p vs.length → Up (ltZ zs) p vs.length → (∀ b u, s.heap.get? b = some u → h'.get? b = some u) → h'.get? (s.heap.objs.size + 1) = some (seqObj "list" (List.toArray (p.toList.map fun i => vs.getD i Value.none)) e) → Q (.ref (s.heap.objs.size + 1)) { s with heap := h' }) :
    wpAny (model prog w) A (call (.builtin "sorted") [.ref l]) Q E s := by
  have hsl : vs.length ≤ sizeLine := by rw [sizeLine_eq]; omega
  refine Calls.call_function_entry kind_sorted plain_sorted entry_sorted (args_sorted1 _) ?_
  unfold Builtin.«sorted»
  refine wpAny_bind (m := checkCount "sorted" 1 1 _) (wpAny_pure ?_)
  refine wpAny_bind (collect_list (vs := vs) hl ?_)
  refine wpAny_bind (wpAny_newList ?_)
  have hsz : ((s.heap.push (seqObj "list" #[] 0)).update s.heap.objs.size (Obj.mapSeq (· ++ vs.toArray))).objs.size = s.heap.objs.size + 1 := by
    rw [Heap.size_update, size_push']
  have hoL : (((s.heap.push (seqObj "list" #[] 0)).update s.heap.objs.size (Obj.mapSeq (· ++ vs.toArray))).push (seqObj "list" vs.toArray 0)).get? (s.heap.objs.size + 1) = some (seqObj "list" vs.toArray 0) := by
    rw [← hsz]; exact Heap.get?_push_size _ rfl
  have hhL : Hds (((s.heap.push (seqObj "list" #[] 0)).update s.heap.objs.size (Obj.mapSeq (· ++ vs.toArray))).push (seqObj "list" vs.toArray 0)) vs zs := ⟨hh.1, fun i v z h1 h2 => (hh.2 i v z h1 h2).keep fun b o e q =>
    Heap.get?_push_of_some _ ((Heap.get?_update_other _ _ (Nat.ne_of_gt (Heap.lt_size q))).trans (Heap.get?_push_of_some _ q))⟩
  have hne : ∀ v ∈ vs, v ≠ .ref (s.heap.objs.size + 1) := fun v hv e => by
    obtain ⟨i, hi⟩ := List.getElem?_of_mem hv
    have hl := hh.1
    have hiz : i < zs.length := by have := (List.getElem?_eq_some_iff.mp hi).1; omega
    obtain ⟨b, o, xs, n, t, e2, h1, _⟩ := hh.2 i v zs[i] hi (List.getElem?_eq_getElem hiz)
    rw [e2] at e
    cases e
    exact absurd (Nat.lt_of_succ_lt (Heap.lt_size h1)) (Nat.lt_irrefl _)
  show wpAny _ _ _ _ _ { s with heap := ((s.heap.push (seqObj "list" #[] 0)).update s.heap.objs.size (Obj.mapSeq (· ++ vs.toArray))).push (seqObj "list" vs.toArray 0) }
  rw [hsz]
  refine wpAny_bind (wpAny_holding (wpAny_call_entry slot_list_sort ⟨_, hoL, rfl⟩ entry_list_sort (wp_sortT hoL hne hhL hn h64 fun p P U => ⟨_, rfl, ?_⟩) (args_list_sort _)))
  obtain ⟨e, he⟩ := sortedAll_at s.heap vs (List.toArray (p.toList.map fun i => vs.getD i Value.none))
  exact wpAny_pure ⟨_, rfl, h _ e p P U (fun b u hb => sortedAll_old hb) he⟩
end
end Sort3
namespace L2
open PySem PySem.Spec PyProof.Rows Sort3
theorem vals_refs : ∀ {ts : List Addr} {its : List Value}, Vals (ts.map V.ref) its → its = ts.map Value.ref
  | [], its, r => r.zero
  | t :: ts, its, r => by
    cases r with
    | cons h1 h2 =>
      rw [vals_refs h2]
      have : _ = Value.ref t := h1
      rw [this]
      rfl
theorem refs_vals : ∀ (ts : List Addr), Vals (ts.map V.ref) (ts.map Value.ref)
  | [] => .nil
  | t :: ts => .cons rfl (refs_vals ts)
theorem zip_range {α β : Type} (xs : List α) (ys : List β) (h : xs.length = ys.length) (a : α) (b : β) : (List.range xs.length).map (fun i => (xs.getD i a, ys.getD i b)) = xs.zip ys := by
  apply List.ext_getElem
  · simp [h]
  · intro i h1 h2
    have hx : i < xs.length := by simp at h1; exact h1
    have hy : i < ys.length := by omega
    simp [hx, hy]
section
variable {X : Cx} {σ : St} {H : Hp}
theorem call_sortedT : CallR X (.builtin "sorted") (fun xs H Q => ∃ (l : Addr) (ts : List Addr) (zs : List Str), xs = [.ref l] ∧ SqL X.K H l (ts.map V.ref) ∧ ts.length = zs.length ∧ zs.Nodup ∧ ts.length < 64 ∧ (∀ (i : Nat) t z, ts[i]? = some t → zs[i]? = some z → ∃ r, H t = some (.tup (.str z :: r))) ∧
    ∀ (r : Addr) (ps : List (Addr × Str)), H r = none → ps.Perm (ts.zip zs) → ps.Pairwise (fun a b => a.2.cps.toList < b.2.cps.toList) → Q (.ref r) (upd H r (.lst (ps.map fun p => .ref p.1)))) := by
  intro pins s σ H xs us Q I r h
  obtain ⟨l, ts, zs, rfl, hl, hlen, hn, h64, hd, q⟩ := h
  obtain ⟨u, rfl, ru⟩ := vals1 r
  cases (show u = Value.ref l from ru)
  obtain ⟨its, rv, pl, _⟩ := I.list hl
  have ei := vals_refs rv
  subst ei
  have hh : Hds s.heap (ts.map Value.ref) zs := by
    refine ⟨by rw [List.length_map]; exact hlen, fun i v z h1 h2 => ?_⟩
    rw [List.getElem?_map, Option.map_eq_some_iff] at h1
    obtain ⟨t, ht, rfl⟩ := h1
    obtain ⟨rr, hr⟩ := hd i t z ht h2
    obtain ⟨its, r3, tp, _⟩ := I.tuple (SqT.of hr)
    cases r3 with
    | cons a1 a2 =>
      obtain ⟨tk, rfl⟩ := a1
      obtain ⟨o, ho, hc, n, hd2⟩ := tp
      exact ⟨t, o, _, n, tk, rfl, ho, hc, hd2, rfl⟩
  refine sortedT pl.isList hh hn (by rw [List.length_map]; exact h64) fun h' e p P U kp he => ?_
  rw [List.length_map] at P U
  have gp : ∀ i, i < ts.length → g p i < ts.length := P.lt
  have pl2 : p.toList.length = ts.length := by rw [Array.length_toList]; exact P.size
  have e1 : (p.toList.map fun i => (ts.map Value.ref).getD i Value.none) = ((p.toList.map fun i => (ts.getD i 0, zs.getD i ⟨#[]⟩)).map fun x => x.1).map Value.ref := by
    rw [List.map_map, List.map_map]
    refine List.map_congr_left fun i hi => ?_
    have hlt := pm_mem P hi
    show (ts.map Value.ref).getD i Value.none = Value.ref (ts.getD i 0)
    simp [hlt]
  refine ⟨.ref _, _, I.laid' (s' := { s with heap := h' }) kp rfl rfl (Nat.le_succ _) (show ObjOk X.prog X.w _ h' _ (.lst ((p.toList.map fun i => (ts.getD i 0, zs.getD i ⟨#[]⟩)).map fun x => V.ref x.1)) from ?_), rfl, q _ (p.toList.map fun i => (ts.getD i 0, zs.getD i ⟨#[]⟩)) (I.hok.fresh (Nat.le_succ _)) ?_ ?_⟩
  · refine ⟨by rw [List.length_map, List.length_map, pl2, sizeLine_eq]; omega, _, e, ?_, he⟩
    rw [e1]
    have := refs_vals ((p.toList.map fun i => (ts.getD i 0, zs.getD i (⟨#[]⟩ : Str))).map fun x => x.1)
    rw [List.map_map] at this
    exact this
  · rw [← zip_range ts zs hlen 0 ⟨#[]⟩]
    exact (pm_perm P).map _
  · rw [List.pairwise_iff_getElem]
    intro i j hi hj hij
    rw [List.length_map] at hi hj
    have := U i j hij (by omega)
    have q1 : g p i = p.toList[i] := g_eq (by rw [← Array.getElem?_toList]; exact List.getElem?_eq_getElem hi)
    have q2 : g p j = p.toList[j] := g_eq (by rw [← Array.getElem?_toList]; exact List.getElem?_eq_getElem hj)
    rw [q1, q2] at this
    rw [List.getElem_map, List.getElem_map]
    exact of_decide_eq_true this
theorem eg_triple {e1 e2 e3 : Expr} {k : Nat} {pos : Pos} {t : Addr} {x y z : V} {R : St → Hp → Prop} (hc : X.calm = true) (ht : SqT X.K H t [x, y, z]) (h : Eg X e1 x σ H fun σ1 H1 => Eg X e2 y σ1 H1 fun σ2 H2 => Eg X e3 z σ2 H2 R)
    (hn : (assignEach [e1, e2, e3] X.env).length = 3 := by rfl) (hst : (assignEach [e1, e2, e3] X.env).findIdx? (·.1) = none := by rfl)
    (hs1 : (assignEach [e1, e2, e3] X.env).map (·.2) = assign e1 X.env :: (assignEach [e2, e3] X.env).map (·.2) := by rfl) (hs2 : (assignEach [e2, e3] X.env).map (·.2) = assign e2 X.env :: (assignEach [e3] X.env).map (·.2) := by rfl) (hs3 : (assignEach [e3] X.env).map (·.2) = assign e3 X.env :: (assignEach [] X.env).map (·.2) := by rfl) :
    Eg X (.Tuple [e1, e2, e3] k pos) (.ref t) σ H R :=
  eg_of (pg_tup (t := gCons (fun v σ H Q => Eg X e1 v σ H Q) (gCons (fun v σ H Q => Eg X e2 v σ H Q) (gCons (fun v σ H Q => Eg X e3 v σ H Q) gNil))) hc (pgs_cons pg_eg (pgs_cons pg_eg (pgs_cons pg_eg pgs_nil hs3) hs2) hs1) hn hst)
    ⟨t, _, rfl, ht, rfl, _, _, rfl, h.mono fun σ1 H1 h1 => ⟨_, _, rfl, h1.mono fun σ2 H2 h2 => ⟨_, _, rfl, h2.mono fun σ3 H3 q => ⟨rfl, q⟩⟩⟩⟩
end
end L2
namespace C6
open PySem L2 Nt Sort2
def spCopy : Sp := fun vs H Q _ => ∃ (R : Addr) (as : List (Addr × Addr)) (n : Net), vs = [.ref R] ∧ RowsAt H R as n ∧ n.length ≤ 1000 ∧ ∀ L as' H', Same H H' → H L = none → (∀ a ∈ as', H a.1 = none ∧ H a.2 = none) → RowsAt H' L as' n → Q (.ref L) H'
section
variable {P : Program} {w : World} {K : PySem.W.Frag} {mg : Str → Option Value} {base : Heap}
theorem free_back {H H' : Hp} {l : Addr} (s : Same H H') (h : H' l = none) : H l = none := by
  cases e : H l with
  | none => rfl
  | some v => rw [s _ _ e] at h; cases h
abbrev NC : List Str := ["_law_rows"]
abbrev NC' : List Str := ["_law_rows", "_law_row"]
theorem scCopy : FnScope NC ["_law_rows"] (defScope sCopy) := ⟨rfl, rfl, rfl, by decide +kernel, rfl, by decide +kernel, by decide +kernel⟩
theorem nd_c : NC'.Nodup := by decide +kernel
theorem ok_copy {f : Addr} {fd : FuncData} (F : Fun K "_law_copy" "_law_copy" sCopy f fd) (T : Txt mg) : FnOk P w K mg base CX0 1 f fd ["_law_rows"] spCopy := by
  refine F.go scCopy (fun vs H Q E h => ?_) (fun cdv A outer s H vs Q E hr h => ?_)
  · obtain ⟨R, as, n, rfl, _⟩ := h
    rfl
  obtain ⟨R, as, n, rfl, hR, hn, q⟩ := h
  have nd := scCopy.nd
  have hal := hR.len
  show Run _ _ _ [some (.ref R)] H
  refine run_ret (ev_comp (defScope sCopy) NC NC' 1 (pi_list pe_ev) (ev_v 0 ⟨R, rfl, ⟨_, SqL.of hR.lst⟩, fun D hD => ?_⟩))
  refine comp_listP (xs := as.map fun a => V.ref a.1) (fun i σ' H' => (∃ v, σ' = [some (.ref R)] ++ [v]) ∧ ∃ bs : List (Addr × Addr), bs.length = i ∧ H' D = some (.lst (bs.map fun a => .ref a.1)) ∧
    (∀ (j : Nat) a r, bs[j]? = some a → n[j]? = some r → H' a.1 = some (.tup [.str r.1, .ref a.2]) ∧ H' a.2 = some (Ls r.2)) ∧ (bs.map (·.2)).Nodup ∧ (∀ a ∈ bs, a.2 ≠ D ∧ H a.1 = none ∧ H a.2 = none ∧ ∃ zs, H' a.2 = some (Ls zs)) ∧ Same H H')
    ⟨⟨none, rfl⟩, [], rfl, upd_same, fun j a r h => by simp at h, List.nodup_nil, fun a h => by simp at h, same_new hD _⟩ ?_ ?_ ?_
  · rintro i σ' H' _ ⟨_, bs, _, _, _, _, _, sm⟩
    exact SqL.of (sm _ _ hR.lst)
  · rintro i x σ' H' hx ⟨⟨v, rfl⟩, bs, hb1, hb2, hb3, hb4, hb5, sm⟩
    have hi : i < n.length := by
      have := (List.getElem?_eq_some_iff.mp hx).1
      rw [List.length_map] at this
      omega
    obtain ⟨a, ea, eat, et, el, er⟩ := (hR.same sm).at hi
    rw [List.getElem?_map, ea] at hx
    cases hx
    intro cl C' s₀ H₀ ex
    refine eg_name 1 nd_c ?_
    intro cl C' s₀ H₀ ex
    refine ei_nil ?_
    rw [if_pos rfl]
    intro cl C' s₀ H₀ ex
    refine ev_tup (ea_cons (ev_ix ix_tup (ev_v 1 (ev_int ⟨a.1, _, _, .str n[i].1, rfl, rfl, SqT.of et, rfl, ?_⟩))))
    refine ea_cons (ev_typ call_list_of T.tlist PyProof.Rows.boot_list (ea_cons (ev_ix ix_tup (ev_v 1 (ev_int ⟨a.1, _, _, .ref a.2, rfl, rfl, SqT.of et, rfl, ?_⟩)))))
    refine ea_nil ⟨a.2, _, rfl, .inl (SqL.of el), fun l hl => ea_nil ⟨(by show 2 ≤ sizeLine; decide), fun t ht => ?_⟩⟩
    have hl0 := free_back sm hl
    have ntl : t ≠ l := fun e => by rw [e, upd_same] at ht; cases ht
    have ht' : H' t = none := by rw [upd_ne ntl] at ht; exact ht
    have ht0 := free_back sm ht'
    have nlD : l ≠ D := fun e => by rw [e] at hl; rw [hl] at hb2; cases hb2
    have ntD : t ≠ D := fun e => by rw [e] at ht'; rw [ht'] at hb2; cases hb2
    refine ⟨bs.map fun a => .ref a.1, ?_, ?_, ⟨_, rfl⟩, bs ++ [(t, l)], by rw [List.length_append, hb1]; rfl, ?_, ?_, ?_, ?_, ?_⟩
    · rw [upd_ne (Ne.symm ntD), upd_ne (Ne.symm nlD)]
      exact hb2
    · rw [List.length_map]
      exact small' (by omega)
    · rw [upd_same, List.map_append]
      rfl
    · intro j b r hb hr'
      by_cases hj : j < bs.length
      · rw [List.getElem?_append_left hj] at hb
        obtain ⟨q1, q2⟩ := hb3 j b r hb hr'
        have hbD := (hb5 b (List.mem_of_getElem? hb)).1
        have n1 : b.1 ≠ D := ne_of q1 hb2 fun z => nomatch z
        refine ⟨?_, ?_⟩
        · rw [upd_ne n1, upd_ne (ne_of_none q1 ht'), upd_ne (ne_of_none q1 hl)]
          exact q1
        · rw [upd_ne hbD, upd_ne (ne_of_none q2 ht'), upd_ne (ne_of_none q2 hl)]
          exact q2
      · rw [List.getElem?_append_right (by omega)] at hb
        have hj2 : j - bs.length = 0 := by
          have := (List.getElem?_eq_some_iff.mp hb).1
          simp at this
          omega
        have hji : j = i := by omega
        rw [hj2] at hb
        cases hb
        rw [hji, List.getElem?_eq_getElem hi] at hr'
        cases hr'
        refine ⟨?_, ?_⟩
        · rw [upd_ne ntD, upd_same]
        · rw [upd_ne nlD, upd_ne (Ne.symm ntl), upd_same, er]
    · rw [List.map_append]
      refine nd_snoc hb4 fun hm => ?_
      obtain ⟨b, hb, e⟩ := List.mem_map.mp hm
      obtain ⟨_, _, _, zs, q⟩ := hb5 b hb
      have e' : b.2 = l := e
      rw [e', hl] at q
      cases q
    · intro b hb
      rcases List.mem_append.mp hb with hb | hb
      · obtain ⟨q1, q2, q3, zs, q4⟩ := hb5 b hb
        refine ⟨q1, q2, q3, zs, ?_⟩
        rw [upd_ne q1, upd_ne (ne_of_none q4 ht'), upd_ne (ne_of_none q4 hl)]
        exact q4
      · rw [List.mem_singleton.mp hb]
        refine ⟨nlD, ht0, hl0, row n i, ?_⟩
        rw [upd_ne nlD, upd_ne (Ne.symm ntl), upd_same]
    · intro c o hc
      rw [upd_ne (ne_of_none hc hD), upd_ne (ne_of_none hc ht0), upd_ne (ne_of_none hc hl0)]
      exact sm _ _ hc
  · rintro σ' H' ⟨_, bs, hb1, hb2, hb3, hb4, hb5, sm⟩
    rw [List.length_map] at hb1
    exact q D bs H' sm hD (fun a ha => ⟨(hb5 a ha).2.1, (hb5 a ha).2.2.1⟩) ⟨by omega, hb2, hb3, hb4⟩
end
end C6
namespace C6
open PySem L2 Nt Sort2
theorem seats_split {n : Net} {r p : Nat} {z : Str} (hr : r < n.length) (hz : (row n r)[p]? = some z) : ∃ rest, seats n = (seats (n.take r) ++ rowSeats r ((row n r).take p) 0) ++ (z, (r, p)) :: rest := by
  have e1 : seats n = seats (n.take (r + 1)) ++ seatsFrom (0 + (n.take (r + 1)).length) (n.drop (r + 1)) := by
    have := seatsFrom_append (n.take (r + 1)) (n.drop (r + 1)) 0
    rw [List.take_append_drop] at this
    exact this
  have e2 : rowSeats r (row n r) 0 = rowSeats r ((row n r).take (p + 1)) 0 ++ rowSeats r ((row n r).drop (p + 1)) (0 + ((row n r).take (p + 1)).length) := by
    unfold rowSeats
    rw [← List.map_append, ← List.zipIdx_append, List.take_append_drop]
  rw [e1, seats_take hr, e2, rowSeats_take hz]
  refine ⟨rowSeats r ((row n r).drop (p + 1)) (0 + ((row n r).take (p + 1)).length) ++ seatsFrom (0 + (n.take (r + 1)).length) (n.drop (r + 1)), ?_⟩
  simp only [List.append_assoc, List.cons_append, List.nil_append]
abbrev T3 (x : Lk) : HO := .tup [.str x.1, .str x.2.1, .str x.2.2]
def AtL (H : Hp) (us : List Addr) (ls : List Lk) : Prop := us.length = ls.length ∧ ∀ (j : Nat) u x, us[j]? = some u → ls[j]? = some x → H u = some (T3 x)
theorem AtL.keep {H H' : Hp} {us : List Addr} {ls : List Lk} (h : AtL H us ls) (k : ∀ t xs, H t = some (.tup xs) → H' t = some (.tup xs)) : AtL H' us ls := ⟨h.1, fun j u x h1 h2 => k _ _ (h.2 j u x h1 h2)⟩
theorem AtL.snoc {H : Hp} {us : List Addr} {ls : List Lk} {u : Addr} {x : Lk} (h : AtL H us ls) (hu : H u = some (T3 x)) : AtL H (us ++ [u]) (ls ++ [x]) := by
  refine ⟨by rw [List.length_append, List.length_append, h.1]; rfl, fun j v y h1 h2 => ?_⟩
  have hl := h.1
  by_cases hj : j < us.length
  · rw [List.getElem?_append_left hj] at h1
    rw [List.getElem?_append_left (by omega)] at h2
    exact h.2 j v y h1 h2
  · rw [List.getElem?_append_right (by omega)] at h1 h2
    have hj2 : j - us.length = 0 := by
      have := (List.getElem?_eq_some_iff.mp h1).1
      simp at this
      omega
    rw [hj2] at h1
    rw [← hl, hj2] at h2
    cases h1
    cases h2
    exact hu
def SortedL (ls : List Lk) : Prop := ls.Pairwise (fun x y => x.1.cps.toList < y.1.cps.toList)
def spLinks : Sp := fun vs H Q _ => ∃ (R : Addr) (as : List (Addr × Addr)) (n : Net), vs = [.ref R] ∧ RowsAt H R as n ∧ Twice n ∧ n.length ≤ 1000 ∧ (ties n).length ≤ 60 ∧
  ∀ (L : Addr) (us : List Addr) (ls : List Lk) (H' : Hp), Same H H' → H L = none → H' L = some (.lst (us.map V.ref)) → AtL H' us ls → SortedL ls → (∀ x, x ∈ ls ↔ IsLink n x) → ls.length ≤ 60 → Q (.ref L) H'
theorem posIn_le {n : Net} (T : Twice n) {r p : Nat} {z : Str} (hr : r < n.length) (hz : (row n r)[p]? = some z) : (posIn (seats (n.take r) ++ rowSeats r ((row n r).take p) 0) z).length ≤ 1 := by
  obtain ⟨rest, h⟩ := seats_split hr hz
  have h1 : posIn (seats n) z = posIn (seats (n.take r) ++ rowSeats r ((row n r).take p) 0) z ++ (r, p) :: posIn rest z := by
    rw [h]
    unfold posIn
    rw [List.filter_append, List.map_append, List.filter_cons_of_pos (by simp)]
    rfl
  have h2 : (posIn (seats n) z).length = 2 := by
    have := pos_len n z
    rw [T z (tie_mem (e := (r, p)) hz)] at this
    exact this
  rw [h1, List.length_append, List.length_cons] at h2
  omega
section
variable {P : Program} {w : World} {K : PySem.W.Frag} {mg : Str → Option Value} {base : Heap}
abbrev NLk : List Str := ["rows", "met", "links", "point", "ties", "tie"]
theorem scLk : FnScope NLk ["rows"] (defScope sLinks) := ⟨rfl, rfl, rfl, by decide +kernel, rfl, by decide +kernel, by decide +kernel⟩
theorem ok_links {f : Addr} {fd : FuncData} (F : Fun K "links_of" "links_of" sLinks f fd) (T : Txt mg) : FnOk P w K mg base CX0 1 f fd ["rows"] spLinks := by
  refine F.go scLk (fun vs H Q E h => ?_) (fun cdv A outer s H vs Q E hr h => ?_)
  · obtain ⟨R, as, n, rfl, _⟩ := h
    rfl
  obtain ⟨R, as, n, rfl, hR, hT, hn, hti, q⟩ := h
  have nd := scLk.nd
  have hal := hR.len
  have hu : (A.deeper (PyProof.Rows.envOfC "links_of" (defScope sLinks) s.heap.objs.size f cdv)).units + 1 < cLine := by have := hr.un; omega
  show Run _ _ _ [some (.ref R), none, none, none, none, none] H
  refine run_set 1 nd (ev_dnewK fun dm hdm => ?_)
  refine run_set 2 nd (ev_lst (ea_nil ⟨(by show 0 ≤ sizeLine; decide), fun M hM => ?_⟩))
  have nMd : M ≠ dm := fun e => by rw [e, upd_same] at hM; cases hM
  have hM0 : H M = none := by rw [upd_ne nMd] at hM; exact hM
  have s0 : Same H (upd (upd H dm (.dK [])) M (.lst [])) := (same_new hdm _).trans (same_new hM _)
  have ed0 : (upd (upd H dm (.dK [])) M (.lst [])) dm = some (.dK []) := by rw [upd_ne (Ne.symm nMd), upd_same]
  have eM0 : (upd (upd H dm (.dK [])) M (.lst [])) M = some (.lst []) := upd_same
  show Run _ _ _ [some (.ref R), some (.ref dm), some (.ref M), none, none, none] (upd (upd H dm (.dK [])) M (.lst []))
  generalize upd (upd H dm (.dK [])) M (.lst []) = H0 at s0 ed0 eM0
  have lseats : (seats n).length = (ties n).length := by rw [← seats_names n 0, List.length_map]; rfl
  refine run_forL (ev_v 0 ⟨R, rfl, ⟨_, SqL.of (s0 _ _ hR.lst)⟩, loop_list (xs := as.map fun a => V.ref a.1) (fun r σ H' => ∃ (kM : List (Key × V)) (us : List Addr) (ls : List Lk) (u1 u2 u3 : Option V), Same H H' ∧ H' dm = some (.dK kM) ∧ H' M = some (.lst (us.map V.ref)) ∧ AtL H' us ls ∧ LkI n (seats (n.take r)) kM ls ∧ σ = [some (.ref R), some (.ref dm), some (.ref M), u1, u2, u3])
    ⟨[], [], [], _, _, _, s0, ed0, eM0, ⟨rfl, fun j u x h => by simp at h⟩, LkI.start n, rfl⟩ ?_ ?_ ?_⟩)
  · rintro r σ H' _ ⟨_, _, _, _, _, _, sm, _⟩
    exact SqL.of (sm _ _ hR.lst)
  · rintro r x σ H' hx ⟨kM, us, ls, u1, u2, u3, sm, ed, eM, hat, I, rfl⟩
    have hi : r < n.length := by
      have := (List.getElem?_eq_some_iff.mp hx).1
      rw [List.length_map] at this
      omega
    obtain ⟨a, ea, eat, et, el, er⟩ := (hR.same sm).at hi
    rw [List.getElem?_map, ea] at hx
    cases hx
    refine eg_pair rfl (SqT.of et) (eg_name 3 nd (eg_name 4 nd ?_))
    refine run_forL (ev_v 4 ⟨a.2, rfl, ⟨_, SqL.of el⟩, loop_list (xs := (row n r).map V.str) (fun p σ H'' => ∃ (kM : List (Key × V)) (us : List Addr) (ls : List Lk) (u3 : Option V), Same H H'' ∧ H'' a.2 = some (Ls (row n r)) ∧ H'' dm = some (.dK kM) ∧ H'' M = some (.lst (us.map V.ref)) ∧ AtL H'' us ls ∧ LkI n (seats (n.take r) ++ rowSeats r ((row n r).take p) 0) kM ls ∧ σ = [some (.ref R), some (.ref dm), some (.ref M), some (.str n[r].1), some (.ref a.2), u3])
      ⟨kM, us, ls, _, sm, el, ed, eM, hat, by simpa [rowSeats] using I, rfl⟩ ?_ ?_ ?_⟩)
    · rintro p σ H'' _ ⟨_, _, _, _, _, e, _⟩
      exact SqL.of e
    · rintro p x σ H'' hx ⟨kM, us, ls, u3, sm, el, ed, eM, hat, I, rfl⟩
      have hp : p < (row n r).length := by
        have := (List.getElem?_eq_some_iff.mp hx).1
        rw [List.length_map] at this
        exact this
      have hz : (row n r)[p]? = some (row n r)[p] := List.getElem?_eq_getElem hp
      rw [List.getElem?_map, hz] at hx
      cases hx
      have hs1 := rowSeats_take (r := r) hz
      have hle := posIn_le hT hi hz
      have hdone : (seats (n.take r) ++ rowSeats r ((row n r).take p) 0).length ≤ 60 := by
        obtain ⟨rest, hrest⟩ := seats_split hi hz
        have h1 := congrArg List.length hrest
        simp only [List.length_append] at h1 ⊢
        omega
      have lM := I.lenM
      have lL := I.lenL
      have lA := hat.1
      have nmr : nmA n r = n[r].1 := nmA_eq hi
      have naM : a.2 ≠ M := fun e => by
        have := (hR.tup r a n[r] ea (List.getElem?_eq_getElem hi)).2
        rw [e, hM0] at this
        cases this
      generalize (row n r)[p] = z at hz hs1 hle
      refine eg_name 5 nd ?_
      refine run_if (et_din hu (ev_v 5 (ev_v 1 ⟨dm, _, rfl, DGet.k (k := Sum.inr z) ed, ?_⟩)))
      cases hpz : posIn (seats (n.take r) ++ rowSeats r ((row n r).take p) 0) z with
      | nil =>
        rw [I.m0 z hpz]
        show if false = true then _ else _
        rw [if_neg (by decide)]
        refine run_dput hu (ev_v 3 (ev_v 1 (ev_v 5 ⟨dm, _, rfl, DPut.k (k := Sum.inr z) ed (small' (by omega)), run_nil (run_nil ⟨_, us, ls, _, same_mut sm hdm, ?_, upd_same, ?_, hat.keep fun t xs h => ?_, ?_, rfl⟩)⟩)))
        · rw [upd_ne (ne_of el ed fun z => nomatch z)]
          exact el
        · rw [upd_ne nMd]
          exact eM
        · rw [upd_ne (ne_of h ed fun z => nomatch z)]
          exact h
        · rw [hs1, ← List.append_assoc]
          have := I.new (e := (r, p)) hpz
          show LkI n _ (putK kM (Sum.inr z) (.str n[r].1)) ls
          rw [← nmr]
          exact this
      | cons b rest =>
        have hr0 : rest = [] := by
          rw [hpz] at hle
          exact List.length_eq_zero_iff.mp (by have : rest.length + 1 ≤ 1 := hle; omega)
        subst hr0
        have vm := I.m1 z b [] hpz
        rw [vm]
        show if true = true then _ else _
        rw [if_pos rfl]
        refine run_expr (ev_append (ev_v 2 ⟨M, rfl, ⟨_, eM⟩, ev_tup (ea_cons (ev_v 5 (ea_cons (ev_dget hu (ev_v 1 (ev_v 5 ⟨dm, .str (nmA n b.1), rfl, by rw [← vm]; exact DGet.k (k := Sum.inr z) ed, ea_cons (ev_v 3 (ea_nil ⟨(by show 3 ≤ sizeLine; decide), fun t ht => ?_⟩))⟩))))))⟩))
        have sT := same_new ht (.tup [.str z, .str (nmA n b.1), .str n[r].1])
        have ntM : t ≠ M := fun e => by rw [e, eM] at ht; cases ht
        have et3 : (upd H'' t (.tup [.str z, .str (nmA n b.1), .str n[r].1])) t = some (T3 (z, nmA n b.1, nmA n (r, p).1)) := by
          rw [upd_same]
          show _ = some (HO.tup [.str z, .str (nmA n b.1), .str (nmA n r)])
          rw [nmr]
        have kT : ∀ c xs, (upd H'' t (.tup [.str z, .str (nmA n b.1), .str n[r].1])) c = some (.tup xs) → (upd (upd H'' t (.tup [.str z, .str (nmA n b.1), .str n[r].1])) M (.lst (us.map V.ref ++ [.ref t]))) c = some (.tup xs) := fun c xs h => by
          rw [upd_ne (ne_of h (sT _ _ eM) fun z => nomatch z)]
          exact h
        refine ⟨_, sT _ _ eM, by rw [List.length_map]; exact small' (by omega), run_nil (run_nil ⟨kM, us ++ [t], ls ++ [(z, nmA n b.1, nmA n (r, p).1)], _, same_mut (sm.trans sT) hM0, ?_, ?_, ?_, ?_, ?_, rfl⟩)⟩
        · rw [upd_ne naM]
          exact sT _ _ el
        · rw [upd_ne (Ne.symm nMd)]
          exact sT _ _ ed
        · rw [upd_same, List.map_append]
          rfl
        · exact ((hat.keep fun c xs h => sT _ _ h).snoc et3).keep kT
        · rw [hs1, ← List.append_assoc]
          exact I.old (e := (r, p)) hpz
    · rintro σ H'' ⟨kM, us, ls, u3, sm, _, ed, eM, hat, I, rfl⟩
      rw [List.length_map, List.take_length] at I
      refine run_nil ⟨kM, us, ls, _, _, _, sm, ed, eM, hat, ?_, rfl⟩
      rw [seats_take hi]
      exact I
  · rintro σ H' ⟨kM, us, ls, u1, u2, u3, sm, ed, eM, hat, I, rfl⟩
    rw [List.length_map, hal, List.take_length] at I
    have lL := I.lenL
    have lA := hat.1
    have hlt : us.length < 64 := by omega
    refine run_ret (ev_blt call_sortedT T.sorted PyProof.Rows.boot_sorted (ea_cons (ev_v 2 (ea_nil ⟨M, us, ls.map (·.1), rfl, SqL.of eM, by rw [List.length_map]; exact lA, I.nod, hlt, fun i t z h1 h2 => ?_, fun L ps hL hp hs => ?_⟩))))
    · rw [List.getElem?_map, Option.map_eq_some_iff] at h2
      obtain ⟨x, hx, rfl⟩ := h2
      exact ⟨_, hat.2 i t x h1 hx⟩
    have pick : ∀ p ∈ ps, ∃ x, x ∈ ls ∧ x.1 = p.2 ∧ H' p.1 = some (T3 x) := fun p hpm => by
      have hz := hp.mem_iff.mp hpm
      obtain ⟨i, hi⟩ := List.getElem?_of_mem hz
      rw [List.getElem?_zip_eq_some] at hi
      obtain ⟨h1, h2⟩ := hi
      rw [List.getElem?_map, Option.map_eq_some_iff] at h2
      obtain ⟨x, hx, e⟩ := h2
      exact ⟨x, List.mem_of_getElem? hx, e, hat.2 i _ x h1 hx⟩
    obtain ⟨xs, hxs⟩ : ∃ xs : List Lk, xs.length = ps.length ∧ ∀ (j : Nat) p x, ps[j]? = some p → xs[j]? = some x → x ∈ ls ∧ x.1 = p.2 ∧ H' p.1 = some (T3 x) := by
      clear hs hp
      induction ps with
      | nil => exact ⟨[], rfl, fun j p x h => by simp at h⟩
      | cons p r ih =>
        obtain ⟨x, q1, q2, q3⟩ := pick p (List.mem_cons_self ..)
        obtain ⟨xs, l1, l2⟩ := ih (fun c hc => pick c (List.mem_cons_of_mem _ hc))
        refine ⟨x :: xs, by rw [List.length_cons, List.length_cons, l1], fun j c y h1 h2 => ?_⟩
        cases j with
        | zero =>
          cases h1
          cases h2
          exact ⟨q1, q2, q3⟩
        | succ j => exact l2 j c y (by simpa using h1) (by simpa using h2)
    obtain ⟨lx, hxs⟩ := hxs
    have lp : ps.length = ls.length := by rw [hp.length_eq, List.length_zip, List.length_map]; omega
    have sL := same_new hL (.lst (ps.map fun p => .ref p.1))
    have hsx : SortedL xs := by
      unfold SortedL
      rw [List.pairwise_iff_getElem]
      intro i j hi hj hij
      have a1 := (hxs i ps[i] xs[i] (List.getElem?_eq_getElem (by omega)) (List.getElem?_eq_getElem hi)).2.1
      have a2 := (hxs j ps[j] xs[j] (List.getElem?_eq_getElem (by omega)) (List.getElem?_eq_getElem hj)).2.1
      rw [a1, a2]
      exact List.pairwise_iff_getElem.mp hs i j (by omega) (by omega) hij
    have xnod : (xs.map (·.1)).Nodup := by
      rw [List.nodup_iff_pairwise_ne, List.pairwise_map]
      exact hsx.imp fun h e => by rw [e] at h; exact List.lt_irrefl _ h
    have hmem : ∀ x, x ∈ xs ↔ x ∈ ls := fun x => by
      constructor
      · intro h
        obtain ⟨j, hj⟩ := List.getElem?_of_mem h
        have hjl := (List.getElem?_eq_some_iff.mp hj).1
        exact (hxs j ps[j] x (List.getElem?_eq_getElem (by omega)) hj).1
      · intro h
        refine Classical.byContradiction fun hn => ?_
        have nodx : xs.Nodup := by
          rw [List.nodup_iff_pairwise_ne] at xnod ⊢
          rw [List.pairwise_map] at xnod
          exact xnod.imp fun h e => h (by rw [e])
        have := nodup_le nodx (b := ls.erase x) fun z hz => by
          have hzl : z ∈ ls := by
            obtain ⟨j, hj⟩ := List.getElem?_of_mem hz
            have hjl := (List.getElem?_eq_some_iff.mp hj).1
            exact (hxs j ps[j] z (List.getElem?_eq_getElem (by omega)) hj).1
          exact (List.mem_erase_of_ne (fun e : z = x => hn (e ▸ hz))).mpr hzl
        rw [List.length_erase_of_mem h] at this
        have : 0 < ls.length := List.length_pos_of_mem h
        omega
    refine q L (ps.map (·.1)) xs _ (sm.trans sL) (free_back sm hL) (by rw [upd_same, List.map_map]; rfl) ⟨by rw [List.length_map]; omega, fun j u x h1 h2 => ?_⟩ hsx (fun x => by rw [hmem x]; exact I.whole hT x) (by omega)
    rw [List.getElem?_map, Option.map_eq_some_iff] at h1
    obtain ⟨p, hp1, rfl⟩ := h1
    exact sL _ _ (hxs j p x hp1 h2).2.2
end
end C6
namespace L2
open PySem PySem.Spec PyProof.Rows
section
variable {X : Cx} {σ : St} {H : Hp} {Q : VK}
theorem ev_dict1 {k v : Expr} {pos : Pos} (hu : X.A.units + 1 < cLine) (h : ∀ d, H d = none → Ev X k σ (upd H d (.dK [])) fun y H1 => Ev X v σ H1 fun x H2 => ∃ H3, DPut H2 d y x H3 ∧ Q (.ref d) H3) : Ev X (.Dict [some k] [v] pos) σ H Q := by
  refine ⟨fun pins s I => wpAny_Dict_any rfl rfl (by simp) (by show 1 ≤ 15; decide) ?_⟩
  have I0 : Inv X pins σ (upd H s.heap.objs.size (.dK [])) { s with heap := s.heap.push { cls := .type "dict", data := .dict #[] } } := I.laid (a := s.heap.objs.size) (o := .dK []) (t' := s.toks) (fun _ _ q => Heap.get?_push_of_some _ q) (Nat.le_refl _) (dk_empty s.heap I.big)
  show wpAny _ _ (evalPairs [(eval k X.env, do let x ← eval v X.env; standAt pos; pure x)]) _ _ _
  unfold evalPairs
  refine wpAny_bind (thn ((h _ I.fresh).run pins _ I0) fun kv s1 ⟨y, H1, I1, r1, h1⟩ => ?_)
  refine wpAny_bind (wpAny_holding (wpAny_bind (thn (h1.run pins s1 I1) fun vv s2 ⟨x, H2, I2, r2, H3, dp, q⟩ => ?_)))
  refine wpAny_bind (wpAny_standAt (wpAny_pure ?_))
  unfold evalPairs
  refine wpAny_bind (wpAny_holding (wpAny_pure (wpAny_pure ?_)))
  unfold storeAll
  rw [List.forIn_cons]
  refine wpAny_bind (wpAny_bind (d_dictSet hu I2 dp r1 r2 fun s' I' => wpAny_pure ?_))
  exact wpAny_pure ⟨.ref _, H3, I', rfl, q⟩
end
end L2
namespace C6
open PySem L2 Nt Sort2
abbrev T3b (x : Bl) : HO := .tup [.str x.1, .str x.2.1, .bl x.2.2]
def AtB (H : Hp) (us : List Addr) (ls : List Bl) : Prop := us.length = ls.length ∧ ∀ (j : Nat) u x, us[j]? = some u → ls[j]? = some x → H u = some (T3b x)
theorem AtB.same {H H' : Hp} {us : List Addr} {ls : List Bl} (h : AtB H us ls) (s : Same H H') : AtB H' us ls := ⟨h.1, fun j u x h1 h2 => s _ _ (h.2 j u x h1 h2)⟩
def spSpread : Sp := fun vs H Q _ => ∃ (f : Str) (L : Addr) (us : List Addr) (ls : List Bl), vs = [.str f, .ref L] ∧ H L = some (.lst (us.map V.ref)) ∧ AtB H us ls ∧ ls.length ≤ 60 ∧
  ∀ (d : Addr) (kvs : List (Key × V)) (H' : Hp), Same H H' → H d = none → H' d = some (.dK kvs) → SpI ls f none kvs [] → Q (.ref d) H'
section
variable {P : Program} {w : World} {K : PySem.W.Frag} {mg : Str → Option Value} {base : Heap}
abbrev NSp : List Str := ["first", "links", "odds", "waiting", "here", "one", "other", "odd", "start", "goal"]
theorem scSp : FnScope NSp ["first", "links"] (defScope sSpread) := ⟨rfl, rfl, rfl, by decide +kernel, rfl, by decide +kernel, by decide +kernel⟩
theorem strs_last (wt : List Str) (h : Str) : (((wt ++ [h]).map V.str)[((wt ++ [h]).map V.str).length - 1]? = some (.str h)) ∧ ((wt ++ [h]).map V.str).dropLast = wt.map V.str := by
  rw [List.map_append]
  constructor
  · simp
  · exact List.dropLast_concat
theorem ok_spread {f : Addr} {fd : FuncData} (F : Fun K "spread" "spread" sSpread f fd) (T : Txt mg) : FnOk P w K mg base CX0 1 f fd ["first", "links"] spSpread := by
  refine F.go scSp (fun vs H Q E h => ?_) (fun cdv A outer s H vs Q E hr h => ?_)
  · obtain ⟨f, L, us, ls, rfl, _⟩ := h
    rfl
  obtain ⟨ft, L, us, ls, rfl, hL, hat, h60, q⟩ := h
  have nd := scSp.nd
  have hu : (A.deeper (PyProof.Rows.envOfC "spread" (defScope sSpread) s.heap.objs.size f cdv)).units + 1 < cLine := by have := hr.un; omega
  have lus := hat.1
  show Run _ _ _ [some (.str ft), some (.ref L), none, none, none, none, none, none, none, none] H
  refine run_set 2 nd (ev_dict1 hu fun d hd => ev_v 0 (ev_bl ⟨_, DPut.k (k := Sum.inr ft) upd_same (small' (Nat.zero_le _)), ?_⟩))
  rw [upd_upd]
  refine run_set 3 nd (ev_lst (ea_cons (ev_v 0 (ea_nil ⟨(by show 1 ≤ sizeLine; decide), fun M hM => ?_⟩))))
  have nMd : M ≠ d := fun e => by rw [e, upd_same] at hM; cases hM
  have hM0 : H M = none := by rw [upd_ne nMd] at hM; exact hM
  have s0 : Same H (upd (upd H d (.dK (putK [] (Sum.inr ft) (.bl false)))) M (.lst [.str ft])) := (same_new hd _).trans (same_new hM _)
  have ed0 : (upd (upd H d (.dK (putK [] (Sum.inr ft) (.bl false)))) M (.lst [.str ft])) d = some (.dK (putK [] (Sum.inr ft) (.bl false))) := by rw [upd_ne (Ne.symm nMd), upd_same]
  have eM0 : (upd (upd H d (.dK (putK [] (Sum.inr ft) (.bl false)))) M (.lst [.str ft])) M = some (Ls [ft]) := upd_same
  show Run _ _ _ [some (.str ft), some (.ref L), some (.ref d), some (.ref M), none, none, none, none, none, none] (upd (upd H d (.dK (putK [] (Sum.inr ft) (.bl false)))) M (.lst [.str ft]))
  generalize upd (upd H d (.dK (putK [] (Sum.inr ft) (.bl false)))) M (.lst [.str ft]) = H0 at s0 ed0 eM0
  refine run_while (fun m σ H' => m ≤ 1000 ∧ ∃ (kvs : List (Key × V)) (wt : List Str) (u4 u5 u6 u7 u8 u9 : Option V), Same H H' ∧ H' d = some (.dK kvs) ∧ H' M = some (Ls wt) ∧ SpI ls ft none kvs wt ∧ m = 2 * (1 + 2 * ls.length - kvs.length) + wt.length ∧
      σ = [some (.str ft), some (.ref L), some (.ref d), some (.ref M), u4, u5, u6, u7, u8, u9]) (m0 := 2 * (1 + 2 * ls.length - 1) + 1)
    ⟨by omega, _, [ft], _, _, _, _, _, _, s0, ed0, eM0, SpI.start ls ft, rfl, rfl⟩ ?_
  rintro m σ H1 ⟨hm, kvs, wt, u4, u5, u6, u7, u8, u9, s1, ed1, eM1, I, em, rfl⟩
  refine et_truth (ev_v 3 (v := .ref M) ⟨!wt.isEmpty, Or.inl ⟨wt.map V.str, SqL.of eM1, by cases wt <;> rfl⟩, ?_⟩)
  rcases List.eq_nil_or_concat wt with e | ⟨wt', hh, e⟩
  · subst e
    rw [if_neg (by decide)]
    exact run_ret (ev_v 2 (q d kvs H1 s1 hd ed1 I))
  rw [List.concat_eq_append] at e
  subst e
  rw [if_pos (by cases wt' <;> rfl)]
  obtain ⟨hy, hdl⟩ := strs_last wt' hh
  refine run_set 4 nd (ev_m0 PySem.F.plainAttrs_list PySem.F.slot_list_pop PySem.F.type_list_pop mt_pop (ev_v 3 (v := .ref M) ⟨Or.inl ⟨rfl, _, SqL.of eM1⟩, M, _, .str hh, rfl, rfl, eM1, hy, ?_⟩))
  rw [hdl]
  have I1 := I.pop
  have lw : (wt' ++ [hh]).length = wt'.length + 1 := by rw [List.length_append]; rfl
  rw [lw] at em
  have hL1 : ∀ {H' : Hp}, Same H H' → H' L = some (.lst (us.map V.ref)) := fun s => s _ _ hL
  show Run _ _ _ [some (.str ft), some (.ref L), some (.ref d), some (.ref M), some (.str hh), u5, u6, u7, u8, u9] (upd H1 M (Ls wt'))
  have s2 : Same H (upd H1 M (Ls wt')) := same_mut s1 hM0
  have ed2 : (upd H1 M (Ls wt')) d = some (.dK kvs) := by rw [upd_ne (Ne.symm nMd)]; exact ed1
  have eM2 : (upd H1 M (Ls wt')) M = some (Ls wt') := upd_same
  generalize upd H1 M (Ls wt') = H2 at s2 ed2 eM2
  refine run_forL (ev_v 1 ⟨L, rfl, ⟨_, SqL.of (hL1 s2)⟩, loop_list (xs := us.map V.ref) (fun j σ H' => ∃ (kvs : List (Key × V)) (wt : List Str) (u5 u6 u7 u8 u9 : Option V), Same H H' ∧ H' d = some (.dK kvs) ∧ H' M = some (Ls wt) ∧ SpI ls ft (some hh) kvs wt ∧ 2 * (1 + 2 * ls.length - kvs.length) + wt.length < m ∧
      (∀ l ∈ ls.take j, (l.1 = hh → has kvs l.2.1) ∧ (l.2.1 = hh → has kvs l.1)) ∧ σ = [some (.str ft), some (.ref L), some (.ref d), some (.ref M), some (.str hh), u5, u6, u7, u8, u9])
    ⟨kvs, wt', _, _, _, _, _, s2, ed2, eM2, I1, by omega, fun l hl => by simp at hl, rfl⟩ ?_ ?_ ?_⟩)
  · rintro j σ H' _ ⟨_, _, _, _, _, _, _, sm, _⟩
    exact SqL.of (hL1 sm)
  · rintro j x σ H3 hx ⟨kvs, wt, u5, u6, u7, u8, u9, s3, ed, eM, I, hlt, hdone, rfl⟩
    rw [List.getElem?_map, Option.map_eq_some_iff] at hx
    obtain ⟨u, hu1, rfl⟩ := hx
    have hj : j < ls.length := by
      have := (List.getElem?_eq_some_iff.mp hu1).1
      omega
    have hlj : ls[j]? = some ls[j] := List.getElem?_eq_getElem hj
    have hup := (hat.same s3).2 j u _ hu1 hlj
    have hmem : ls[j] ∈ ls := List.getElem_mem hj
    have htk : ∀ l ∈ ls.take (j + 1), l ∈ ls.take j ∨ l = ls[j] := fun l hl => by
      rw [List.take_add_one, hlj] at hl
      rcases List.mem_append.mp hl with q | q
      · exact .inl q
      · exact .inr (by simpa using q)
    generalize ls[j] = lx at hup hmem htk
    obtain ⟨on, ot, od⟩ := lx
    refine eg_triple rfl (SqT.of hup) (eg_name 5 nd (eg_name 6 nd (eg_name 7 nd ?_)))
    show Run _ _ _ [some (.str ft), some (.ref L), some (.ref d), some (.ref M), some (.str hh), some (.str on), some (.str ot), some (.bl od), u8, u9] H3
    refine run_forT (ev_tup (ea_cons (ev_tup (ea_cons (ev_v 5 (ea_cons (ev_v 6 (ea_nil ⟨(by show 2 ≤ sizeLine; decide), fun t1 ht1 => ?_⟩))))))))
    refine ea_cons (ev_tup (ea_cons (ev_v 6 (ea_cons (ev_v 5 (ea_nil ⟨(by show 2 ≤ sizeLine; decide), fun t2 ht2 => ea_nil ⟨(by show 2 ≤ sizeLine; decide), fun tt htt => ?_⟩⟩))))))
    have n1 := same_new ht1 (.tup [.str on, .str ot])
    have n2 := same_new ht2 (.tup [.str ot, .str on])
    have n3 := same_new htt (.tup [.ref t1, .ref t2])
    have e1 := n3 _ _ (n2 _ _ (upd_same (H := H3) (a := t1) (o := .tup [.str on, .str ot])))
    have e2 := n3 _ _ (upd_same (H := upd H3 t1 (.tup [.str on, .str ot])) (a := t2) (o := .tup [.str ot, .str on]))
    have e3 := upd_same (H := upd (upd H3 t1 (.tup [.str on, .str ot])) t2 (.tup [.str ot, .str on])) (a := tt) (o := .tup [.ref t1, .ref t2])
    have n := n1.trans (n2.trans n3)
    refine ⟨tt, rfl, ⟨_, SqT.of e3⟩, ?_⟩
    generalize upd (upd (upd H3 t1 (.tup [.str on, .str ot])) t2 (.tup [.str ot, .str on])) tt (.tup [.ref t1, .ref t2]) = H4 at e1 e2 e3 n
    refine loop_tup (xs := [.ref t1, .ref t2]) (fun i σ H' => ∃ (kvs : List (Key × V)) (wt : List Str) (u8 u9 : Option V), Same H H' ∧ H' d = some (.dK kvs) ∧ H' M = some (Ls wt) ∧ H' t1 = some (.tup [.str on, .str ot]) ∧ H' t2 = some (.tup [.str ot, .str on]) ∧ H' tt = some (.tup [.ref t1, .ref t2]) ∧ SpI ls ft (some hh) kvs wt ∧ 2 * (1 + 2 * ls.length - kvs.length) + wt.length < m ∧
      (∀ l ∈ ls.take j, (l.1 = hh → has kvs l.2.1) ∧ (l.2.1 = hh → has kvs l.1)) ∧ (0 < i → on = hh → has kvs ot) ∧ (1 < i → ot = hh → has kvs on) ∧ σ = [some (.str ft), some (.ref L), some (.ref d), some (.ref M), some (.str hh), some (.str on), some (.str ot), some (.bl od), u8, u9])
      ⟨kvs, wt, _, _, s3.trans n, n _ _ ed, n _ _ eM, e1, e2, e3, I, hlt, hdone, fun h => absurd h (by decide), fun h => absurd h (by decide), rfl⟩ ?_ ?_ ?_
    · rintro i σ H' _ ⟨_, _, _, _, _, _, _, _, _, e, _⟩
      exact SqT.of e
    · rintro i x σ H5 hx ⟨kvs, wt, u8, u9, s5, ed, eM, e1, e2, e3, I, hlt, hdone, d1, d2, rfl⟩
      obtain ⟨st, gl, t, rfl, et, htch, hnext⟩ : ∃ st gl t, x = .ref t ∧ H5 t = some (.tup [.str st, .str gl]) ∧ Touch ls st gl od ∧ ∀ kvs', (∀ y, has kvs y → has kvs' y) → (st = hh → has kvs' gl) → (0 < i + 1 → on = hh → has kvs' ot) ∧ (1 < i + 1 → ot = hh → has kvs' on) := by
        match i with
        | 0 =>
          cases hx
          exact ⟨on, ot, t1, rfl, e1, .inl hmem, fun kvs' mo h => ⟨fun _ => h, fun h => absurd h (by decide)⟩⟩
        | 1 =>
          cases hx
          exact ⟨ot, on, t2, rfl, e2, .inr hmem, fun kvs' mo h => ⟨fun _ e => mo _ (d1 (by decide) e), fun _ => h⟩⟩
        | i + 2 => simp at hx
      refine eg_pair rfl (SqT.of et) (eg_name 8 nd (eg_name 9 nd ?_))
      show Run _ _ _ [some (.str ft), some (.ref L), some (.ref d), some (.ref M), some (.str hh), some (.str on), some (.str ot), some (.bl od), some (.str st), some (.str gl)] H5
      have skip : (st = hh → has kvs gl) → ∃ (kvs : List (Key × V)) (wt : List Str) (u8 u9 : Option V), Same H H5 ∧ H5 d = some (.dK kvs) ∧ H5 M = some (Ls wt) ∧ H5 t1 = some (.tup [.str on, .str ot]) ∧ H5 t2 = some (.tup [.str ot, .str on]) ∧ H5 tt = some (.tup [.ref t1, .ref t2]) ∧ SpI ls ft (some hh) kvs wt ∧ 2 * (1 + 2 * ls.length - kvs.length) + wt.length < m ∧
          (∀ l ∈ ls.take j, (l.1 = hh → has kvs l.2.1) ∧ (l.2.1 = hh → has kvs l.1)) ∧ (0 < i + 1 → on = hh → has kvs ot) ∧ (1 < i + 1 → ot = hh → has kvs on) ∧ [some (V.str ft), some (.ref L), some (.ref d), some (.ref M), some (.str hh), some (.str on), some (.str ot), some (.bl od), some (.str st), some (.str gl)] = [some (.str ft), some (.ref L), some (.ref d), some (.ref M), some (.str hh), some (.str on), some (.str ot), some (.bl od), u8, u9] := fun h =>
        ⟨kvs, wt, _, _, s5, ed, eM, e1, e2, e3, I, hlt, hdone, (hnext kvs (fun _ h => h) h).1, (hnext kvs (fun _ h => h) h).2, rfl⟩
      refine run_if (et_bool (ew_and (et_cmp op_eq (ev_v 8 (ev_v 4 ⟨rfl, _, rfl, ?_⟩)))))
      by_cases hst : st = hh
      · rw [if_pos (decide_eq_true (by rw [hst]))]
        refine ew_and1 (et_dnotin hu (ev_v 9 (ev_v 2 ⟨d, _, rfl, DGet.k (k := Sum.inr gl) ed, ?_⟩)))
        cases hg : valV kvs (Sum.inr gl) with
        | some v =>
          show if false = true then _ else _
          rw [if_neg (by decide)]
          exact run_nil (run_nil (skip fun _ => ⟨v, hg⟩))
        | none =>
          show if true = true then _ else _
          rw [if_pos rfl]
          have hhh : has kvs hh := by
            rcases I.hrk with q
            exact q
          obtain ⟨v, hv⟩ := hhh
          obtain ⟨b, rfl, _⟩ := I.val hh v hv
          subst hst
          have I' := I.add (o := od) hg hv htch
          have lk := I.len
          have lk' := I'.len
          have hkl : (putK kvs (Sum.inr gl) (.bl (b != od))).length = kvs.length + 1 := by
            have hng := I.notin hg
            have := congrArg List.length (keysP kvs (Sum.inr gl) (.bl (b != od)))
            rw [if_neg hng, List.length_append, List.length_map, List.length_map] at this
            exact this
          refine run_dput hu (ev_cmp op_ne (ev_dget hu (ev_v 2 (ev_v 4 ⟨d, .bl b, rfl, by rw [← hv]; exact DGet.k (k := Sum.inr st) ed, ev_v 7 ⟨rfl, ?_⟩⟩))))
          rw [dec_bl]
          refine ev_v 2 (ev_v 9 ⟨d, _, rfl, DPut.k (k := Sum.inr gl) ed (small' (by omega)), ?_⟩)
          have eM' : (upd H5 d (.dK (putK kvs (Sum.inr gl) (.bl (b != od))))) M = some (Ls wt) := by rw [upd_ne nMd]; exact eM
          refine run_expr (ev_append (ev_v 3 ⟨M, rfl, ⟨_, eM'⟩, ev_v 9 ⟨_, eM', by rw [List.length_map]; exact small' (by omega), ?_⟩⟩))
          have kT : ∀ c xs, H5 c = some (.tup xs) → (upd (upd H5 d (.dK (putK kvs (Sum.inr gl) (.bl (b != od))))) M (.lst (wt.map V.str ++ [.str gl]))) c = some (.tup xs) := fun c xs h => by
            rw [upd_ne (ne_of h eM fun z => nomatch z), upd_ne (ne_of h ed fun z => nomatch z)]
            exact h
          have mo : ∀ y, has kvs y → has (putK kvs (Sum.inr gl) (.bl (b != od))) y := fun y h => has_put h
          have hn := hnext _ mo (fun _ => ⟨.bl (b != od), by rw [valV_put, if_pos rfl]⟩)
          refine run_nil (run_nil ⟨_, wt ++ [gl], _, _, same_mut (same_mut s5 hd) hM0, ?_, ?_, kT _ _ e1, kT _ _ e2, kT _ _ e3, I', ?_, fun l hl => ⟨fun e => mo _ ((hdone l hl).1 e), fun e => mo _ ((hdone l hl).2 e)⟩, hn.1, hn.2, rfl⟩)
          · rw [upd_ne (Ne.symm nMd)]
            exact upd_same
          · rw [upd_same]
            show some (HO.lst (wt.map V.str ++ [.str gl])) = some (HO.lst ((wt ++ [gl]).map V.str))
            rw [List.map_append]
            rfl
          · rw [hkl, List.length_append]
            rw [hkl] at lk'
            show _ + (wt.length + 1) < m
            omega
      · rw [if_neg (fun h => hst (V.str.inj (of_decide_eq_true h)))]
        show if false = true then _ else _
        rw [if_neg (by decide)]
        exact run_nil (run_nil (skip fun h => absurd h hst))
    · rintro σ H5 ⟨kvs, wt, u8, u9, s5, ed, eM, _, _, _, I, hlt, hdone, d1, d2, rfl⟩
      refine run_nil ⟨kvs, wt, _, _, _, _, _, s5, ed, eM, I, hlt, fun l hl => ?_, rfl⟩
      rcases htk l hl with q | q
      · exact hdone l q
      · subst q
        exact ⟨d1 (by show 0 < 2; decide), d2 (by show 1 < 2; decide)⟩
  · rintro σ H3 ⟨kvs, wt, u5, u6, u7, u8, u9, s3, ed, eM, I, hlt, hdone, rfl⟩
    rw [List.length_map, lus, List.take_length] at hdone
    refine run_nil ⟨_, hlt, by omega, kvs, wt, _, _, _, _, _, _, s3, ed, eM, I.close fun y o ht => ?_, rfl, rfl⟩
    rcases ht with h | h
    · exact (hdone _ h).1 rfl
    · exact (hdone _ h).2 rfl
end
end C6
namespace L2
open PySem PySem.Spec PyProof.Rows SetT
section
variable {prog : Program} {w : World} {A : Around} {E : Value → Shared → Prop} {s : Shared} {T : String} {r d : Addr} {n : Nat} {P : Nat → Value → Prop} {OK : Heap → Prop}
theorem collect_src {R : List Value → Shared → Prop} (K : PySem.W.KdlSrc prog w T r d n P OK) (hh : A.handled = none) (hok : OK s.heap) (hn : n ≤ sizeLine)
    (h : ∀ (h' : Heap) (tk : Nat) (acc : Array Value), (∀ b o, s.heap.get? b = some o → h'.get? b = some o) → s.heap.objs.size < h'.objs.size → ItemsOf P acc n → R acc.toList { s with heap := h', toks := tk }) :
    wpAny (model prog w) A (collect (.ref r)) R E s := by
  obtain ⟨l1, l2⟩ := K.there _ hok
  unfold collect
  refine wpAny_bind (wpAny_runValue (codeAny_builtin F.entry_proto_collect ?_))
  rw [Around.under_plainId F.plain_proto_collect _]
  show wpAny _ A.in1 (newList [] >>= fun l => again (.builtin "list.__iadd__" ⟨[l, .ref r], []⟩)) _ _ s
  refine wpAny_bind (wpAny_newList ?_)
  refine wpAny_pure ⟨plainId_quiet F.plain_list_iadd _, codeAny_builtin F.entry_list_iadd ?_⟩
  rw [Around.under_plainId F.plain_list_iadd _]
  generalize hL : s.heap.objs.size = L at *
  have hS : (s.heap.push { cls := .type "list", data := .seq ([] : List Value).toArray }).get? L = some { cls := .type "list", data := .seq #[] } := by rw [← hL]; exact Heap.get?_push_size _ rfl
  show wpAny _ A.in1 (Builtin.List.listExtendWith (.ref L) (.ref r) (.ref L)) _ _ _
  refine wpAny_mono (PySem.W.kdl_extend (A := A) (s := { s with heap := s.heap.push { cls := .type "list", data := .seq ([] : List Value).toArray } })
    (R := fun (q : Result) (s' : Shared) => ∃ (h' : Heap) (tk : Nat) (acc : Array Value) (c : Nat), q = .ok (.ret (.ref L)) ∧ s' = { s with heap := h', toks := tk } ∧ (∀ b o, s.heap.get? b = some o → h'.get? b = some o) ∧ h'.get? L = some { cls := .type "list", dict := none, data := .seq acc c, slots := #[] } ∧ ItemsOf P acc n)
    K hh (K.keep _ _ hok fun b _ o e => Heap.get?_push_of_some _ e) L (Nat.ne_of_gt l1) (Nat.ne_of_gt l2) (.ref L) 0 hS
    (fun h' tk acc c hk hS' hacc => ⟨h', tk, acc, c, rfl, rfl, fun b o e => hk b o (by rw [← hL]; exact Nat.ne_of_lt (Heap.lt_size e)) (Heap.get?_push_of_some _ e), hS', hacc⟩) hn) (fun fin s' x => ?_) fun e s' x => ?_
  · cases fin with
    | done f =>
      obtain ⟨h', tk, acc, c, e, rfl, hk, hS', hacc⟩ := x
      cases e
      show wpAny _ A (load L >>= _) _ _ _
      exact wpAny_bind (wpAny_load hS' (wpAny_pure (h h' tk acc hk (Heap.lt_size hS') hacc)))
    | again c₁ =>
      refine ⟨x.1, codeAny_mono x.2 fun q s₂ y => ?_⟩
      obtain ⟨h', tk, acc, c, rfl, rfl, hk, hS', hacc⟩ := y
      show wpAny _ A (load L >>= _) _ _ _
      exact wpAny_bind (wpAny_load hS' (wpAny_pure (h h' tk acc hk (Heap.lt_size hS') hacc)))
  · obtain ⟨_, _, _, _, e', _⟩ := x
    cases e'
end
section
variable {X : Cx}
theorem strs_keys : ∀ {zs : List Str} {us : List Value}, us.length = zs.length → (∀ (j : Nat) u, us[j]? = some u → ∃ z t, zs[j]? = some z ∧ u = Value.str z t) → StrsAre us zs := by
  intro zs
  induction zs with
  | nil =>
    intro us h _
    cases us with
    | nil => exact .nil
    | cons a r => cases h
  | cons z r ih =>
    intro us h g
    cases us with
    | nil => cases h
    | cons u q =>
      obtain ⟨z', t, e, rfl⟩ := g 0 u rfl
      simp only [List.getElem?_cons_zero, Option.some.injEq] at e
      subst e
      exact .cons z t (ih (by simpa using h) fun j u hu => by simpa using g (j + 1) u (by simpa using hu))
theorem call_sorted_dict (hc : X.calm = true) : CallR X (.builtin "sorted") (fun xs H Q => ∃ a kvs zs, xs = [.ref a] ∧ Rd H a (.dK kvs) ∧ kvs.map (·.1) = zs.map Sum.inr ∧ zs.length < 64 ∧ ∀ l ss, H l = none → ss.Perm zs → sortedS ss = true → Q (.ref l) (upd H l (.lst (ss.map V.str)))) := by
  intro pins s σ H xs us Q I r h
  obtain ⟨a, kvs, zs, rfl, hH, hk, h64, q⟩ := h
  obtain ⟨u, rfl, ru⟩ := vals1 r
  cases (show u = Value.ref a from ru)
  obtain ⟨z, hd, vs, rel, dd⟩ := dk_rd I.hok hH
  obtain ⟨ep, da⟩ := dd.dictAt
  have hl := rel.length
  have hlz : vs.length = zs.length := by
    have := congrArg List.length hk
    rw [List.length_map, List.length_map] at this
    omega
  refine Calls.call_function_entry kind_sorted plain_sorted entry_sorted (args_sorted1 _) ?_
  unfold Builtin.«sorted»
  refine wpAny_bind (m := checkCount "sorted" 1 1 _) (wpAny_pure ?_)
  refine wpAny_bind (collect_src (A := X.A.in1) (PySem.W.kdl_dict (knd := mixKind X.prog X.w) (kvs := vs) (ep := ep) hd) (I.ok.hd hc) da (by omega) fun h' tk acc hkp hgr hacc => ?_)
  have hS : StrsAre acc.toList zs := strs_keys (by rw [Array.length_toList, hacc.1]; exact hlz) fun j u hu => by
    obtain ⟨k, x, e, g⟩ := hacc.2 j u (by rw [← Array.getElem?_toList]; exact hu)
    have e2 : (kvs.map (·.1))[j]? = some k := by rw [rel.keys, List.getElem?_map, e]; rfl
    rw [hk, List.getElem?_map, Option.map_eq_some_iff] at e2
    obtain ⟨zz, hz, rfl⟩ := e2
    obtain ⟨t, et⟩ : ∃ t, u = Value.str zz t := is_kV g
    exact ⟨zz, t, hz, et⟩
  have hlen : acc.toList.length = zs.length := by rw [Array.length_toList, hacc.1]; exact hlz
  refine wpAny_bind (wpAny_newList ?_ (by rw [hlen]; exact sz_ok (by omega)))
  have hoL : (h'.push (seqObj "list" acc.toList.toArray 0)).get? h'.objs.size = some (seqObj "list" acc.toList.toArray 0) := Heap.get?_push_size _ rfl
  have hsz : s.heap.objs.size ≤ h'.objs.size := Nat.le_of_lt hgr
  refine wpAny_bind (wpAny_holding (wpAny_call_entry slot_list_sort ⟨_, hoL, rfl⟩ entry_list_sort (list_sort_treeK strKind_oneLt hoL hS.keysOf (fun v₁ v₂ rest e => keyKind_strs (by rw [← e]; exact hS)) (by rw [hlen]; exact h64) fun st' a1 a2 => ⟨_, rfl, ?_⟩) (args_list_sort _)))
  obtain ⟨ss, q1, q2, q3⟩ := sorted_out_str hS a1 a2
  obtain ⟨e, he⟩ := sortedHeap_at (out := (arrOf st').map (·.2)) hoL
  have hls : ss.length ≤ sizeLine := by rw [q2.length_eq]; exact sz_ok (by omega)
  refine wpAny_pure ⟨_, rfl, .ref _, _, I.laid' (a := h'.objs.size) (o := .lst (ss.map V.str)) (fun b u hb => ?_) rfl rfl hsz ⟨by rw [List.length_map]; exact hls, _, e, vals_of_strs q1, he⟩, rfl, q _ ss (I.hok.fresh hsz) q2 q3⟩
  have hb1 := hkp b u hb
  have hlt := Heap.lt_size hb1
  show (sortedHeap (h'.push _) h'.objs.size _ _).get? b = some u
  rw [sortedHeap_old (Nat.ne_of_lt hlt) (by rw [size_push']; exact Nat.lt_succ_of_lt hlt)]
  exact Heap.get?_push_of_some _ hb1
end
end L2
namespace Nt
open PySem L2
theorem eqD_str {X : Cx} {H : Hp} {k : Nat} (z : Str) : EqD X H k (.str z) (.str z) true := by
  have := eqD_flat (X := X) (H := H) (k := k) (x := .str z) (y := .str z) rfl rfl
  have e : eqV (.str z) (.str z) = true := by show (z == z) = true; simp
  rw [e] at this
  exact this
theorem rcD_strs {X : Cx} {H : Hp} {a b : Addr} {zs : List Str} (ha : H a = some (Ls zs)) (hb : H b = some (Ls zs)) : RcD X H 1 (.ref a) (.ref b) true := by
  have q := rcD_list (X := X) (k := 0) (fun _ => true) (SqL.of (K := X.K) ha) (SqL.of (K := X.K) hb) rfl fun j x y hx hy => by
    rw [hx] at hy
    cases hy
    rw [List.getElem?_map, Option.map_eq_some_iff] at hx
    obtain ⟨z, _, rfl⟩ := hx
    exact eqD_str z
  rw [all_true] at q
  exact q
theorem rnD_strs {X : Cx} {H : Hp} {a b : Addr} {zs : List Str} (ha : H a = some (Ls zs)) (hb : H b = some (Ls zs)) : RnD X H 1 (.ref a) (.ref b) true := by
  have q := rnD_list (X := X) (k := 0) (fun _ => true) (SqL.of (K := X.K) ha) (SqL.of (K := X.K) hb) rfl fun j x y hx hy => by
    rw [hx] at hy
    cases hy
    rw [List.getElem?_map, Option.map_eq_some_iff] at hx
    obtain ⟨z, _, rfl⟩ := hx
    exact eqD_str z
  rw [all_true] at q
  exact q
end Nt
namespace Nt
open PySem L2
open PyProof.Rows (sortedS)
def wt (g : End → Bool) (L : List (Str × End)) (z : Str) : Nat := ((posIn L z).filter g).length
theorem wt_snoc (g : End → Bool) (L : List (Str × End)) (y z : Str) (e : End) : wt g (L ++ [(y, e)]) z = wt g L z + (if y = z then (if g e then 1 else 0) else 0) := by
  unfold wt
  rw [posIn_snoc, List.filter_append, List.length_append]
  congr 1
  by_cases h : y = z
  · rw [if_pos h, if_pos h]
    cases hg : g e <;> simp [hg]
  · rw [if_neg h, if_neg h]
    rfl
structure WtOn (g : End → Bool) (L : List (Str × End)) (kvs : List (Key × V)) (ks : List Str) : Prop where
  keys : kvs.map (·.1) = ks.map Sum.inr
  nodup : ks.Nodup
  mem : ∀ z, z ∈ ks ↔ z ∈ L.map (·.1)
  val : ∀ z, valV kvs (Sum.inr z) = if z ∈ L.map (·.1) then some (.int (wt g L z)) else none
theorem WtOn.start (g : End → Bool) : WtOn g [] [] [] := ⟨rfl, List.nodup_nil, fun _ => Iff.rfl, fun _ => rfl⟩
theorem WtOn.len {g : End → Bool} {L : List (Str × End)} {kvs : List (Key × V)} {ks : List Str} (C : WtOn g L kvs ks) : kvs.length ≤ L.length := by
  have e := congrArg List.length C.keys
  rw [List.length_map, List.length_map] at e
  rw [e, ← List.length_map (as := L) (f := (·.1))]
  exact nodup_le C.nodup fun z hz => (C.mem z).mp hz
theorem WtOn.get {g : End → Bool} {L : List (Str × End)} {kvs : List (Key × V)} {ks : List Str} (C : WtOn g L kvs ks) (z : Str) : (valV kvs (Sum.inr z)).getD (.int 0) = .int (wt g L z) := by
  rw [C.val z]
  by_cases hz : z ∈ L.map (·.1)
  · rw [if_pos hz]
    rfl
  · rw [if_neg hz]
    have : posIn L z = [] := by
      unfold posIn
      rw [List.map_eq_nil_iff, List.filter_eq_nil_iff]
      intro x hx q
      exact hz (List.mem_map.mpr ⟨x, hx, of_decide_eq_true q⟩)
    unfold wt
    rw [this]
    rfl
theorem WtOn.put {g : End → Bool} {L : List (Str × End)} {kvs : List (Key × V)} {ks : List Str} (C : WtOn g L kvs ks) (z : Str) (e : End) : ∃ ks', WtOn g (L ++ [(z, e)]) (putK kvs (Sum.inr z) (.int ((wt g L z : Int) + (if g e then 1 else 0)))) ks' := by
  have hv : ∀ y, valV (putK kvs (Sum.inr z) (.int ((wt g L z : Int) + (if g e then 1 else 0)))) (Sum.inr y) = if y ∈ (L ++ [(z, e)]).map (·.1) then some (.int (wt g (L ++ [(z, e)]) y)) else none := fun y => by
    rw [valV_put, wt_snoc]
    by_cases h : y = z
    · subst h
      have h1 : y ∈ (L ++ [(y, e)]).map (·.1) := by rw [List.map_append]; exact List.mem_append_right _ (List.mem_singleton.mpr rfl)
      have h2 : (if y = y then (if g e = true then 1 else 0) else 0) = (if g e = true then 1 else 0) := if_pos rfl
      have h3 : ∀ (a b : Option V), (if (Sum.inr y : Key) = Sum.inr y then a else b) = a := fun a b => if_pos rfl
      rw [h3, if_pos h1, h2]
      have : ((wt g L y : Int) + (if g e = true then 1 else 0)) = ((wt g L y + (if g e = true then 1 else 0) : Nat) : Int) := by
        split <;> omega
      rw [this]
    · have e' : ¬ (Sum.inr y : Key) = Sum.inr z := fun q => h (Sum.inr.inj q)
      have e2 : (if z = y then (if g e = true then 1 else 0) else 0) = 0 := if_neg (fun q => h q.symm)
      rw [if_neg e', C.val y, e2]
      by_cases hy : y ∈ L.map (·.1)
      · rw [if_pos hy, if_pos (by rw [List.map_append]; exact List.mem_append_left _ hy)]
        rfl
      · rw [if_neg hy, if_neg (fun q => by
          rw [List.map_append] at q
          rcases List.mem_append.mp q with q | q
          · exact hy q
          · exact h (by simpa using q))]
  by_cases hz : z ∈ L.map (·.1)
  · have hm : Sum.inr z ∈ kvs.map (·.1) := by
      rw [C.keys]
      exact List.mem_map.mpr ⟨z, (C.mem z).mpr hz, rfl⟩
    refine ⟨ks, ?_, C.nodup, fun y => ?_, hv⟩
    · rw [keysP, if_pos hm, C.keys]
    · rw [C.mem y, List.map_append, List.mem_append]
      refine ⟨.inl, fun h => h.elim id fun h => ?_⟩
      have : y = z := by simpa using h
      rw [this]
      exact hz
  · have hm : Sum.inr z ∉ kvs.map (·.1) := by
      rw [C.keys]
      intro q
      obtain ⟨y, hy, e⟩ := List.mem_map.mp q
      cases e
      exact hz ((C.mem z).mp hy)
    refine ⟨ks ++ [z], ?_, nd_snoc C.nodup fun h => hz ((C.mem z).mp h), fun y => ?_, hv⟩
    · rw [keysP, if_neg hm, C.keys, List.map_append]
      rfl
    · rw [List.mem_append, C.mem y, List.map_append, List.mem_append]
      rfl
theorem WtOn.cut {n : Net} (T : Twice n) {ps : List Str} {kvs : List (Key × V)} {ks : List Str} (C : WtOn (fun e => decide (nmA n e.1 ∈ ps)) (seats n) kvs ks) (z : Str) : (z ∈ ks ∧ wt (fun e => decide (nmA n e.1 ∈ ps)) (seats n) z = 1) ↔ IsCut n ps z := by
  have hks : z ∈ ks ↔ z ∈ ties n := by rw [C.mem z, show (seats n).map (·.1) = ties n from seats_names n 0]
  have key : z ∈ ties n → (wt (fun e => decide (nmA n e.1 ∈ ps)) (seats n) z = 1 ↔ IsCut n ps z) := fun hz => by
    obtain ⟨a, ha⟩ : ∃ a, a ∈ pos n z := by
      cases hp : pos n z with
      | nil => exact absurd hp (ties_pos.mp hz)
      | cons a r => exact ⟨a, List.mem_cons_self ..⟩
    obtain ⟨x, y, hp, hxy, hh⟩ := pos_two T (mem_pos.mp ha)
    have hl : IsLink n (z, nmA n x.1, nmA n y.1) := ⟨x, y, hp, rfl, rfl⟩
    have hc := link_cut (ps := ps) T hl
    have e : wt (fun e => decide (nmA n e.1 ∈ ps)) (seats n) z = ((pos n z).filter fun e => decide (nmA n e.1 ∈ ps)).length := rfl
    rw [hc, e, hp]
    by_cases h1 : nmA n x.1 ∈ ps <;> by_cases h2 : nmA n y.1 ∈ ps <;> simp [h1, h2]
  constructor
  · rintro ⟨h1, h2⟩
    exact (key (hks.mp h1)).mp h2
  · intro h
    have hz := cut_mem h
    exact ⟨hks.mpr hz, (key hz).mpr h⟩
abbrev bAt (kvs : List (Key × V)) (r : Nat) (b : Bool) : Prop := valV kvs (Sum.inl (r : Int)) = some (.bl b)
structure LaI (n : Net) (ss : List Str) (hr : Option (Nat × Nat)) (kvs : List (Key × V)) (lf : List Nat) : Prop where
  nod : (kvs.map (·.1)).Nodup
  num : ∀ k ∈ kvs.map (·.1), ∃ r : Nat, k = Sum.inl (r : Int) ∧ r < n.length
  val : ∀ (r : Nat) v, valV kvs (Sum.inl (r : Int)) = some v → ∃ b, v = .bl b ∧ Way (lksE n ss) (fstN n) (nmA n r) b
  fst : ∃ b, bAt kvs 0 b
  lfk : ∀ r ∈ lf, ∃ b, bAt kvs r b
  hrh : ∀ x p, hr = some (x, p) → ∃ b, bAt kvs x b
  cls : ∀ r b, bAt kvs r b → r ∈ lf ∨ (∃ p, hr = some (r, p)) ∨ ∀ p z, tieAt n (r, p) = some z → bAt kvs (other n (r, p)).1 (b != decide (z ∈ ss))
  dne : ∀ x p, hr = some (x, p) → ∀ b, bAt kvs x b → ∀ p', p' < p → ∀ z, tieAt n (x, p') = some z → bAt kvs (other n (x, p')).1 (b != decide (z ∈ ss))
theorem val_none {kvs : List (Key × V)} {k : Key} (hg : valV kvs k = none) : k ∉ kvs.map (·.1) := by
  induction kvs with
  | nil => intro h; cases h
  | cons c r ih =>
    intro h
    by_cases hc : c.1 = k
    · rw [valV_pos hc] at hg
      cases hg
    · rw [valV_neg hc] at hg
      rcases List.mem_cons.mp h with q | q
      · exact hc q.symm
      · exact ih hg q
theorem val_some {kvs : List (Key × V)} {k : Key} {v : V} (hg : valV kvs k = some v) : k ∈ kvs.map (·.1) := by
  refine Classical.byContradiction fun hn => ?_
  induction kvs with
  | nil => cases hg
  | cons c r ih =>
    rw [List.map_cons, List.mem_cons] at hn
    rw [valV_neg (fun q => hn (.inl q.symm))] at hg
    exact ih hg fun q => hn (.inr q)
theorem LaI.lt {n : Net} {ss : List Str} {hr : Option (Nat × Nat)} {kvs : List (Key × V)} {lf : List Nat} (I : LaI n ss hr kvs lf) {r : Nat} {b : Bool} (h : bAt kvs r b) : r < n.length := by
  obtain ⟨r', e, h'⟩ := I.num _ (val_some h)
  have := Sum.inl.inj e
  omega
theorem LaI.len {n : Net} {ss : List Str} {hr : Option (Nat × Nat)} {kvs : List (Key × V)} {lf : List Nat} (I : LaI n ss hr kvs lf) : kvs.length ≤ n.length := by
  have := nodup_le I.nod (b := (List.range n.length).map fun r => Sum.inl ((r : Nat) : Int)) fun k hk => by
    obtain ⟨r, e, h⟩ := I.num k hk
    exact List.mem_map.mpr ⟨r, List.mem_range.mpr h, e.symm⟩
  rw [List.length_map, List.length_map, List.length_range] at this
  exact this
theorem inl_ne {a b : Nat} (h : a ≠ b) : ¬ (Sum.inl (a : Int) : Key) = Sum.inl (b : Int) := fun q => h (by have := Sum.inl.inj q; omega)
theorem LaI.start {n : Net} {ss : List Str} (h0 : 0 < n.length) : LaI n ss none (putK [] (Sum.inl 0) (.bl false)) [0] := by
  have hv : ∀ r : Nat, valV (putK ([] : List (Key × V)) (Sum.inl 0) (.bl false)) (Sum.inl (r : Int)) = if r = 0 then some (.bl false) else none := fun r => by
    rw [valV_put]
    by_cases h : r = 0
    · subst h
      rfl
    · rw [if_neg h, if_neg (fun q => h (by have := Sum.inl.inj q; omega))]
      rfl
  have h00 : bAt (putK ([] : List (Key × V)) (Sum.inl 0) (.bl false)) 0 false := by
    show valV _ _ = _
    rw [hv, if_pos rfl]
  refine ⟨by show ([Sum.inl 0] : List Key).Nodup; simp, fun k hk => ⟨0, by simpa [putK] using hk, h0⟩, fun r v h => ?_, ⟨false, h00⟩, fun r hr => ⟨false, by rw [List.mem_singleton.mp hr]; exact h00⟩, fun x p h => (by cases h), fun r b h => ?_, fun x p h => (by cases h)⟩
  · rw [hv] at h
    by_cases c : r = 0
    · rw [if_pos c] at h
      cases h
      subst c
      exact ⟨false, rfl, .here⟩
    · rw [if_neg c] at h
      cases h
  · have h : valV _ _ = _ := h
    rw [hv] at h
    by_cases c : r = 0
    · exact .inl (List.mem_singleton.mpr c)
    · rw [if_neg c] at h
      cases h
theorem LaI.pop {n : Net} {ss : List Str} {kvs : List (Key × V)} {lf : List Nat} {h : Nat} (I : LaI n ss none kvs (lf ++ [h])) : LaI n ss (some (h, 0)) kvs lf := by
  refine ⟨I.nod, I.num, I.val, I.fst, fun r hr => I.lfk r (List.mem_append_left _ hr), fun x p e => ?_, fun r b hb => ?_, fun x p e b hb p' hp' => ?_⟩
  · cases e
    exact I.lfk h (List.mem_append_right _ (List.mem_singleton.mpr rfl))
  · rcases I.cls r b hb with c | c | c
    · rcases List.mem_append.mp c with c | c
      · exact .inl c
      · exact .inr (.inl ⟨0, by rw [List.mem_singleton.mp c]⟩)
    · obtain ⟨p, e⟩ := c
      cases e
    · exact .inr (.inr c)
  · cases e
    exact absurd hp' (Nat.not_lt_zero _)
theorem LaI.close {n : Net} {ss : List Str} {kvs : List (Key × V)} {lf : List Nat} {h p : Nat} (I : LaI n ss (some (h, p)) kvs lf) (hp : (row n h).length ≤ p) : LaI n ss none kvs lf := by
  refine ⟨I.nod, I.num, I.val, I.fst, I.lfk, fun x p e => (by cases e), fun r b hb => ?_, fun x p e => (by cases e)⟩
  rcases I.cls r b hb with c | c | c
  · exact .inl c
  · obtain ⟨p', e⟩ := c
    cases e
    exact .inr (.inr fun p' z hz => I.dne h p rfl b hb p' (Nat.lt_of_lt_of_le (end_lt hz) hp) z hz)
  · exact .inr (.inr c)
theorem LaI.step {n : Net} {ss : List Str} {kvs : List (Key × V)} {lf : List Nat} {h p : Nat} (I : LaI n ss (some (h, p)) kvs lf) {z : Str} {b : Bool} (hz : tieAt n (h, p) = some z) (hb : bAt kvs h b) (ht : bAt kvs (other n (h, p)).1 (b != decide (z ∈ ss))) : LaI n ss (some (h, p + 1)) kvs lf := by
  refine ⟨I.nod, I.num, I.val, I.fst, I.lfk, fun x q e => ?_, fun r c hc => ?_, fun x q e c hc p' hp' y hy => ?_⟩
  · cases e
    exact ⟨b, hb⟩
  · rcases I.cls r c hc with k | k | k
    · exact .inl k
    · obtain ⟨q, e⟩ := k
      cases e
      exact .inr (.inl ⟨_, rfl⟩)
    · exact .inr (.inr k)
  · cases e
    by_cases k : p' < p
    · exact I.dne h p rfl c hc p' k y hy
    · have : p' = p := by omega
      subst this
      rw [hz] at hy
      cases hy
      have hc : valV _ _ = _ := hc
      rw [hb] at hc
      cases hc
      exact ht
theorem LaI.way {n : Net} {ss : List Str} {kvs : List (Key × V)} {lf : List Nat} {hr : Option (Nat × Nat)} (I : LaI n ss hr kvs lf) {r p : Nat} {z : Str} {b : Bool} (hz : tieAt n (r, p) = some z) (hb : bAt kvs r b) : Way (lksE n ss) (fstN n) (nmA n (other n (r, p)).1) (b != decide (z ∈ ss)) := by
  obtain ⟨b', e, w⟩ := I.val r _ hb
  cases e
  rcases (lksE_tells (n := n) (ss := ss)).to (r, p) z hz with t | t
  · exact .there w t
  · exact .back w t
theorem LaI.new {n : Net} (T : Twice n) {ss : List Str} {kvs : List (Key × V)} {lf : List Nat} {h p : Nat} (I : LaI n ss (some (h, p)) kvs lf) {z : Str} {b : Bool} (hz : tieAt n (h, p) = some z) (hb : bAt kvs h b) (hn : valV kvs (Sum.inl ((other n (h, p)).1 : Int)) = none) :
    LaI n ss (some (h, p + 1)) (putK kvs (Sum.inl ((other n (h, p)).1 : Int)) (.bl (b != decide (z ∈ ss)))) (lf ++ [(other n (h, p)).1]) := by
  have w := I.way hz hb
  have hlt := other_lt T hz
  have hnk := val_none hn
  have hnew : bAt (putK kvs (Sum.inl ((other n (h, p)).1 : Int)) (.bl (b != decide (z ∈ ss)))) (other n (h, p)).1 (b != decide (z ∈ ss)) := by
    show valV _ _ = _
    rw [valV_put, if_pos rfl]
  have up : ∀ {r : Nat} {c : Bool}, bAt kvs r c → bAt (putK kvs (Sum.inl ((other n (h, p)).1 : Int)) (.bl (b != decide (z ∈ ss)))) r c := fun {r c} hc => by
    show valV _ _ = _
    rw [valV_put, if_neg (fun q => ?_)]
    · exact hc
    · have hc : valV _ _ = _ := hc
      rw [q, hn] at hc
      cases hc
  have dn : ∀ {r : Nat} {c : Bool}, bAt (putK kvs (Sum.inl ((other n (h, p)).1 : Int)) (.bl (b != decide (z ∈ ss)))) r c → r = (other n (h, p)).1 ∨ bAt kvs r c := fun {r c} hc => by
    have hc : valV _ _ = _ := hc
    rw [valV_put] at hc
    by_cases q : r = (other n (h, p)).1
    · exact .inl q
    · rw [if_neg (inl_ne q)] at hc
      exact .inr hc
  have I' : LaI n ss (some (h, p)) (putK kvs (Sum.inl ((other n (h, p)).1 : Int)) (.bl (b != decide (z ∈ ss)))) (lf ++ [(other n (h, p)).1]) := by
    refine ⟨?_, fun k hk => ?_, fun r v hv => ?_, ?_, fun r hr => ?_, fun x q e => ?_, fun r c hc => ?_, fun x q e c hc p' hp' y hy => ?_⟩
    · rw [keysP, if_neg hnk]
      exact nd_snoc I.nod hnk
    · rw [keysP, if_neg hnk] at hk
      rcases List.mem_append.mp hk with hk | hk
      · exact I.num k hk
      · exact ⟨_, List.mem_singleton.mp hk, hlt⟩
    · rw [valV_put] at hv
      by_cases q : r = (other n (h, p)).1
      · rw [if_pos (by rw [q])] at hv
        cases hv
        exact ⟨_, rfl, by rw [q]; exact w⟩
      · rw [if_neg (inl_ne q)] at hv
        exact I.val r v hv
    · obtain ⟨c, hc⟩ := I.fst
      exact ⟨c, up hc⟩
    · rcases List.mem_append.mp hr with hr | hr
      · obtain ⟨c, hc⟩ := I.lfk r hr
        exact ⟨c, up hc⟩
      · rw [List.mem_singleton.mp hr]
        exact ⟨_, hnew⟩
    · obtain ⟨c, hc⟩ := I.hrh x q e
      exact ⟨c, up hc⟩
    · rcases dn hc with q | hc
      · exact .inl (List.mem_append_right _ (by rw [q]; exact List.mem_singleton.mpr rfl))
      · rcases I.cls r c hc with k | k | k
        · exact .inl (List.mem_append_left _ k)
        · exact .inr (.inl k)
        · exact .inr (.inr fun p' y hy => up (k p' y hy))
    · rcases dn hc with q' | hc
      · obtain ⟨c', hc'⟩ := I.hrh x q e
        rw [q'] at hc'
        have : valV _ _ = _ := hc'
        rw [hn] at this
        cases this
      · exact up (I.dne x q e c hc p' hp' y hy)
  exact I'.step hz (up hb) hnew
theorem LaI.bad {n : Net} (T : Twice n) {ss : List Str} {kvs : List (Key × V)} {lf : List Nat} {hr : Option (Nat × Nat)} (I : LaI n ss hr kvs lf) {r p : Nat} {z : Str} {b c : Bool} (hz : tieAt n (r, p) = some z) (hb : bAt kvs r b) (hc : bAt kvs (other n (r, p)).1 c) (hne : c ≠ (b != decide (z ∈ ss))) : ∀ sd, ¬ IsSide n ss sd := fun sd hs => by
  obtain ⟨c', e, w⟩ := I.val _ _ hc
  cases e
  have e1 := way_side T lksE_tells hs w
  have e2 := way_side T lksE_tells hs (I.way hz hb)
  exact hne (by rw [← e1, e2])
theorem nmA_inj {n : Net} (hn : (n.map (·.1)).Nodup) {i j : Nat} (hi : i < n.length) (hj : j < n.length) (h : nmA n i = nmA n j) : i = j := by
  rw [nmA_eq hi, nmA_eq hj] at h
  have := (List.nodup_iff_pairwise_ne.mp hn)
  rw [List.pairwise_iff_getElem] at this
  rcases Nat.lt_trichotomy i j with q | q | q
  · exact absurd (by rw [List.getElem_map, List.getElem_map]; exact h) (this i j (by simpa using hi) (by simpa using hj) q)
  · exact q
  · exact absurd (by rw [List.getElem_map, List.getElem_map]; exact h.symm) (this j i (by simpa using hj) (by simpa using hi) q)
theorem LaI.whole {n : Net} (T : Twice n) (hg : Hang n) (h0 : 0 < n.length) (hn : (n.map (·.1)).Nodup) {ss sd : List Str} {kvs : List (Key × V)} (I : LaI n ss none kvs []) (hss : ∀ z ∈ ss, z ∈ ties n) (hs : Srt sd) (hm : ∀ x, x ∈ sd ↔ ∃ r : Nat, bAt kvs r true ∧ x = nmA n r) : IsSide n ss sd := by
  have ok : ∀ r b, bAt kvs r b → ∀ p z, tieAt n (r, p) = some z → bAt kvs (other n (r, p)).1 (b != decide (z ∈ ss)) := fun r b hb => by
    rcases I.cls r b hb with c | c | c
    · cases c
    · obtain ⟨p, e⟩ := c
      cases e
    · exact c
  have all : ∀ r, r < n.length → ∃ b, bAt kvs r b := fun r hr => by
    have := hg (fun x => ∃ i, i < n.length ∧ nmA n i = x ∧ ∃ b, bAt kvs i b) ⟨n[0], List.getElem_mem h0, 0, h0, nmA_eq h0, I.fst⟩ (fun r hr s hs t tr ts ⟨i, hi, e, b, hb⟩ => ?_) n[r] (List.getElem_mem hr)
    · obtain ⟨i, hi, e, hb⟩ := this
      rw [← nmA_eq hr] at e
      rw [← nmA_inj hn hi hr e]
      exact hb
    · obtain ⟨k, hk, rfl⟩ := List.mem_iff_getElem.mp hr
      obtain ⟨j, hj, rfl⟩ := List.mem_iff_getElem.mp hs
      rw [← nmA_eq hk] at e
      have := nmA_inj hn hi hk e
      subst this
      obtain ⟨p, hp⟩ := List.getElem?_of_mem tr
      obtain ⟨q, hq⟩ := List.getElem?_of_mem ts
      have h1 : tieAt n (i, p) = some t := by show (row n i)[p]? = _; rw [row_eq hi]; exact hp
      have h2 : tieAt n (j, q) = some t := by show (row n j)[q]? = _; rw [row_eq hj]; exact hq
      refine ⟨j, hj, nmA_eq hj, ?_⟩
      rcases (tie_two T h1).mp h2 with e | e
      · have : j = i := congrArg (·.1) e
        subst this
        exact ⟨b, hb⟩
      · have := ok i b hb p t h1
        rw [← e] at this
        exact ⟨_, this⟩
  have memb : ∀ r b, bAt kvs r b → decide (nmA n r ∈ sd) = b := fun r b hb => by
    rw [Bool.eq_iff_iff, decide_eq_true_iff, hm]
    constructor
    · rintro ⟨r', hb', e⟩
      have := nmA_inj hn (I.lt hb) (I.lt hb') e
      subst this
      have hb' : valV _ _ = _ := hb'
      rw [hb] at hb'
      cases hb'
      rfl
    · rintro rfl
      exact ⟨r, hb, rfl⟩
  have hc : ∀ z, z ∈ ss ↔ IsCut n sd z := fun z => by
    have k : ∀ {e : End}, tieAt n e = some z → (z ∈ ss ↔ IsCut n sd z) := fun {e} he => by
      obtain ⟨i, p⟩ := e
      obtain ⟨b, hb⟩ := all i (row_lt he)
      rw [cut_iff T he, memb i b hb, memb _ _ (ok i b hb p z he)]
      by_cases h : z ∈ ss <;> cases b <;> simp [h]
    constructor
    · intro h
      obtain ⟨e, he⟩ : ∃ e, e ∈ pos n z := by
        cases hp : pos n z with
        | nil => exact absurd hp (ties_pos.mp (hss z h))
        | cons a r => exact ⟨a, List.mem_cons_self ..⟩
      exact (k (mem_pos.mp he)).mp h
    · intro h
      obtain ⟨e, he, _⟩ := id h
      exact (k he).mpr h
  obtain ⟨b, hb⟩ := I.fst
  obtain ⟨b', e, w⟩ := I.val 0 _ hb
  cases e
  refine side_of_ways T lksE_tells hs (fun x hx => ?_) hc w ?_
  · obtain ⟨r, hr, e⟩ := (hm x).mp hx
    rw [e]
    exact at_name (I.lt hr)
  · have := memb 0 b hb
    rw [← this, decide_eq_true_iff]
    rfl
end Nt
namespace Nt
open PySem L2
open PyProof.Rows (sortedS)
theorem filter_xor (a b c : List Str) (h : ∀ z, z ∈ c ↔ (if z ∈ a then z ∉ b else z ∈ b)) : ∀ zs : List Str, (zs.filter fun z => c.contains z).length % 2 = ((zs.filter fun z => a.contains z).length + (zs.filter fun z => b.contains z).length) % 2
  | [] => rfl
  | z :: r => by
    have ih := filter_xor a b c h r
    have hz := h z
    have ca := fun (l : List Str) => (List.contains_iff_mem (as := l) (a := z))
    simp only [List.filter_cons]
    by_cases ha : z ∈ a <;> by_cases hb : z ∈ b
    · have hc : z ∉ c := fun q => by have := hz.mp q; rw [if_pos ha] at this; exact this hb
      rw [if_pos ((ca a).mpr ha), if_pos ((ca b).mpr hb), if_neg (fun q => hc ((ca c).mp q)), List.length_cons, List.length_cons]
      omega
    · have hc : z ∈ c := hz.mpr (by rw [if_pos ha]; exact hb)
      rw [if_pos ((ca a).mpr ha), if_neg (fun q => hb ((ca b).mp q)), if_pos ((ca c).mpr hc), List.length_cons, List.length_cons]
      omega
    · have hc : z ∈ c := hz.mpr (by rw [if_neg ha]; exact hb)
      rw [if_neg (fun q => ha ((ca a).mp q)), if_pos ((ca b).mpr hb), if_pos ((ca c).mpr hc), List.length_cons, List.length_cons]
      omega
    · have hc : z ∉ c := fun q => by have := hz.mp q; rw [if_neg ha] at this; exact hb this
      rw [if_neg (fun q => ha ((ca a).mp q)), if_neg (fun q => hb ((ca b).mp q)), if_neg (fun q => hc ((ca c).mp q))]
      exact ih
theorem even_iff {n : Net} {ss : List Str} : evenAt n ss = true ↔ ∀ r ∈ n, (r.2.filter fun z => ss.contains z).length % 2 = 0 := by
  unfold evenAt
  rw [List.all_eq_true]
  exact ⟨fun h r hr => by simpa using h r hr, fun h r hr => by simpa using h r hr⟩
theorem even_sum {n : Net} {a b c : List Str} (ha : evenAt n a = true) (hb : evenAt n b = true) (h : ∀ z, z ∈ c ↔ (if z ∈ a then z ∉ b else z ∈ b)) : evenAt n c = true := by
  rw [even_iff] at ha hb ⊢
  intro r hr
  have h1 := ha r hr
  have h2 := hb r hr
  rw [filter_xor a b c h]
  omega
theorem rowSeats_pos (k : Nat) (z : Str) : ∀ (ts : List Str) (p : Nat), (posIn (rowSeats k ts p) z).length = ts.count z
  | [], p => rfl
  | t :: r, p => by
    have ih := rowSeats_pos k z r (p + 1)
    have e : rowSeats k (t :: r) p = (t, (k, p)) :: rowSeats k r (p + 1) := by unfold rowSeats; rfl
    rw [e]
    unfold posIn at ih ⊢
    rw [List.filter_cons, List.count_cons]
    by_cases h : t = z
    · rw [if_pos (decide_eq_true h), List.map_cons, List.length_cons, ih, if_pos (by simpa using h)]
    · rw [if_neg (fun q => h (of_decide_eq_true q)), ih, if_neg (by simpa using h)]
      rfl
theorem posIn_app (a b : List (Str × End)) (z : Str) : posIn (a ++ b) z = posIn a z ++ posIn b z := by
  unfold posIn
  rw [List.filter_append, List.map_append]
theorem rowSeats_fst {k : Nat} {ts : List Str} {p : Nat} {z : Str} {e : End} (h : e ∈ posIn (rowSeats k ts p) z) : e.1 = k := by
  unfold posIn at h
  obtain ⟨x, hx, rfl⟩ := List.mem_map.mp h
  obtain ⟨y, e⟩ := x
  exact (mem_rowSeats.mp (List.mem_filter.mp hx).1).1
theorem wt_from (ps : List Str) (f : Nat → Str) (z : Str) : ∀ (m : Net) (k : Nat), (∀ (i : Nat) r, m[i]? = some r → f (k + i) = r.1) → ((posIn (seatsFrom k m) z).filter fun e => decide (f e.1 ∈ ps)).length = (ties (m.filter fun r => decide (r.1 ∈ ps))).count z
  | [], k, _ => rfl
  | r :: m, k, h => by
    have ih := wt_from ps f z m (k + 1) fun i s hs => by
      have := h (i + 1) s (by simpa using hs)
      rw [← this]
      congr 1
      omega
    have e : seatsFrom k (r :: m) = rowSeats k r.2 0 ++ seatsFrom (k + 1) m := rfl
    have hk : f k = r.1 := h 0 r rfl
    rw [e, posIn_app, List.filter_append, List.length_append, ih, List.filter_cons]
    by_cases hr : r.1 ∈ ps
    · rw [if_pos (decide_eq_true hr)]
      have : ties (r :: m.filter fun r => decide (r.1 ∈ ps)) = r.2 ++ ties (m.filter fun r => decide (r.1 ∈ ps)) := by unfold ties; rfl
      rw [this, List.count_append, List.filter_eq_self.mpr (fun e he => by rw [rowSeats_fst he, hk]; exact decide_eq_true hr), rowSeats_pos]
    · rw [if_neg (fun q => hr (of_decide_eq_true q))]
      have : (posIn (rowSeats k r.2 0) z).filter (fun e => decide (f e.1 ∈ ps)) = [] := List.filter_eq_nil_iff.mpr fun e he q => by
        rw [rowSeats_fst he, hk] at q
        exact hr (of_decide_eq_true q)
      rw [this]
      simp
theorem cut_odd {n : Net} (T : Twice n) (ps : List Str) (z : Str) : IsCut n ps z ↔ (ties (n.filter fun r => decide (r.1 ∈ ps))).count z % 2 = 1 := by
  have e := wt_from ps (nmA n) z n 0 fun i r h => by
    rw [Nat.zero_add]
    unfold nmA
    rw [h]
    rfl
  rw [← e]
  show IsCut n ps z ↔ ((pos n z).filter fun e => decide (nmA n e.1 ∈ ps)).length % 2 = 1
  by_cases hz : z ∈ ties n
  · obtain ⟨a, ha⟩ : ∃ a, a ∈ pos n z := by
      cases hp : pos n z with
      | nil => exact absurd hp (ties_pos.mp hz)
      | cons a r => exact ⟨a, List.mem_cons_self ..⟩
    obtain ⟨x, y, hp, hxy, hh⟩ := pos_two T (mem_pos.mp ha)
    have hl : IsLink n (z, nmA n x.1, nmA n y.1) := ⟨x, y, hp, rfl, rfl⟩
    rw [show IsCut n ps z ↔ _ from link_cut (ps := ps) T hl, hp]
    by_cases h1 : nmA n x.1 ∈ ps <;> by_cases h2 : nmA n y.1 ∈ ps <;> simp [h1, h2]
  · have hp : pos n z = [] := Classical.byContradiction fun h => hz (ties_pos.mpr h)
    rw [hp]
    exact ⟨fun h => absurd (cut_mem h) hz, fun h => by cases h⟩
theorem sum_count {a : List Str} (hn : a.Nodup) : ∀ l : List Str, (l.filter fun z => a.contains z).length = (a.map fun z => l.count z).sum
  | [] => by
    have : ∀ a : List Str, (a.map fun z => ([] : List Str).count z).sum = 0 := fun a => by
      induction a with
      | nil => rfl
      | cons x r ih => rw [List.map_cons, List.sum_cons, ih]; rfl
    rw [this]
    rfl
  | y :: l => by
    have ih := sum_count hn l
    have key : ∀ a : List Str, (a.map fun z => (y :: l).count z).sum = (a.map fun z => l.count z).sum + a.count y := fun a => by
      induction a with
      | nil => rfl
      | cons x r ih =>
        rw [List.map_cons, List.sum_cons, ih, List.map_cons, List.sum_cons, List.count_cons, List.count_cons]
        by_cases h : y = x
        · rw [if_pos (by simp [h]), if_pos (by simp [h])]
          omega
        · rw [if_neg (by simpa using h), if_neg (by simpa using fun q => h (Eq.symm q))]
          omega
    rw [key, List.filter_cons, ← ih, hn.count]
    by_cases h : y ∈ a
    · rw [if_pos (List.contains_iff_mem.mpr h), if_pos h, List.length_cons]
    · rw [if_neg (fun q => h (List.contains_iff_mem.mp q)), if_neg h]
      rfl
theorem even_rows {a : List Str} : ∀ m : Net, (∀ r ∈ m, (r.2.filter fun z => a.contains z).length % 2 = 0) → ((ties m).filter fun z => a.contains z).length % 2 = 0
  | [], _ => rfl
  | r :: m, h => by
    have ih := even_rows m fun s hs => h s (List.mem_cons_of_mem _ hs)
    have h1 := h r (List.mem_cons_self ..)
    have : ties (r :: m) = r.2 ++ ties m := by unfold ties; rfl
    rw [this, List.filter_append, List.length_append]
    omega
theorem par_sum (cs : List Str) (g : Str → Nat) (h : ∀ z, z ∈ cs ↔ g z % 2 = 1) : ∀ a : List Str, (a.filter fun z => cs.contains z).length % 2 = (a.map g).sum % 2
  | [] => rfl
  | z :: r => by
    have ih := par_sum cs g h r
    rw [List.filter_cons, List.map_cons, List.sum_cons]
    by_cases hz : z ∈ cs
    · rw [if_pos (List.contains_iff_mem.mpr hz), List.length_cons]
      have := (h z).mp hz
      omega
    · rw [if_neg (fun q => hz (List.contains_iff_mem.mp q))]
      have : ¬ g z % 2 = 1 := fun q => hz ((h z).mpr q)
      omega
theorem round_cut {n : Net} (T : Twice n) {a cs ps : List Str} (ha : evenAt n a = true) (hn : a.Nodup) (hc : ∀ z, z ∈ cs ↔ IsCut n ps z) : (a.filter fun z => cs.contains z).length % 2 = 0 := by
  rw [par_sum cs (fun z => (ties (n.filter fun r => decide (r.1 ∈ ps))).count z) (fun z => (hc z).trans (cut_odd T ps z)) a, ← sum_count hn]
  exact even_rows _ fun r hr => even_iff.mp ha r (List.mem_filter.mp hr).1
theorem half_len {n : Net} (T : Twice n) {ss : List Str} (hn : ss.Nodup) (hm : ∀ z ∈ ss, z ∈ ties n) : 2 * ss.length ≤ (ties n).length := by
  have h := sum_count hn (ties n)
  have e : ∀ l : List Str, (∀ z ∈ l, z ∈ ties n) → (l.map fun z => (ties n).count z).sum = 2 * l.length := fun l => by
    induction l with
    | nil => intro _; rfl
    | cons x r ih =>
      intro hl
      rw [List.map_cons, List.sum_cons, ih fun z hz => hl z (List.mem_cons_of_mem _ hz), T x (hl x (List.mem_cons_self ..)), List.length_cons]
      omega
  rw [e ss hm] at h
  rw [← h]
  exact List.length_filter_le _ _
structure CutS (n : Net) (cs : List Str) : Prop where
  srt : Srt cs
  cut : ∃ ps, ∀ z, z ∈ cs ↔ IsCut n ps z
theorem cut_sum {n : Net} (T : Twice n) {a b c : List Str} (ha : CutS n a) (hb : CutS n b) (hs : Srt c) (h : ∀ z, z ∈ c ↔ (if z ∈ a then z ∉ b else z ∈ b)) : CutS n c := by
  obtain ⟨pa, ca⟩ := ha.cut
  obtain ⟨pb, cb⟩ := hb.cut
  have hm : ∀ x, x ∈ n.map (·.1) → (decide (x ∈ (n.map (·.1)).filter fun x => decide (x ∈ pa) != decide (x ∈ pb)) = (decide (x ∈ pa) != decide (x ∈ pb))) := fun x hx => by
    rw [Bool.eq_iff_iff, decide_eq_true_iff, List.mem_filter]
    exact ⟨fun q => q.2, fun q => ⟨hx, q⟩⟩
  refine ⟨hs, (n.map (·.1)).filter fun x => decide (x ∈ pa) != decide (x ∈ pb), fun z => ?_⟩
  rw [h z]
  by_cases hz : z ∈ ties n
  · obtain ⟨e, he⟩ : ∃ e, e ∈ pos n z := by
      cases hp : pos n z with
      | nil => exact absurd hp (ties_pos.mp hz)
      | cons a r => exact ⟨a, List.mem_cons_self ..⟩
    have he := mem_pos.mp he
    rw [cut_iff T he, hm _ (at_name (row_lt he)), hm _ (at_name (other_lt T he))]
    have h1 := (ca z).trans (cut_iff T he)
    have h2 := (cb z).trans (cut_iff T he)
    by_cases q1 : z ∈ a <;> by_cases q2 : z ∈ b
    · have h1 := h1.mp q1
      have h2 := h2.mp q2
      rw [if_pos q1]
      refine ⟨fun q => absurd q2 q, fun q => ?_⟩
      revert h1 h2 q
      cases decide (nmA n e.1 ∈ pa) <;> cases decide (nmA n e.1 ∈ pb) <;> cases decide (nmA n (other n e).1 ∈ pa) <;> cases decide (nmA n (other n e).1 ∈ pb) <;> simp
    · have h1 := h1.mp q1
      have h2 : ¬ _ := fun q => q2 (h2.mpr q)
      rw [if_pos q1]
      refine ⟨fun _ => ?_, fun _ => q2⟩
      revert h1 h2
      cases decide (nmA n e.1 ∈ pa) <;> cases decide (nmA n e.1 ∈ pb) <;> cases decide (nmA n (other n e).1 ∈ pa) <;> cases decide (nmA n (other n e).1 ∈ pb) <;> simp
    · have h1 : ¬ _ := fun q => q1 (h1.mpr q)
      have h2 := h2.mp q2
      rw [if_neg q1]
      refine ⟨fun _ => ?_, fun _ => q2⟩
      revert h1 h2
      cases decide (nmA n e.1 ∈ pa) <;> cases decide (nmA n e.1 ∈ pb) <;> cases decide (nmA n (other n e).1 ∈ pa) <;> cases decide (nmA n (other n e).1 ∈ pb) <;> simp
    · have h1 : ¬ _ := fun q => q1 (h1.mpr q)
      have h2 : ¬ _ := fun q => q2 (h2.mpr q)
      rw [if_neg q1]
      refine ⟨fun q => absurd q q2, fun q => ?_⟩
      revert h1 h2 q
      cases decide (nmA n e.1 ∈ pa) <;> cases decide (nmA n e.1 ∈ pb) <;> cases decide (nmA n (other n e).1 ∈ pa) <;> cases decide (nmA n (other n e).1 ∈ pb) <;> simp
  · have n1 : z ∉ a := fun q => hz (cut_mem ((ca z).mp q))
    have n2 : z ∉ b := fun q => hz (cut_mem ((cb z).mp q))
    rw [if_neg n1]
    exact ⟨fun q => absurd q n2, fun q => absurd (cut_mem q) hz⟩
theorem ltS_or {x y : Str} (h : x ≠ y) : x.cps.toList < y.cps.toList ∨ y.cps.toList < x.cps.toList := by
  by_cases q : x.cps.toList < y.cps.toList
  · exact .inl q
  · rcases List.le_iff_lt_or_eq.mp (List.not_lt.mp q) with q | q
    · exact .inr q
    · exact absurd (SetT.str_ext q).symm h
theorem srt_ins (x : Str) : ∀ sd : List Str, Srt sd → ∃ sd', Srt sd' ∧ ∀ y, y ∈ sd' ↔ y = x ∨ y ∈ sd
  | [], _ => ⟨[x], List.pairwise_singleton _ _, fun y => by simp⟩
  | z :: r, h => by
    have h := List.pairwise_cons.mp h
    by_cases e : x = z
    · subst e
      exact ⟨x :: r, List.pairwise_cons.mpr h, fun y => by simp⟩
    · rcases ltS_or e with q | q
      · refine ⟨x :: z :: r, List.pairwise_cons.mpr ⟨fun y hy => ?_, List.pairwise_cons.mpr h⟩, fun y => List.mem_cons⟩
        rcases List.mem_cons.mp hy with rfl | hy
        · exact q
        · exact List.lt_trans q (h.1 y hy)
      · obtain ⟨sd', hs, hm⟩ := srt_ins x r h.2
        refine ⟨z :: sd', List.pairwise_cons.mpr ⟨fun y hy => ?_, hs⟩, fun y => ?_⟩
        · rcases (hm y).mp hy with rfl | hy
          · exact q
          · exact h.1 y hy
        · rw [List.mem_cons, hm y, List.mem_cons]
          exact ⟨fun k => by rcases k with k | k | k <;> simp [k], fun k => by rcases k with k | k | k <;> simp [k]⟩
theorem srt_exists : ∀ l : List Str, ∃ sd, Srt sd ∧ ∀ x, x ∈ sd ↔ x ∈ l
  | [] => ⟨[], List.Pairwise.nil, fun _ => Iff.rfl⟩
  | x :: r => by
    obtain ⟨sd, hs, hm⟩ := srt_exists r
    obtain ⟨sd', hs', hm'⟩ := srt_ins x sd hs
    exact ⟨sd', hs', fun y => by rw [hm' y, hm y, List.mem_cons]⟩
end Nt
namespace Nt
open PySem L2
open Classical
theorem way_trans {ls : List Bl} {f x y : Str} {b c : Bool} (h : Way ls f x b) (g : Way ls x y c) : ∃ d, Way ls f y d := by
  induction g with
  | here => exact ⟨b, h⟩
  | there _ m ih => obtain ⟨d, hd⟩ := ih; exact ⟨_, .there hd m⟩
  | back _ m ih => obtain ⟨d, hd⟩ := ih; exact ⟨_, .back hd m⟩
theorem way_symm {ls : List Bl} {f x : Str} {b : Bool} (h : Way ls f x b) : ∃ d, Way ls x f d := by
  induction h with
  | here => exact ⟨_, .here⟩
  | there _ m ih => obtain ⟨d, hd⟩ := ih; exact way_trans (.back .here m) hd
  | back _ m ih => obtain ⟨d, hd⟩ := ih; exact way_trans (.there .here m) hd
theorem way_mono {l1 l2 : List Bl} (hm : ∀ x y o, (x, y, o) ∈ l1 → ∃ o', Touch l2 x y o') {f x : Str} {b : Bool} (h : Way l1 f x b) : ∃ d, Way l2 f x d := by
  induction h with
  | here => exact ⟨_, .here⟩
  | there _ m ih =>
    obtain ⟨d, hd⟩ := ih
    obtain ⟨o', t | t⟩ := hm _ _ _ m
    · exact ⟨_, .there hd t⟩
    · exact ⟨_, .back hd t⟩
  | back _ m ih =>
    obtain ⟨d, hd⟩ := ih
    obtain ⟨o', t | t⟩ := hm _ _ _ m
    · exact ⟨_, .back hd t⟩
    · exact ⟨_, .there hd t⟩
noncomputable def lkT (n : Net) (T : List Str) : List Bl := ((ends n).filter fun e => decide (∃ z, tieAt n e = some z ∧ z ∈ T)).map fun e => (nmA n e.1, nmA n (other n e).1, false)
theorem lkT_mem {n : Net} {T : List Str} {x y : Str} {o : Bool} : (x, y, o) ∈ lkT n T ↔ ∃ e z, tieAt n e = some z ∧ z ∈ T ∧ x = nmA n e.1 ∧ y = nmA n (other n e).1 ∧ o = false := by
  unfold lkT
  rw [List.mem_map]
  constructor
  · rintro ⟨e, he, q⟩
    obtain ⟨z, hz, ht⟩ := of_decide_eq_true (List.mem_filter.mp he).2
    exact ⟨e, z, hz, ht, (congrArg (·.1) q).symm, (congrArg (·.2.1) q).symm, (congrArg (·.2.2) q).symm⟩
  · rintro ⟨e, z, hz, ht, rfl, rfl, rfl⟩
    exact ⟨e, List.mem_filter.mpr ⟨mem_ends.mpr ⟨z, hz⟩, decide_eq_true ⟨z, hz, ht⟩⟩, rfl⟩
def Rt (n : Net) (T : List Str) (x y : Str) : Prop := ∃ b, Way (lkT n T) x y b
theorem Rt.refl (n : Net) (T : List Str) (x : Str) : Rt n T x x := ⟨_, .here⟩
theorem Rt.trans {n : Net} {T : List Str} {x y z : Str} (h : Rt n T x y) (g : Rt n T y z) : Rt n T x z := by
  obtain ⟨_, h⟩ := h
  obtain ⟨_, g⟩ := g
  exact way_trans h g
theorem Rt.symm {n : Net} {T : List Str} {x y : Str} (h : Rt n T x y) : Rt n T y x := by
  obtain ⟨_, h⟩ := h
  exact way_symm h
theorem Rt.step {n : Net} {T : List Str} {e : End} {z : Str} (h : tieAt n e = some z) (hz : z ∈ T) : Rt n T (nmA n e.1) (nmA n (other n e).1) := ⟨_, .there .here (lkT_mem.mpr ⟨e, z, h, hz, rfl, rfl, rfl⟩)⟩
theorem Rt.ind {n : Net} (Tw : Twice n) {T : List Str} {P : Str → Prop} {x y : Str} (h : Rt n T x y) (hx : P x) (hs : ∀ e z, tieAt n e = some z → z ∈ T → P (nmA n e.1) → P (nmA n (other n e).1)) : P y := by
  obtain ⟨b, h⟩ := h
  induction h with
  | here => exact hx
  | there _ m ih =>
    obtain ⟨e, z, he, hz, rfl, rfl, rfl⟩ := lkT_mem.mp m
    exact hs e z he hz ih
  | back _ m ih =>
    obtain ⟨e, z, he, hz, rfl, rfl, rfl⟩ := lkT_mem.mp m
    have o := other_spec Tw he
    have := hs (other n e) z o.1 hz ih
    rw [o.2.1] at this
    exact this
theorem Rt.mono {n : Net} (Tw : Twice n) {T T' : List Str} (hs : ∀ z ∈ T, z ∈ T') {x y : Str} (h : Rt n T x y) : Rt n T' x y :=
  h.ind Tw (P := fun y => Rt n T' x y) (Rt.refl ..) fun e z he hz ih => ih.trans (Rt.step he (hs z hz))
theorem Rt.none {n : Net} (Tw : Twice n) {x y : Str} (h : Rt n [] x y) : x = y := h.ind Tw (P := fun y => x = y) rfl fun e z _ hz _ => by cases hz
theorem Rt.add {n : Net} (Tw : Twice n) {T : List Str} {t : Str} {e0 : End} (h0 : tieAt n e0 = some t) {x y : Str} (h : Rt n (T ++ [t]) x y) :
    Rt n T x y ∨ (Rt n T x (nmA n e0.1) ∧ Rt n T (nmA n (other n e0).1) y) ∨ (Rt n T x (nmA n (other n e0).1) ∧ Rt n T (nmA n e0.1) y) := by
  refine h.ind Tw (P := fun y => Rt n T x y ∨ (Rt n T x (nmA n e0.1) ∧ Rt n T (nmA n (other n e0).1) y) ∨ (Rt n T x (nmA n (other n e0).1) ∧ Rt n T (nmA n e0.1) y)) (.inl (Rt.refl ..)) fun e z he hz ih => ?_
  rcases List.mem_append.mp hz with hz | hz
  · have st := Rt.step he hz
    rcases ih with q | ⟨q1, q2⟩ | ⟨q1, q2⟩
    · exact .inl (q.trans st)
    · exact .inr (.inl ⟨q1, q2.trans st⟩)
    · exact .inr (.inr ⟨q1, q2.trans st⟩)
  · rw [List.mem_singleton.mp hz] at he
    rcases (tie_two Tw h0).mp he with e1 | e1
    · subst e1
      rcases ih with q | ⟨q1, q2⟩ | ⟨q1, q2⟩
      · exact .inr (.inl ⟨q, Rt.refl ..⟩)
      · exact .inr (.inl ⟨q1, Rt.refl ..⟩)
      · exact .inl q1
    · subst e1
      rw [(other_spec Tw h0).2.1]
      rcases ih with q | ⟨q1, q2⟩ | ⟨q1, q2⟩
      · exact .inr (.inr ⟨q, Rt.refl ..⟩)
      · exact .inl q1
      · exact .inr (.inr ⟨q1, Rt.refl ..⟩)
def isMin (R : Nat → Nat → Prop) (i : Nat) : Prop := ∀ j, j < i → ¬ R j i
noncomputable def mins (R : Nat → Nat → Prop) (m : Nat) : List Nat := (List.range m).filter fun i => decide (isMin R i)
theorem filter_more (p q : Nat → Prop) (b : Nat) : ∀ l : List Nat, l.Nodup → b ∈ l → ¬ q b → (∀ i, p i ↔ q i ∨ i = b) → (l.filter fun i => decide (p i)).length = (l.filter fun i => decide (q i)).length + 1
  | [], _, h, _, _ => by cases h
  | x :: r, hn, hb, hq, h => by
    rw [List.nodup_cons] at hn
    rw [List.filter_cons, List.filter_cons]
    have same : ∀ l : List Nat, b ∉ l → l.filter (fun i => decide (p i)) = l.filter fun i => decide (q i) := fun l hl => List.filter_congr fun i hi => by
      rw [decide_eq_decide, h i]
      exact ⟨fun k => k.resolve_right fun e => hl (e ▸ hi), .inl⟩
    by_cases e : x = b
    · subst e
      rw [if_pos (decide_eq_true ((h x).mpr (.inr rfl))), if_neg (fun k => hq (of_decide_eq_true k)), List.length_cons, same r hn.1]
    · have hbr : b ∈ r := (List.mem_cons.mp hb).resolve_left fun k => e k.symm
      have ih := filter_more p q b r hn.2 hbr hq h
      by_cases hx : q x
      · rw [if_pos (decide_eq_true ((h x).mpr (.inl hx))), if_pos (decide_eq_true hx), List.length_cons, List.length_cons, ih]
      · rw [if_neg (fun k => ((h x).mp (of_decide_eq_true k)).elim hx e), if_neg (fun k => hx (of_decide_eq_true k)), ih]
theorem mins_drop {R R' : Nat → Nat → Prop} {A B : Nat → Prop} {m a b : Nat} (sub : ∀ i j, R i j → R' i j) (AR : ∀ i j, A i → A j → R i j) (BR : ∀ i j, B i → B j → R i j) (BA : ∀ i j, R i j → B j → B i) (or : ∀ i j, R' i j → R i j ∨ (A i ∧ B j) ∨ (B i ∧ A j))
    (ha : A a) (hb : B b) (ma : ∀ i, A i → a ≤ i) (mb : ∀ i, B i → b ≤ i) (hab : a < b) (hR : R' a b) (hm : b < m) : (mins R m).length = (mins R' m).length + 1 := by
  refine filter_more (isMin R) (isMin R') b _ List.nodup_range (List.mem_range.mpr hm) (fun h => h a hab hR) fun i => ?_
  constructor
  · intro hi
    by_cases e : i = b
    · exact .inr e
    refine .inl fun j hj hR' => ?_
    rcases or j i hR' with q | ⟨q1, q2⟩ | ⟨q1, q2⟩
    · exact hi j hj q
    · have := mb i q2
      exact hi b (by omega) (BR b i hb q2)
    · have h1 := ma i q2
      have h2 := mb j q1
      by_cases e2 : i = a
      · omega
      · exact hi a (by omega) (AR a i ha q2)
  · rintro (hi | rfl)
    · exact fun j hj hR => hi j hj (sub _ _ hR)
    · exact fun j hj hR => by have := mb j (BA j _ hR hb); omega
theorem least (P : Nat → Prop) (k : Nat) : P k → ∃ a, a ≤ k ∧ P a ∧ ∀ i, P i → a ≤ i := by
  induction k using Nat.strongRecOn with
  | ind k ih =>
    intro hk
    by_cases h : ∃ j, j < k ∧ P j
    · obtain ⟨j, hj, pj⟩ := h
      obtain ⟨a, la, pa, ma⟩ := ih j hj pj
      exact ⟨a, by omega, pa, ma⟩
    · refine ⟨k, Nat.le_refl _, hk, fun i hi => ?_⟩
      by_cases q : i < k
      · exact absurd ⟨i, q, hi⟩ h
      · omega
theorem first_of {R : Nat → Nat → Prop} (rf : ∀ i, R i i) (k : Nat) : ∃ a, a ≤ k ∧ R a k ∧ ∀ i, R i k → a ≤ i := least (fun a => R a k) k (rf k)
noncomputable def cntR (n : Net) (T : List Str) : Nat := (mins (fun i j => Rt n T (nmA n i) (nmA n j)) n.length).length
theorem cnt_add {n : Net} (Tw : Twice n) {T : List Str} {t : Str} {e0 : End} (h0 : tieAt n e0 = some t) (hne : ¬ Rt n T (nmA n e0.1) (nmA n (other n e0).1)) : cntR n T = cntR n (T ++ [t]) + 1 := by
  obtain ⟨a, la, ra, ma⟩ := first_of (R := fun i j => Rt n T (nmA n i) (nmA n j)) (fun _ => Rt.refl ..) e0.1
  obtain ⟨b, lb, rb, mb⟩ := first_of (R := fun i j => Rt n T (nmA n i) (nmA n j)) (fun _ => Rt.refl ..) (other n e0).1
  have hl1 := row_lt h0
  have hl2 := other_lt Tw h0
  have sub : ∀ i j, Rt n T (nmA n i) (nmA n j) → Rt n (T ++ [t]) (nmA n i) (nmA n j) := fun i j h => h.mono Tw fun z hz => List.mem_append_left _ hz
  have st : Rt n (T ++ [t]) (nmA n e0.1) (nmA n (other n e0).1) := Rt.step h0 (List.mem_append_right _ (List.mem_singleton.mpr rfl))
  have nab : a ≠ b := fun e => by
    subst e
    exact hne (ra.symm.trans rb)
  have rab : Rt n (T ++ [t]) (nmA n a) (nmA n b) := ((sub _ _ ra).trans st).trans (sub _ _ rb).symm
  rcases Nat.lt_or_gt_of_ne nab with q | q
  · exact mins_drop (A := fun i => Rt n T (nmA n i) (nmA n e0.1)) (B := fun i => Rt n T (nmA n i) (nmA n (other n e0).1)) sub (fun i j h g => h.trans g.symm) (fun i j h g => h.trans g.symm) (fun i j h g => h.trans g)
      (fun i j h => by
        rcases h.add Tw h0 with k | ⟨k1, k2⟩ | ⟨k1, k2⟩
        · exact .inl k
        · exact .inr (.inl ⟨k1, k2.symm⟩)
        · exact .inr (.inr ⟨k1, k2.symm⟩)) ra rb ma mb q rab (by omega)
  · exact mins_drop (A := fun i => Rt n T (nmA n i) (nmA n (other n e0).1)) (B := fun i => Rt n T (nmA n i) (nmA n e0.1)) sub (fun i j h g => h.trans g.symm) (fun i j h g => h.trans g.symm) (fun i j h g => h.trans g)
      (fun i j h => by
        rcases h.add Tw h0 with k | ⟨k1, k2⟩ | ⟨k1, k2⟩
        · exact .inl k
        · exact .inr (.inr ⟨k1, k2.symm⟩)
        · exact .inr (.inl ⟨k1, k2.symm⟩)) rb ra mb ma q rab.symm (by omega)
theorem cnt_none {n : Net} (Tw : Twice n) (hn : (n.map (·.1)).Nodup) : cntR n [] = n.length := by
  unfold cntR mins
  rw [List.filter_eq_self.mpr, List.length_range]
  intro i hi
  refine decide_eq_true fun j hj h => ?_
  have hi := List.mem_range.mp hi
  have := nmA_inj hn (by omega) hi (h.none Tw)
  omega
theorem cnt_all {n : Net} (h0 : 0 < n.length) {T : List Str} (h : ∀ i, i < n.length → Rt n T (fstN n) (nmA n i)) : cntR n T = 1 := by
  unfold cntR mins
  have : (List.range n.length).filter (fun i => decide (isMin (fun i j => Rt n T (nmA n i) (nmA n j)) i)) = [0] := by
    have e : List.range n.length = 0 :: (List.range (n.length - 1)).map Nat.succ := by
      have : n.length = (n.length - 1) + 1 := by omega
      rw [this, List.range_succ_eq_map]
      rfl
    have m0 : isMin (fun i j => Rt n T (nmA n i) (nmA n j)) 0 := fun j hj => absurd hj (Nat.not_lt_zero _)
    rw [e, List.filter_cons, if_pos (decide_eq_true m0)]
    congr 1
    refine List.filter_eq_nil_iff.mpr fun i hi q => ?_
    obtain ⟨k, hk, rfl⟩ := List.mem_map.mp hi
    have hk := List.mem_range.mp hk
    exact of_decide_eq_true q 0 (Nat.succ_pos _) (h _ (by omega))
  rw [this]
  rfl
theorem rt_hang {n : Net} (Tw : Twice n) (hg : Hang n) (h0 : 0 < n.length) {T : List Str} (h : ∀ e z, tieAt n e = some z → Rt n T (nmA n e.1) (nmA n (other n e).1)) : ∀ x ∈ n.map (·.1), Rt n T (fstN n) x := by
  intro x hx
  obtain ⟨r, hr, rfl⟩ := List.mem_map.mp hx
  refine hg (fun x => Rt n T (fstN n) x) ⟨n[0], List.getElem_mem h0, ?_⟩ (fun r hr s hs z zr zs w => ?_) r hr
  · have : fstN n = n[0].1 := nmA_eq h0
    rw [← this]
    exact Rt.refl ..
  · obtain ⟨i, hi, rfl⟩ := List.mem_iff_getElem.mp hr
    obtain ⟨j, hj, rfl⟩ := List.mem_iff_getElem.mp hs
    obtain ⟨p, hp⟩ := List.getElem?_of_mem zr
    obtain ⟨q, hq⟩ := List.getElem?_of_mem zs
    have h1 : tieAt n (i, p) = some z := by show (row n i)[p]? = _; rw [row_eq hi]; exact hp
    have h2 : tieAt n (j, q) = some z := by show (row n j)[q]? = _; rw [row_eq hj]; exact hq
    rcases (tie_two Tw h1).mp h2 with e | e
    · have : j = i := congrArg (·.1) e
      subst this
      exact w
    · have := h (i, p) z h1
      rw [← e] at this
      rw [show nmA n ((i, p) : End).1 = n[i].1 from nmA_eq hi, show nmA n ((j, q) : End).1 = n[j].1 from nmA_eq hj] at this
      exact w.trans this
def Tree (n : Net) (T : List Str) : Prop := T.length + 1 = n.length ∧ ∀ x ∈ n.map (·.1), Rt n T (fstN n) x
structure TrI (n : Net) (done : List Lk) (T : List Str) : Prop where
  cnt : T.length + cntR n T = n.length
  sub : T.Sublist (done.map (·.1))
  lnk : ∀ x ∈ done, Rt n T x.2.1 x.2.2
theorem TrI.start {n : Net} (Tw : Twice n) (hn : (n.map (·.1)).Nodup) : TrI n [] [] := ⟨by rw [cnt_none Tw hn]; simp, List.Sublist.refl _, fun x hx => by cases hx⟩
theorem TrI.skip {n : Net} {done : List Lk} {T : List Str} (I : TrI n done T) {x : Lk} (h : Rt n T x.2.1 x.2.2) : TrI n (done ++ [x]) T := by
  refine ⟨I.cnt, ?_, fun y hy => ?_⟩
  · rw [List.map_append]
    exact I.sub.trans (List.sublist_append_left _ _)
  · rcases List.mem_append.mp hy with q | q
    · exact I.lnk y q
    · rw [List.mem_singleton.mp q]
      exact h
theorem TrI.take {n : Net} (Tw : Twice n) {done : List Lk} {T : List Str} (I : TrI n done T) {x : Lk} (hx : IsLink n x) (h : ¬ Rt n T x.2.1 x.2.2) : TrI n (done ++ [x]) (T ++ [x.1]) := by
  obtain ⟨e, he, h1, h2⟩ := link_end Tw hx
  have hc := cnt_add Tw he (by rw [← h1, ← h2]; exact h)
  refine ⟨?_, ?_, fun y hy => ?_⟩
  · have := I.cnt
    rw [List.length_append]
    show T.length + 1 + _ = _
    omega
  · rw [List.map_append]
    exact I.sub.append (List.Sublist.refl _)
  · rcases List.mem_append.mp hy with q | q
    · exact (I.lnk y q).mono Tw fun z hz => List.mem_append_left _ hz
    · rw [List.mem_singleton.mp q, h1, h2]
      exact Rt.step he (List.mem_append_right _ (List.mem_singleton.mpr rfl))
theorem TrI.whole {n : Net} (Tw : Twice n) (hg : Hang n) (h0 : 0 < n.length) {ls : List Lk} {T : List Str} (I : TrI n ls T) (hm : ∀ x, x ∈ ls ↔ IsLink n x) : Tree n T := by
  have all : ∀ x ∈ n.map (·.1), Rt n T (fstN n) x := rt_hang Tw hg h0 fun e z he => by
    rcases end_link Tw he with q | q
    · exact I.lnk _ ((hm _).mpr q)
    · exact (I.lnk _ ((hm _).mpr q)).symm
  have := cnt_all h0 fun i hi => all _ (at_name hi)
  have c := I.cnt
  rw [this] at c
  exact ⟨c, all⟩
end Nt
namespace Nt
open PySem L2
open Classical
theorem all_lenK {α : Type} [DecidableEq α] {a b : List α} (ha : a.Nodup) (hb : b.Nodup) (hs : ∀ x ∈ a, x ∈ b) : a.length = b.length ↔ ∀ x ∈ b, x ∈ a := by
  constructor
  · intro h x hx
    refine Classical.byContradiction fun hn => ?_
    have := nodup_le (b := b.erase x) ha fun z hz => (List.mem_erase_of_ne (fun e : z = x => hn (e ▸ hz))).mpr (hs z hz)
    rw [List.length_erase_of_mem hx] at this
    have : 0 < b.length := List.length_pos_of_mem hx
    omega
  · intro h
    have h1 := nodup_le ha hs
    have h2 := nodup_le hb h
    omega
abbrev hasN (kvs : List (Key × V)) (r : Nat) : Prop := valV kvs (Sum.inl (r : Int)) = some (.bl true)
structure JoI (n : Net) (ss : List Str) (hr : Option (Nat × Nat)) (kvs : List (Key × V)) (lf : List Nat) : Prop where
  nod : (kvs.map (·.1)).Nodup
  num : ∀ k ∈ kvs.map (·.1), ∃ r : Nat, k = Sum.inl (r : Int) ∧ r < n.length
  val : ∀ (r : Nat) v, valV kvs (Sum.inl (r : Int)) = some v → v = .bl true ∧ Rt n ss (fstN n) (nmA n r)
  fst : hasN kvs 0
  lfk : ∀ r ∈ lf, hasN kvs r
  hrh : ∀ x p, hr = some (x, p) → hasN kvs x
  cls : ∀ r, hasN kvs r → r ∈ lf ∨ (∃ p, hr = some (r, p)) ∨ ∀ p z, tieAt n (r, p) = some z → z ∈ ss → hasN kvs (other n (r, p)).1
  dne : ∀ x p, hr = some (x, p) → ∀ p', p' < p → ∀ z, tieAt n (x, p') = some z → z ∈ ss → hasN kvs (other n (x, p')).1
theorem JoI.lt {n : Net} {ss : List Str} {hr : Option (Nat × Nat)} {kvs : List (Key × V)} {lf : List Nat} (I : JoI n ss hr kvs lf) {r : Nat} (h : hasN kvs r) : r < n.length := by
  obtain ⟨r', e, h'⟩ := I.num _ (val_some h)
  have := Sum.inl.inj e
  omega
theorem JoI.len {n : Net} {ss : List Str} {hr : Option (Nat × Nat)} {kvs : List (Key × V)} {lf : List Nat} (I : JoI n ss hr kvs lf) : kvs.length ≤ n.length := by
  have := nodup_le I.nod (b := (List.range n.length).map fun r => Sum.inl ((r : Nat) : Int)) fun k hk => by
    obtain ⟨r, e, h⟩ := I.num k hk
    exact List.mem_map.mpr ⟨r, List.mem_range.mpr h, e.symm⟩
  rw [List.length_map, List.length_map, List.length_range] at this
  exact this
theorem JoI.start {n : Net} {ss : List Str} (h0 : 0 < n.length) : JoI n ss none (putK [] (Sum.inl 0) (.bl true)) [0] := by
  have hv : ∀ r : Nat, valV (putK ([] : List (Key × V)) (Sum.inl 0) (.bl true)) (Sum.inl (r : Int)) = if r = 0 then some (.bl true) else none := fun r => by
    rw [valV_put]
    by_cases h : r = 0
    · subst h
      rfl
    · rw [if_neg h, if_neg (fun q => h (by have := Sum.inl.inj q; omega))]
      rfl
  have h00 : hasN (putK ([] : List (Key × V)) (Sum.inl 0) (.bl true)) 0 := by
    show valV _ _ = _
    rw [hv, if_pos rfl]
  refine ⟨by show ([Sum.inl 0] : List Key).Nodup; simp, fun k hk => ⟨0, by simpa [putK] using hk, h0⟩, fun r v h => ?_, h00, fun r hr => by rw [List.mem_singleton.mp hr]; exact h00, fun x p h => (by cases h), fun r h => ?_, fun x p h => (by cases h)⟩
  · rw [hv] at h
    by_cases c : r = 0
    · rw [if_pos c] at h
      cases h
      subst c
      exact ⟨rfl, Rt.refl ..⟩
    · rw [if_neg c] at h
      cases h
  · have h : valV _ _ = _ := h
    rw [hv] at h
    by_cases c : r = 0
    · exact .inl (List.mem_singleton.mpr c)
    · rw [if_neg c] at h
      cases h
theorem JoI.pop {n : Net} {ss : List Str} {kvs : List (Key × V)} {lf : List Nat} {h : Nat} (I : JoI n ss none kvs (lf ++ [h])) : JoI n ss (some (h, 0)) kvs lf := by
  refine ⟨I.nod, I.num, I.val, I.fst, fun r hr => I.lfk r (List.mem_append_left _ hr), fun x p e => ?_, fun r hb => ?_, fun x p e p' hp' => ?_⟩
  · cases e
    exact I.lfk h (List.mem_append_right _ (List.mem_singleton.mpr rfl))
  · rcases I.cls r hb with c | c | c
    · rcases List.mem_append.mp c with c | c
      · exact .inl c
      · exact .inr (.inl ⟨0, by rw [List.mem_singleton.mp c]⟩)
    · obtain ⟨p, e⟩ := c
      cases e
    · exact .inr (.inr c)
  · cases e
    exact absurd hp' (Nat.not_lt_zero _)
theorem JoI.close {n : Net} {ss : List Str} {kvs : List (Key × V)} {lf : List Nat} {h p : Nat} (I : JoI n ss (some (h, p)) kvs lf) (hp : (row n h).length ≤ p) : JoI n ss none kvs lf := by
  refine ⟨I.nod, I.num, I.val, I.fst, I.lfk, fun x p e => (by cases e), fun r hb => ?_, fun x p e => (by cases e)⟩
  rcases I.cls r hb with c | c | c
  · exact .inl c
  · obtain ⟨p', e⟩ := c
    cases e
    exact .inr (.inr fun p' z hz => I.dne h p rfl p' (Nat.lt_of_lt_of_le (end_lt hz) hp) z hz)
  · exact .inr (.inr c)
theorem JoI.step {n : Net} {ss : List Str} {kvs : List (Key × V)} {lf : List Nat} {h p : Nat} (I : JoI n ss (some (h, p)) kvs lf) {z : Str} (hz : tieAt n (h, p) = some z) (ht : z ∈ ss → hasN kvs (other n (h, p)).1) : JoI n ss (some (h, p + 1)) kvs lf := by
  refine ⟨I.nod, I.num, I.val, I.fst, I.lfk, fun x q e => ?_, fun r hc => ?_, fun x q e p' hp' y hy hys => ?_⟩
  · cases e
    exact I.hrh h p rfl
  · rcases I.cls r hc with k | k | k
    · exact .inl k
    · obtain ⟨q, e⟩ := k
      cases e
      exact .inr (.inl ⟨_, rfl⟩)
    · exact .inr (.inr k)
  · cases e
    by_cases k : p' < p
    · exact I.dne h p rfl p' k y hy hys
    · have : p' = p := by omega
      subst this
      rw [hz] at hy
      cases hy
      exact ht hys
theorem JoI.new {n : Net} (T : Twice n) {ss : List Str} {kvs : List (Key × V)} {lf : List Nat} {h p : Nat} (I : JoI n ss (some (h, p)) kvs lf) {z : Str} (hz : tieAt n (h, p) = some z) (hzs : z ∈ ss) (hn : valV kvs (Sum.inl ((other n (h, p)).1 : Int)) = none) :
    JoI n ss (some (h, p + 1)) (putK kvs (Sum.inl ((other n (h, p)).1 : Int)) (.bl true)) (lf ++ [(other n (h, p)).1]) := by
  have hlt := other_lt T hz
  have hnk := val_none hn
  have w : Rt n ss (fstN n) (nmA n (other n (h, p)).1) := (I.val h _ (I.hrh h p rfl)).2.trans (Rt.step hz hzs)
  have hnew : hasN (putK kvs (Sum.inl ((other n (h, p)).1 : Int)) (.bl true)) (other n (h, p)).1 := by
    show valV _ _ = _
    rw [valV_put, if_pos rfl]
  have up : ∀ {r : Nat}, hasN kvs r → hasN (putK kvs (Sum.inl ((other n (h, p)).1 : Int)) (.bl true)) r := fun {r} hc => by
    show valV _ _ = _
    rw [valV_put]
    split
    · rfl
    · exact hc
  have dn : ∀ {r : Nat}, hasN (putK kvs (Sum.inl ((other n (h, p)).1 : Int)) (.bl true)) r → r = (other n (h, p)).1 ∨ hasN kvs r := fun {r} hc => by
    have hc : valV _ _ = _ := hc
    rw [valV_put] at hc
    by_cases q : r = (other n (h, p)).1
    · exact .inl q
    · rw [if_neg (inl_ne q)] at hc
      exact .inr hc
  have I' : JoI n ss (some (h, p)) (putK kvs (Sum.inl ((other n (h, p)).1 : Int)) (.bl true)) (lf ++ [(other n (h, p)).1]) := by
    refine ⟨?_, fun k hk => ?_, fun r v hv => ?_, up I.fst, fun r hr => ?_, fun x q e => up (I.hrh x q e), fun r hc => ?_, fun x q e p' hp' y hy hys => up (I.dne x q e p' hp' y hy hys)⟩
    · rw [keysP, if_neg hnk]
      exact nd_snoc I.nod hnk
    · rw [keysP, if_neg hnk] at hk
      rcases List.mem_append.mp hk with hk | hk
      · exact I.num k hk
      · exact ⟨_, List.mem_singleton.mp hk, hlt⟩
    · rw [valV_put] at hv
      by_cases q : r = (other n (h, p)).1
      · rw [if_pos (by rw [q])] at hv
        cases hv
        exact ⟨rfl, by rw [q]; exact w⟩
      · rw [if_neg (inl_ne q)] at hv
        exact I.val r v hv
    · rcases List.mem_append.mp hr with hr | hr
      · exact up (I.lfk r hr)
      · rw [List.mem_singleton.mp hr]
        exact hnew
    · rcases dn hc with q | hc
      · exact .inl (List.mem_append_right _ (by rw [q]; exact List.mem_singleton.mpr rfl))
      · rcases I.cls r hc with k | k | k
        · exact .inl (List.mem_append_left _ k)
        · exact .inr (.inl k)
        · exact .inr (.inr fun p' y hy hys => up (k p' y hy hys))
  exact I'.step hz fun _ => hnew
theorem JoI.whole {n : Net} (T : Twice n) (h0 : 0 < n.length) (hn : (n.map (·.1)).Nodup) {ss : List Str} {kvs : List (Key × V)} (I : JoI n ss none kvs []) : kvs.length = n.length ↔ ∀ x ∈ n.map (·.1), Rt n ss (fstN n) x := by
  have has_of : ∀ r, r < n.length → Rt n ss (fstN n) (nmA n r) → hasN kvs r := fun r hr h => by
    obtain ⟨r', h1, h2⟩ := h.ind T (P := fun x => ∃ r, hasN kvs r ∧ nmA n r = x) ⟨0, I.fst, rfl⟩ fun e z he hz ⟨r, hr, q⟩ => by
      have := nmA_inj hn (I.lt hr) (row_lt he) q
      subst this
      rcases I.cls _ hr with c | c | c
      · cases c
      · obtain ⟨p, e'⟩ := c
        cases e'
      · exact ⟨_, c e.2 z he hz, rfl⟩
    rw [← nmA_inj hn (I.lt h1) hr h2]
    exact h1
  have k := all_lenK I.nod (b := (List.range n.length).map fun r => (Sum.inl ((r : Nat) : Int) : Key)) (by
    rw [List.nodup_iff_pairwise_ne, List.pairwise_map]
    exact (List.nodup_iff_pairwise_ne.mp List.nodup_range).imp fun h e => h (by have := Sum.inl.inj e; omega)) fun k hk => by
    obtain ⟨r, e, h⟩ := I.num k hk
    exact List.mem_map.mpr ⟨r, List.mem_range.mpr h, e.symm⟩
  rw [List.length_map, List.length_map, List.length_range] at k
  rw [k]
  constructor
  · intro h x hx
    obtain ⟨i, hi, rfl⟩ := name_at hx
    have hm := h (Sum.inl (i : Int)) (List.mem_map.mpr ⟨i, List.mem_range.mpr hi, rfl⟩)
    cases hv : valV kvs (Sum.inl (i : Int)) with
    | none => exact absurd hm (val_none hv)
    | some v => exact (I.val i v hv).2
  · intro h y hy
    obtain ⟨r, hr, rfl⟩ := List.mem_map.mp hy
    have hr := List.mem_range.mp hr
    exact val_some (has_of r hr (h _ (at_name hr)))
structure LmI (m : Nat) (kvs : List (Key × V)) : Prop where
  keys : kvs.map (·.1) = (List.range m).map fun r => Sum.inl ((r : Nat) : Int)
  val : ∀ r, r < m → ∃ v : Int, valV kvs (Sum.inl ((r : Nat) : Int)) = some (.int v)
theorem LmI.len {m : Nat} {kvs : List (Key × V)} (I : LmI m kvs) : kvs.length = m := by
  have := congrArg List.length I.keys
  rwa [List.length_map, List.length_map, List.length_range] at this
theorem LmI.start : LmI 0 [] := ⟨rfl, fun r h => by omega⟩
theorem LmI.more {m : Nat} {kvs : List (Key × V)} (I : LmI m kvs) (v : Int) : LmI (m + 1) (putK kvs (Sum.inl (m : Int)) (.int v)) := by
  have hn : (Sum.inl (m : Int) : Key) ∉ kvs.map (·.1) := fun h => by
    rw [I.keys] at h
    obtain ⟨r, hr, e⟩ := List.mem_map.mp h
    have := List.mem_range.mp hr
    have := Sum.inl.inj e
    omega
  refine ⟨?_, fun r hr => ?_⟩
  · rw [keysP, if_neg hn, I.keys, List.range_succ, List.map_append]
    rfl
  · rw [valV_put]
    by_cases q : r = m
    · rw [if_pos (by rw [q])]
      exact ⟨v, rfl⟩
    · rw [if_neg (inl_ne q)]
      exact I.val r (by omega)
theorem LmI.put {m : Nat} {kvs : List (Key × V)} (I : LmI m kvs) {r : Nat} (hr : r < m) (v : Int) : LmI m (putK kvs (Sum.inl (r : Int)) (.int v)) := by
  have hm : (Sum.inl (r : Int) : Key) ∈ kvs.map (·.1) := by
    rw [I.keys]
    exact List.mem_map.mpr ⟨r, List.mem_range.mpr hr, rfl⟩
  refine ⟨by rw [keysP, if_pos hm, I.keys], fun r' hr' => ?_⟩
  rw [valV_put]
  split
  · exact ⟨v, rfl⟩
  · exact I.val r' hr'
end Nt
namespace Nt
open PySem L2
open Classical
theorem cnt_ge {n : Net} (Tw : Twice n) (hn : (n.map (·.1)).Nodup) : ∀ (k : Nat) (T : List Str), T.length = k → (∀ z ∈ T, z ∈ ties n) → n.length ≤ T.length + cntR n T
  | 0, T, h, _ => by
    rw [List.length_eq_zero_iff.mp h, cnt_none Tw hn]
    omega
  | k + 1, T, h, hm => by
    rcases List.eq_nil_or_concat T with e | ⟨T', t, e⟩
    · rw [e] at h
      cases h
    · rw [List.concat_eq_append] at e
      subst e
      have hl : T'.length = k := by rw [List.length_append] at h; exact Nat.succ.inj h
      have ih := cnt_ge Tw hn k T' hl fun z hz => hm z (List.mem_append_left _ hz)
      obtain ⟨e0, he0⟩ : ∃ e, e ∈ pos n t := by
        cases hp : pos n t with
        | nil => exact absurd hp (ties_pos.mp (hm t (List.mem_append_right _ (List.mem_singleton.mpr rfl))))
        | cons a r => exact ⟨a, List.mem_cons_self ..⟩
      have he := mem_pos.mp he0
      rw [List.length_append]
      show _ ≤ T'.length + 1 + _
      by_cases hr : Rt n T' (nmA n e0.1) (nmA n (other n e0).1)
      · have : cntR n (T' ++ [t]) = cntR n T' := by
          unfold cntR
          congr 2
          funext i j
          refine propext ⟨fun h => ?_, fun h => h.mono Tw fun z hz => List.mem_append_left _ hz⟩
          rcases h.add Tw he with q | ⟨q1, q2⟩ | ⟨q1, q2⟩
          · exact q
          · exact (q1.trans hr).trans q2
          · exact (q1.trans hr.symm).trans q2
        omega
      · have := cnt_add Tw he hr
        omega
abbrev less (T : List Str) (t : Str) : List Str := T.filter fun z => !decide (z = t)
theorem less_mem {T : List Str} {t z : Str} : z ∈ less T t ↔ z ∈ T ∧ z ≠ t := by
  rw [List.mem_filter, Bool.not_eq_true', decide_eq_false_iff_not]
theorem less_len {T : List Str} {t : Str} (hn : T.Nodup) (ht : t ∈ T) : (less T t).length + 1 = T.length := by
  have := filter_more' T t hn ht
  exact this
where
  filter_more' (T : List Str) (t : Str) (hn : T.Nodup) (ht : t ∈ T) : (T.filter fun z => !decide (z = t)).length + 1 = T.length := by
    induction T with
    | nil => cases ht
    | cons x r ih =>
      rw [List.nodup_cons] at hn
      rw [List.filter_cons]
      by_cases e : x = t
      · subst e
        rw [if_neg (by simp), List.filter_eq_self.mpr fun z hz => by simp; exact fun q => hn.1 (q ▸ hz)]
        rfl
      · rw [if_pos (by simpa using e), List.length_cons, List.length_cons, ih hn.2 ((List.mem_cons.mp ht).resolve_left fun q => e q.symm)]
structure Tr (n : Net) (T : List Str) : Prop where
  nod : T.Nodup
  mem : ∀ z ∈ T, z ∈ ties n
  tree : Tree n T
theorem Tr.split {n : Net} (Tw : Twice n) (hn : (n.map (·.1)).Nodup) (h0 : 0 < n.length) {T : List Str} (h : Tr n T) {t : Str} (ht : t ∈ T) {e : End} (he : tieAt n e = some t) : ¬ Rt n (less T t) (nmA n e.1) (nmA n (other n e).1) := fun hr => by
  have all : ∀ i, i < n.length → Rt n (less T t) (fstN n) (nmA n i) := fun i hi =>
    (h.tree.2 _ (at_name hi)).ind Tw (P := fun x => Rt n (less T t) (fstN n) x) (Rt.refl ..) fun e' z he' hz ih => by
      by_cases q : z = t
      · subst q
        rcases (tie_two Tw he).mp he' with k | k
        · subst k
          exact ih.trans hr
        · subst k
          rw [(other_spec Tw he).2.1]
          exact ih.trans hr.symm
      · exact ih.trans (Rt.step he' (less_mem.mpr ⟨hz, q⟩))
  have c := cnt_all h0 all
  have g := cnt_ge Tw hn _ (less T t) rfl fun z hz => h.mem z (less_mem.mp hz).1
  have l := less_len h.nod ht
  have := h.tree.1
  omega
def Sd (n : Net) (T : List Str) (t x : Str) : Prop := Rt n (less T t) (fstN n) x
theorem Sd.same {n : Net} {T : List Str} {t z : Str} {e : End} (he : tieAt n e = some z) (hz : z ∈ T) (hne : z ≠ t) : Sd n T t (nmA n e.1) ↔ Sd n T t (nmA n (other n e).1) := by
  have st := Rt.step he (less_mem.mpr ⟨hz, hne⟩)
  exact ⟨fun h => h.trans st, fun h => h.trans st.symm⟩
theorem Sd.differ {n : Net} (Tw : Twice n) (hn : (n.map (·.1)).Nodup) (h0 : 0 < n.length) {T : List Str} (h : Tr n T) {t : Str} (ht : t ∈ T) {e : End} (he : tieAt n e = some t) : Sd n T t (nmA n e.1) ↔ ¬ Sd n T t (nmA n (other n e).1) := by
  have no := h.split Tw hn h0 ht he
  constructor
  · exact fun h1 h2 => no (h1.symm.trans h2)
  · intro h2
    have r : Rt n (less T t ++ [t]) (fstN n) (nmA n e.1) := (h.tree.2 _ (at_name (row_lt he))).mono Tw fun z hz => by
      by_cases q : z = t
      · exact List.mem_append_right _ (List.mem_singleton.mpr q)
      · exact List.mem_append_left _ (less_mem.mpr ⟨hz, q⟩)
    rcases r.add Tw he with k | ⟨k1, k2⟩ | ⟨k1, k2⟩
    · exact k
    · exact k1
    · exact absurd k1 h2
def InCut (n : Net) (T : List Str) (t z : Str) : Prop := ∃ e, tieAt n e = some z ∧ Sd n T t (nmA n e.1) ∧ ¬ Sd n T t (nmA n (other n e).1)
theorem inCut_iff {n : Net} (Tw : Twice n) {T : List Str} {t z : Str} {e : End} (he : tieAt n e = some z) : InCut n T t z ↔ ¬ (Sd n T t (nmA n e.1) ↔ Sd n T t (nmA n (other n e).1)) := by
  have o := other_spec Tw he
  constructor
  · rintro ⟨e', he', h1, h2⟩
    rcases (tie_two Tw he).mp he' with k | k
    · subst k
      exact fun q => h2 (q.mp h1)
    · subst k
      rw [o.2.1] at h2
      exact fun q => h2 (q.mpr h1)
  · intro h
    by_cases h1 : Sd n T t (nmA n e.1)
    · by_cases h2 : Sd n T t (nmA n (other n e).1)
      · exact absurd ⟨fun _ => h2, fun _ => h1⟩ h
      · exact ⟨e, he, h1, h2⟩
    · by_cases h2 : Sd n T t (nmA n (other n e).1)
      · exact ⟨other n e, o.1, h2, by rw [o.2.1]; exact h1⟩
      · exact absurd ⟨fun q => absurd q h1, fun q => absurd q h2⟩ h
theorem isCut_in {n : Net} {T : List Str} {t : Str} {ps : List Str} (h : ∀ x, x ∈ ps ↔ Sd n T t x) (z : Str) : IsCut n ps z ↔ InCut n T t z := by
  unfold IsCut InCut
  simp only [h]
theorem inCut_self {n : Net} (Tw : Twice n) (hn : (n.map (·.1)).Nodup) (h0 : 0 < n.length) {T : List Str} (h : Tr n T) {t : Str} (ht : t ∈ T) : InCut n T t t := by
  obtain ⟨e, he⟩ : ∃ e, e ∈ pos n t := by
    cases hp : pos n t with
    | nil => exact absurd hp (ties_pos.mp (h.mem t ht))
    | cons a r => exact ⟨a, List.mem_cons_self ..⟩
  have he := mem_pos.mp he
  rw [inCut_iff Tw he, Sd.differ Tw hn h0 h ht he]
  exact fun q => by by_cases k : Sd n T t (nmA n (other n e).1) <;> simp [k] at q
theorem inCut_tree {n : Net} (Tw : Twice n) {T : List Str} {t z : Str} (hz : z ∈ T) (hne : z ≠ t) : ¬ InCut n T t z := by
  rintro ⟨e, he, h1, h2⟩
  exact h2 ((Sd.same he hz hne).mp h1)
theorem par_xor (p q c : Str → Prop) : ∀ l : List Str, (l.filter fun z => decide (¬ (p z ↔ q z) ∧ c z)).length % 2 = ((l.filter fun z => decide (p z ∧ c z)).length + (l.filter fun z => decide (q z ∧ c z)).length) % 2
  | [] => rfl
  | z :: r => by
    have ih := par_xor p q c r
    rw [List.filter_cons, List.filter_cons, List.filter_cons]
    by_cases hp : p z <;> by_cases hq : q z <;> by_cases hc : c z <;> simp only [hp, hq, hc, and_true, and_false, and_self, not_true_eq_false, iff_true, iff_false, iff_self, not_false_eq_true, true_and, false_and, decide_true, decide_false, if_true, if_false, List.length_cons, Bool.false_eq_true, not_true, true_iff, false_iff] <;> omega
theorem filter_one (c : Str → Prop) (t : Str) : ∀ l : List Str, l.Nodup → t ∈ l → (l.filter fun z => decide (z = t ∧ c z)).length = if c t then 1 else 0
  | [], _, h => by cases h
  | x :: r, hn, h => by
    rw [List.nodup_cons] at hn
    rw [List.filter_cons]
    by_cases e : x = t
    · subst e
      have : r.filter (fun z => decide (z = x ∧ c z)) = [] := List.filter_eq_nil_iff.mpr fun z hz q => hn.1 ((of_decide_eq_true q).1 ▸ hz)
      rw [this]
      by_cases hc : c x
      · rw [if_pos (decide_eq_true ⟨rfl, hc⟩), if_pos hc]
        rfl
      · rw [if_neg (fun q => hc (of_decide_eq_true q).2), if_neg hc]
        rfl
    · rw [if_neg (fun q => e (of_decide_eq_true q).1)]
      exact filter_one c t r hn.2 ((List.mem_cons.mp h).resolve_left fun q => e q.symm)
theorem star {n : Net} (Tw : Twice n) (v : Str) {z : Str} {e : End} (he : tieAt n e = some z) : IsCut n [v] z ↔ ¬ (nmA n e.1 = v ↔ nmA n (other n e).1 = v) := by
  rw [cut_iff Tw he]
  simp only [List.mem_singleton]
  by_cases h1 : nmA n e.1 = v <;> by_cases h2 : nmA n (other n e).1 = v <;> simp [h1, h2]
noncomputable def Xn (n : Net) (T : List Str) (v x : Str) : Nat := (T.filter fun z => decide (Sd n T z x ∧ IsCut n [v] z)).length + (if x = v then 1 else 0)
theorem xn_const {n : Net} (Tw : Twice n) (hn : (n.map (·.1)).Nodup) (h0 : 0 < n.length) {T : List Str} (h : Tr n T) (v : Str) {x y : Str} (hr : Rt n T x y) : Xn n T v x % 2 = Xn n T v y % 2 := by
  refine hr.ind Tw (P := fun y => Xn n T v x % 2 = Xn n T v y % 2) rfl fun e t he ht ih => ih.trans ?_
  have p := par_xor (fun z => Sd n T z (nmA n e.1)) (fun z => Sd n T z (nmA n (other n e).1)) (fun z => IsCut n [v] z) T
  have eq1 : (T.filter fun z => decide (¬ (Sd n T z (nmA n e.1) ↔ Sd n T z (nmA n (other n e).1)) ∧ IsCut n [v] z)) = T.filter fun z => decide (z = t ∧ IsCut n [v] z) := List.filter_congr fun z hz => by
    rw [decide_eq_decide]
    refine and_congr_left fun _ => ⟨fun q => ?_, fun q => ?_⟩
    · refine Classical.byContradiction fun hne => q (Sd.same he ht fun k => hne k.symm)
    · subst q
      have := Sd.differ Tw hn h0 h ht he
      by_cases k : Sd n T z (nmA n (other n e).1) <;> simp [k] at this ⊢ <;> simp [this]
  rw [eq1, filter_one _ t T h.nod ht] at p
  have st := star Tw v he
  have key : ((if nmA n e.1 = v then 1 else 0) + (if nmA n (other n e).1 = v then 1 else 0)) % 2 = (if IsCut n [v] t then 1 else 0) % 2 := by
    by_cases h1 : nmA n e.1 = v <;> by_cases h2 : nmA n (other n e).1 = v <;> simp only [h1, h2, if_true, if_false] at st ⊢
    · rw [if_neg (fun q => (st.mp q) (by simp))]
    · rw [if_pos (st.mpr (by simp))]
    · rw [if_pos (st.mpr (by simp))]
    · rw [if_neg (fun q => (st.mp q) (by simp))]
  show ((T.filter fun z => decide (Sd n T z (nmA n e.1) ∧ IsCut n [v] z)).length + (if nmA n e.1 = v then 1 else 0)) % 2 = ((T.filter fun z => decide (Sd n T z (nmA n (other n e).1) ∧ IsCut n [v] z)).length + (if nmA n (other n e).1 = v then 1 else 0)) % 2
  generalize (T.filter fun z => decide (Sd n T z (nmA n e.1) ∧ IsCut n [v] z)).length = A at p ⊢
  generalize (T.filter fun z => decide (Sd n T z (nmA n (other n e).1) ∧ IsCut n [v] z)).length = B at p ⊢
  generalize (if nmA n e.1 = v then 1 else 0) = a at key ⊢
  generalize (if nmA n (other n e).1 = v then 1 else 0) = b at key ⊢
  generalize (if IsCut n [v] t then 1 else 0) = c at key p
  omega
theorem par_sumP (C : Str → Prop) (g : Str → Nat) (h : ∀ z, C z ↔ g z % 2 = 1) : ∀ a : List Str, (a.filter fun z => decide (C z)).length % 2 = (a.map g).sum % 2
  | [] => rfl
  | z :: r => by
    have ih := par_sumP C g h r
    rw [List.filter_cons, List.map_cons, List.sum_cons]
    by_cases hz : C z
    · rw [if_pos (decide_eq_true hz), List.length_cons]
      have := (h z).mp hz
      omega
    · rw [if_neg (fun q => hz (of_decide_eq_true q))]
      have : ¬ g z % 2 = 1 := fun q => hz ((h z).mpr q)
      omega
theorem one_row : ∀ (m : Net) (r : Str × List Str), r ∈ m → (m.map (·.1)).Nodup → m.filter (fun s => decide (s.1 ∈ [r.1])) = [r]
  | [], _, e, _ => by cases e
  | a :: m, r, e, hn => by
    rw [List.map_cons, List.nodup_cons] at hn
    rw [List.filter_cons]
    rcases List.mem_cons.mp e with e | e
    · subst e
      rw [if_pos (by simp), List.filter_eq_nil_iff.mpr fun s hs q => hn.1 (List.mem_map.mpr ⟨s, hs, by simpa using q⟩)]
    · have hne : a.1 ≠ r.1 := fun q => hn.1 (q ▸ List.mem_map.mpr ⟨r, e, rfl⟩)
      rw [if_neg (by simpa using hne)]
      exact one_row m r e hn.2
theorem even_star {n : Net} (Tw : Twice n) (hn : (n.map (·.1)).Nodup) {R : List Str} (hR : R.Nodup) (h : ∀ v ∈ n.map (·.1), (R.filter fun z => decide (IsCut n [v] z)).length % 2 = 0) : evenAt n R = true := by
  rw [even_iff]
  intro r hr
  have hv := h r.1 (List.mem_map.mpr ⟨r, hr, rfl⟩)
  have e1 := one_row n r hr hn
  have e2 : ties (n.filter fun s => decide (s.1 ∈ [r.1])) = r.2 := by
    rw [e1]
    unfold ties
    simp
  have k := cut_odd Tw [r.1]
  rw [e2] at k
  rw [sum_count hR, ← par_sumP (fun z => IsCut n [r.1] z) (fun z => r.2.count z) k R]
  exact hv
theorem round_by {n : Net} (Tw : Twice n) (hn : (n.map (·.1)).Nodup) (h0 : 0 < n.length) {T : List Str} (h : Tr n T) {t : Str} (ht : t ∉ T) (htn : t ∈ ties n) {R : List Str} (hR : R.Nodup) (hm : ∀ z, z ∈ R ↔ z = t ∨ (z ∈ T ∧ InCut n T z t)) : evenAt n R = true := by
  obtain ⟨e, he⟩ : ∃ e, e ∈ pos n t := by
    cases hp : pos n t with
    | nil => exact absurd hp (ties_pos.mp htn)
    | cons a r => exact ⟨a, List.mem_cons_self ..⟩
  have he := mem_pos.mp he
  refine even_star Tw hn hR fun v _ => ?_
  have perm : R.Perm (t :: T.filter fun z => decide (InCut n T z t)) := (List.perm_ext_iff_of_nodup hR (List.nodup_cons.mpr ⟨fun q => ht (List.mem_filter.mp q).1, h.nod.filter _⟩)).mpr fun z => by
    rw [hm z, List.mem_cons, List.mem_filter, decide_eq_true_iff]
  rw [(perm.filter _).length_eq, List.filter_cons, List.filter_filter]
  have e1 : (T.filter fun z => decide (IsCut n [v] z) && decide (InCut n T z t)) = T.filter fun z => decide (¬ (Sd n T z (nmA n e.1) ↔ Sd n T z (nmA n (other n e).1)) ∧ IsCut n [v] z) := List.filter_congr fun z _ => by
    rw [Bool.eq_iff_iff, Bool.and_eq_true, decide_eq_true_iff, decide_eq_true_iff, decide_eq_true_iff, inCut_iff Tw he]
    exact And.comm
  have p := par_xor (fun z => Sd n T z (nmA n e.1)) (fun z => Sd n T z (nmA n (other n e).1)) (fun z => IsCut n [v] z) T
  rw [e1]
  have c1 := xn_const Tw hn h0 h v ((h.tree.2 _ (at_name (row_lt he))).symm.trans (h.tree.2 _ (at_name (other_lt Tw he))))
  have c1 : ((T.filter fun z => decide (Sd n T z (nmA n e.1) ∧ IsCut n [v] z)).length + (if nmA n e.1 = v then 1 else 0)) % 2 = ((T.filter fun z => decide (Sd n T z (nmA n (other n e).1) ∧ IsCut n [v] z)).length + (if nmA n (other n e).1 = v then 1 else 0)) % 2 := c1
  have st := star Tw v he
  have key : ((if nmA n e.1 = v then 1 else 0) + (if nmA n (other n e).1 = v then 1 else 0)) % 2 = (if IsCut n [v] t then 1 else 0) % 2 := by
    by_cases h1 : nmA n e.1 = v <;> by_cases h2 : nmA n (other n e).1 = v <;> simp only [h1, h2, if_true, if_false] at st ⊢
    · rw [if_neg (fun q => (st.mp q) (by simp))]
    · rw [if_pos (st.mpr (by simp))]
    · rw [if_pos (st.mpr (by simp))]
    · rw [if_neg (fun q => (st.mp q) (by simp))]
  generalize (T.filter fun z => decide (Sd n T z (nmA n e.1) ∧ IsCut n [v] z)).length = A at p c1
  generalize (T.filter fun z => decide (Sd n T z (nmA n (other n e).1) ∧ IsCut n [v] z)).length = B at p c1
  generalize (if nmA n e.1 = v then 1 else 0) = a at key c1
  generalize (if nmA n (other n e).1 = v then 1 else 0) = b at key c1
  by_cases hc : IsCut n [v] t
  · rw [if_pos hc] at key
    rw [if_pos (decide_eq_true hc), List.length_cons]
    omega
  · rw [if_neg hc] at key
    rw [if_neg (fun q => hc (of_decide_eq_true q))]
    omega
end Nt
namespace C6
open PySem L2 Nt Sort2
open PyProof.Rows (sortedS)
open Classical
def spCutOf : Sp := fun vs H Q _ => ∃ (R p : Addr) (as : List (Addr × Addr)) (n : Net) (ps : List Str), vs = [.ref R, .ref p] ∧ RowsAt H R as n ∧ Twice n ∧ n.length ≤ 60 ∧ (ties n).length ≤ 60 ∧ H p = some (Ls ps) ∧
  ∀ (L : Addr) (cs : List Str) (H' : Hp), Same H H' → H L = none → H' L = some (Ls cs) → Srt cs → (∀ z, z ∈ cs ↔ IsCut n ps z) → cs.length ≤ 60 → Q (.ref L) H'
theorem rt_name {n : Net} (T : Twice n) {ss : List Str} {f x : Str} (hf : f ∈ n.map (·.1)) (h : Rt n ss f x) : x ∈ n.map (·.1) := h.ind T (P := fun x => x ∈ n.map (·.1)) hf fun e z he _ _ => Nt.at_name (other_lt T he)
def flk (ss : List Str) (ls : List Lk) : List Bl := (ls.filter fun x => decide (x.1 ∈ ss)).map fun x => (x.2.1, x.2.2, false)
theorem flk_snoc (ss : List Str) (ls : List Lk) (x : Lk) : flk ss (ls ++ [x]) = flk ss ls ++ (if x.1 ∈ ss then [(x.2.1, x.2.2, false)] else []) := by
  unfold flk
  rw [List.filter_append, List.map_append]
  congr 1
  by_cases h : x.1 ∈ ss <;> simp [h]
theorem flk_len (ss : List Str) (ls : List Lk) : (flk ss ls).length ≤ ls.length := by
  unfold flk
  rw [List.length_map]
  exact List.length_filter_le _ _
theorem flk_rt {n : Net} (T : Twice n) {ss : List Str} {ls : List Lk} (h : ∀ x, x ∈ ls ↔ IsLink n x) {f x : Str} : (∃ b, Way (flk ss ls) f x b) ↔ Rt n ss f x := by
  have mem : ∀ {x y : Str} {o : Bool}, (x, y, o) ∈ flk ss ls ↔ ∃ l ∈ ls, l.1 ∈ ss ∧ x = l.2.1 ∧ y = l.2.2 ∧ o = false := fun {x y o} => by
    unfold flk
    rw [List.mem_map]
    constructor
    · rintro ⟨l, hl, q⟩
      rw [List.mem_filter] at hl
      exact ⟨l, hl.1, of_decide_eq_true hl.2, (congrArg (·.1) q).symm, (congrArg (·.2.1) q).symm, (congrArg (·.2.2) q).symm⟩
    · rintro ⟨l, hl, hs, rfl, rfl, rfl⟩
      exact ⟨l, List.mem_filter.mpr ⟨hl, decide_eq_true hs⟩, rfl⟩
  constructor
  · rintro ⟨b, w⟩
    refine way_mono (fun x y o hm => ?_) w
    obtain ⟨l, hl, hs, rfl, rfl, rfl⟩ := mem.mp hm
    obtain ⟨e, he, h1, h2⟩ := link_end T ((h l).mp hl)
    exact ⟨false, .inl (lkT_mem.mpr ⟨e, l.1, he, hs, h1, h2, rfl⟩)⟩
  · rintro ⟨b, w⟩
    refine way_mono (fun x y o hm => ?_) w
    obtain ⟨e, z, he, hz, rfl, rfl, rfl⟩ := lkT_mem.mp hm
    rcases end_link T he with q | q
    · exact ⟨false, .inl (mem.mpr ⟨_, (h _).mpr q, hz, rfl, rfl, rfl⟩)⟩
    · exact ⟨false, .inr (mem.mpr ⟨_, (h _).mpr q, hz, rfl, rfl, rfl⟩)⟩
theorem AtB.snoc {H : Hp} {us : List Addr} {ls : List Bl} {u : Addr} {x : Bl} (h : AtB H us ls) (hu : H u = some (T3b x)) : AtB H (us ++ [u]) (ls ++ [x]) := by
  refine ⟨by rw [List.length_append, List.length_append, h.1]; rfl, fun j v y h1 h2 => ?_⟩
  have hl := h.1
  by_cases hj : j < us.length
  · rw [List.getElem?_append_left hj] at h1
    rw [List.getElem?_append_left (by omega)] at h2
    exact h.2 j v y h1 h2
  · rw [List.getElem?_append_right (by omega)] at h1 h2
    have hj2 : j - us.length = 0 := by
      have := (List.getElem?_eq_some_iff.mp h1).1
      simp at this
      omega
    rw [hj2] at h1
    rw [← hl, hj2] at h2
    cases h1
    cases h2
    exact hu
def keyStr : Key → Str
  | Sum.inr z => z
  | _ => ⟨#[]⟩
theorem keys_inr {kvs : List (Key × V)} (h : ∀ k ∈ kvs.map (·.1), ∃ x, k = Sum.inr x) : kvs.map (·.1) = (kvs.map fun p => keyStr p.1).map Sum.inr := by
  rw [List.map_map]
  refine List.map_congr_left fun p hp => ?_
  obtain ⟨x, e⟩ := h p.1 (List.mem_map.mpr ⟨p, hp, rfl⟩)
  show p.1 = Sum.inr (keyStr p.1)
  rw [e]
  rfl
def spReached : Sp := fun vs H Q _ => ∃ (R p : Addr) (as : List (Addr × Addr)) (n : Net) (ss : List Str) (f : Str), vs = [.ref R, .ref p, .str f] ∧ RowsAt H R as n ∧ Twice n ∧ n.length ≤ 60 ∧ (ties n).length ≤ 60 ∧ H p = some (Ls ss) ∧ f ∈ n.map (·.1) ∧
  ∀ (L : Addr) (xs : List Str) (H' : Hp), Same H H' → H L = none → H' L = some (Ls xs) → Srt xs → (∀ x, x ∈ xs ↔ Rt n ss f x) → Q (.ref L) H'
def spCutBy : Sp := fun vs H Q _ => ∃ (R p : Addr) (as : List (Addr × Addr)) (n : Net) (ts : List Str) (t : Str), vs = [.ref R, .ref p, .str t] ∧ RowsAt H R as n ∧ Twice n ∧ 0 < n.length ∧ n.length ≤ 60 ∧ (ties n).length ≤ 60 ∧ H p = some (Ls ts) ∧ ts.length ≤ 60 ∧
  ∀ (L : Addr) (cs : List Str) (H' : Hp), Same H H' → H L = none → H' L = some (Ls cs) → Srt cs → (∀ z, z ∈ cs ↔ InCut n ts t z) → Q (.ref L) H'
def spRoundBy : Sp := fun vs H Q _ => ∃ (R p : Addr) (as : List (Addr × Addr)) (n : Net) (ts : List Str) (t : Str), vs = [.ref R, .ref p, .str t] ∧ RowsAt H R as n ∧ Twice n ∧ 0 < n.length ∧ n.length ≤ 60 ∧ (ties n).length ≤ 60 ∧ H p = some (Ls ts) ∧ ts.length ≤ 60 ∧ ts.Nodup ∧ t ∉ ts ∧
  ∀ (L : Addr) (rs : List Str) (H' : Hp), Same H H' → H L = none → H' L = some (Ls rs) → Srt rs → (∀ z, z ∈ rs ↔ z = t ∨ (z ∈ ts ∧ InCut n ts z t)) → Q (.ref L) H'
section
variable {P : Program} {w : World} {K : PySem.W.Frag} {mg : Str → Option Value} {base : Heap}
def crs (ps : List Str) (x : Lk) : Bool := decide (x.2.1 ∈ ps) != decide (x.2.2 ∈ ps)
def cutL (ps : List Str) (ls : List Lk) : List Str := (ls.filter (crs ps)).map (·.1)
theorem cutL_srt {ps : List Str} {ls : List Lk} (h : SortedL ls) : Srt (cutL ps ls) := by
  unfold Srt cutL
  rw [List.pairwise_map]
  exact h.sublist List.filter_sublist
theorem cutL_mem {n : Net} (T : Twice n) {ps : List Str} {ls : List Lk} (h : ∀ x, x ∈ ls ↔ IsLink n x) (z : Str) : z ∈ cutL ps ls ↔ IsCut n ps z := by
  unfold cutL
  rw [List.mem_map]
  constructor
  · rintro ⟨x, hx, rfl⟩
    rw [List.mem_filter] at hx
    exact (link_cut T ((h x).mp hx.1)).mpr hx.2
  · intro hc
    obtain ⟨e, he, _⟩ := id hc
    rcases end_link T he with q | q
    · exact ⟨_, List.mem_filter.mpr ⟨(h _).mpr q, (link_cut T q).mp hc⟩, rfl⟩
    · exact ⟨_, List.mem_filter.mpr ⟨(h _).mpr q, (link_cut T q).mp hc⟩, rfl⟩
theorem cutL_len (ps : List Str) (ls : List Lk) : (cutL ps ls).length ≤ ls.length := by
  unfold cutL
  rw [List.length_map]
  exact List.length_filter_le _ _
theorem cutL_snoc (ps : List Str) (ls : List Lk) (x : Lk) : cutL ps (ls ++ [x]) = cutL ps ls ++ (if crs ps x = true then [x.1] else []) := by
  unfold cutL
  rw [List.filter_append, List.map_append]
  congr 1
  cases h : crs ps x <;> simp [h]
theorem contains_dec (zs : List Str) (z : Str) : zs.contains z = decide (z ∈ zs) := by
  rw [Bool.eq_iff_iff, decide_eq_true_iff]
  exact List.contains_iff_mem
abbrev NCu : List Str := ["rows", "points"]
abbrev NCu' : List Str := ["rows", "points", "tie", "one", "other"]
theorem scCu : FnScope NCu ["rows", "points"] (defScope sCutOf) := ⟨rfl, rfl, rfl, by decide +kernel, rfl, by decide +kernel, by decide +kernel⟩
theorem nd_cu : NCu'.Nodup := by decide +kernel
theorem ok_cut {f g : Addr} {fd gd : FuncData} (F : Fun K "cut_of" "cut_of" sCutOf f fd) (T : Txt mg)
    (G : FnOk P w K mg base CX0 1 g gd ["rows"] spLinks) (bG : Binds K gd ["rows"] []) (kG : PySem.W.keepIn K (.ref g) = true) (mG : mg "links_of" = some (.ref g)) :
    FnOk P w K mg base CX0 2 f fd ["rows", "points"] spCutOf := by
  refine F.go scCu (fun vs H Q E h => ?_) (fun cdv A outer s H vs Q E hr h => ?_)
  · obtain ⟨R, p, as, n, ps, rfl, _⟩ := h
    rfl
  obtain ⟨R, p, as, n, ps, rfl, hR, hT, hn, ht, hp, q⟩ := h
  show Run _ _ _ [some (.ref R), some (.ref p)] H
  refine run_ret (ev_comp (defScope sCutOf) NCu NCu' 3 (pi_list pe_ev) (ev_call G hr mG kG bG pass0 (ea_cons (ev_v 0 (ea_nil ⟨R, as, n, rfl, hR, hT, by omega, ht, fun L us ls H1 s1 n1 eL hat hso hmem hlen => ?_⟩)))))
  refine ⟨L, rfl, ⟨_, SqL.of eL⟩, fun D hD => ?_⟩
  have nLD : L ≠ D := ne_of_none eL hD
  have npD : p ≠ D := ne_of_none (s1 _ _ hp) hD
  have lus := hat.1
  refine comp_listP (xs := us.map V.ref) (fun i σ' H' => (∃ v1 v2 v3, σ' = [some (.ref R), some (.ref p)] ++ [v1, v2, v3]) ∧ H' = upd H1 D (Ls (cutL ps (ls.take i)))) ⟨⟨_, _, _, rfl⟩, rfl⟩ ?_ ?_ ?_
  · rintro i σ' H' _ ⟨_, rfl⟩
    exact SqL.of (by rw [upd_ne nLD]; exact eL)
  · rintro i x σ' H' hx ⟨⟨v1, v2, v3, rfl⟩, rfl⟩
    rw [List.getElem?_map, Option.map_eq_some_iff] at hx
    obtain ⟨u, hu1, rfl⟩ := hx
    have hi : i < ls.length := by
      have := (List.getElem?_eq_some_iff.mp hu1).1
      omega
    have hli : ls[i]? = some ls[i] := List.getElem?_eq_getElem hi
    have hup := hat.2 i u _ hu1 hli
    have etk : ls.take (i + 1) = ls.take i ++ [ls[i]] := by rw [List.take_add_one, hli]; rfl
    rw [etk, cutL_snoc]
    generalize ls[i] = lx at hup
    obtain ⟨ti, on, ot⟩ := lx
    have hup' : (upd H1 D (Ls (cutL ps (ls.take i)))) u = some (.tup [.str ti, .str on, .str ot]) := by rw [upd_ne (ne_of_none hup hD)]; exact hup
    have hp' : (upd H1 D (Ls (cutL ps (ls.take i)))) p = some (Ls ps) := by rw [upd_ne npD]; exact s1 _ _ hp
    intro cl C' s₀ H₀ ex
    refine eg_triple rfl (SqT.of hup') (eg_name 2 nd_cu (eg_name 3 nd_cu (eg_name 4 nd_cu ?_)))
    intro cl C' s₀ H₀ ex
    refine ei_one (et_cmp op_ne (ev_cmp op_in_seq (ev_v 3 (ev_v 1 ⟨p, _, rfl, .inl (SqL.of hp'), rfl, flat_strs _, ?_⟩))))
    refine ev_cmp op_in_seq (ev_v 4 (ev_v 1 ⟨p, _, rfl, .inl (SqL.of hp'), rfl, flat_strs _, rfl, _, rfl, ?_⟩))
    have fF : ∀ (x y : Bool), (if false = true then x else y) = y := fun _ _ => rfl
    rw [fF, fF, inV_strs, inV_strs, contains_dec, contains_dec, dec_bl]
    show if crs ps (ti, on, ot) = true then _ else _
    have hcl := Nat.le_trans (cutL_len ps (ls.take i)) (show (ls.take i).length ≤ ls.length by rw [List.length_take]; omega)
    by_cases hc : crs ps (ti, on, ot) = true
    · rw [if_pos hc]
      intro cl C' s₀ H₀ ex
      refine ev_v 2 ⟨_, upd_same, by rw [List.length_map]; exact small' (by omega), ⟨_, _, _, rfl⟩, ?_⟩
      rw [upd_upd, if_pos hc]
      exact ls_app
    · rw [if_neg hc]
      refine ⟨⟨_, _, _, rfl⟩, ?_⟩
      rw [if_neg hc, List.append_nil]
  · rintro σ' H' ⟨_, rfl⟩
    rw [List.length_map, lus, List.take_length]
    have hcl := cutL_len ps ls
    exact q D _ _ (s1.trans (same_new hD _)) (free_back s1 hD) upd_same (cutL_srt hso) (cutL_mem hT hmem) (by omega)
abbrev NRe : List Str := ["rows", "some", "first"]
abbrev NRe' : List Str := ["rows", "some", "first", "tie", "one", "other"]
theorem scRe : FnScope NRe ["rows", "some", "first"] (defScope s_reached) := ⟨rfl, rfl, rfl, by decide +kernel, rfl, by decide +kernel, by decide +kernel⟩
theorem nd_re : NRe'.Nodup := by decide +kernel
theorem ok_reached {f gL gS : Addr} {fd dL dS : FuncData} (F : Fun K "reached" "reached" s_reached f fd) (T : Txt mg)
    (GL : FnOk P w K mg base CX0 1 gL dL ["rows"] spLinks) (bL : Binds K dL ["rows"] []) (kL : PySem.W.keepIn K (.ref gL) = true) (mL : mg "links_of" = some (.ref gL))
    (GS : FnOk P w K mg base CX0 1 gS dS ["first", "links"] spSpread) (bS : Binds K dS ["first", "links"] []) (kS : PySem.W.keepIn K (.ref gS) = true) (mS : mg "spread" = some (.ref gS)) :
    FnOk P w K mg base CX0 2 f fd ["rows", "some", "first"] spReached := by
  refine F.go scRe (fun vs H Q E h => ?_) (fun cdv A outer s H vs Q E hr h => ?_)
  · obtain ⟨R, p, as, n, ss, ft, rfl, _⟩ := h
    rfl
  obtain ⟨R, p, as, n, ss, ft, rfl, hR, hT, hn, hti, hp, hf, q⟩ := h
  show Run _ _ _ [some (.ref R), some (.ref p), some (.str ft)] H
  refine run_ret (ev_blt (call_sorted_dict rfl) T.sorted PyProof.Rows.boot_sorted (ea_cons (ev_call GS hr mS kS bS pass0 (ea_cons (ev_v 2 (ea_cons (ev_comp (defScope s_reached) NRe NRe' 3 (pi_list pe_ev) (ev_call GL hr mL kL bL pass0 (ea_cons (ev_v 0 (ea_nil ⟨R, as, n, rfl, hR, hT, by omega, hti, fun L us ls H1 s1 n1 eL hat hso hmem hlen => ?_⟩)))))))))))
  refine ⟨L, rfl, ⟨_, SqL.of eL⟩, fun D hD => ?_⟩
  have lus := hat.1
  refine comp_listP (xs := us.map V.ref) (fun i σ' H' => (∃ v1 v2 v3, σ' = [some (.ref R), some (.ref p), some (.str ft)] ++ [v1, v2, v3]) ∧ ∃ ws : List Addr, Same H1 H' ∧ H' D = some (.lst (ws.map V.ref)) ∧ AtB H' ws (flk ss (ls.take i))) ⟨⟨_, _, _, rfl⟩, [], same_new hD _, upd_same, rfl, fun j u x h => by simp at h⟩ ?_ ?_ ?_
  · rintro i σ' H' _ ⟨_, ws, sm, _⟩
    exact SqL.of (sm _ _ eL)
  · rintro i x σ' H' hx ⟨⟨v1, v2, v3, rfl⟩, ws, sm, eD, hatb⟩
    rw [List.getElem?_map, Option.map_eq_some_iff] at hx
    obtain ⟨u, hu1, rfl⟩ := hx
    have hi : i < ls.length := by
      have := (List.getElem?_eq_some_iff.mp hu1).1
      omega
    have hli : ls[i]? = some ls[i] := List.getElem?_eq_getElem hi
    have hup := sm _ _ (hat.2 i u _ hu1 hli)
    have etk : flk ss (ls.take (i + 1)) = flk ss (ls.take i) ++ (if (ls[i]).1 ∈ ss then [((ls[i]).2.1, (ls[i]).2.2, false)] else []) := by rw [List.take_add_one, hli]; exact flk_snoc ..
    rw [etk]
    have lw : ws.length ≤ i := by
      have := hatb.1
      have := flk_len ss (ls.take i)
      rw [List.length_take] at this
      omega
    generalize ls[i] = lx at hup
    obtain ⟨ti, on, ot⟩ := lx
    have hp' := sm _ _ (s1 _ _ hp)
    intro cl C' s₀ H₀ ex
    refine eg_triple rfl (SqT.of hup) (eg_name 3 nd_re (eg_name 4 nd_re (eg_name 5 nd_re ?_)))
    intro cl C' s₀ H₀ ex
    refine ei_one (et_cmp op_in_seq (ev_v 3 (ev_v 1 ⟨p, _, rfl, .inl (SqL.of hp'), rfl, flat_strs _, _, rfl, ?_⟩)))
    have fF : ∀ (x y : Bool), (if false = true then x else y) = y := fun _ _ => rfl
    rw [fF, inV_strs]
    by_cases hc : ti ∈ ss
    · rw [if_pos (List.contains_iff_mem.mpr hc), if_pos hc]
      intro cl C' s₀ H₀ ex
      refine ev_tup (ea_cons (ev_v 4 (ea_cons (ev_v 5 (ea_cons (ev_bl (ea_nil ⟨(by show 3 ≤ sizeLine; decide), fun t ht' => ?_⟩)))))))
      have ntD : t ≠ D := fun e => by rw [e, eD] at ht'; cases ht'
      have sT := same_new ht' (.tup [.str on, .str ot, .bl false])
      refine ⟨_, sT _ _ eD, by rw [List.length_map]; exact small' (by omega), ⟨_, _, _, rfl⟩, ws ++ [t], same_mut (sm.trans sT) hD, ?_, ?_⟩
      · rw [upd_same, List.map_append]
        rfl
      · refine AtB.snoc ⟨hatb.1, fun j v y h1 h2 => ?_⟩ ?_
        · have e := sT _ _ (hatb.2 j v y h1 h2)
          rw [upd_ne (ne_of e (sT _ _ eD) fun z => nomatch z)]
          exact e
        · rw [upd_ne ntD]
          exact upd_same
    · rw [if_neg (fun h => hc (List.contains_iff_mem.mp h)), if_neg hc, List.append_nil]
      exact ⟨⟨_, _, _, rfl⟩, ws, sm, eD, hatb⟩
  · rintro σ' H2 ⟨_, ws, s2, eD, hatb⟩
    rw [List.length_map, lus, List.take_length] at hatb
    have sH2 : Same H H2 := s1.trans s2
    have hfl := flk_len ss ls
    refine ea_nil ⟨ft, D, ws, flk ss ls, rfl, eD, hatb, by omega, fun d kvs H3 s3 nd3 ed3 I => ?_⟩
    have htx : ∀ k ∈ kvs.map (·.1), ∃ x, k = Sum.inr x := fun k hk => (I.txt k hk).imp fun x h => h.1
    have ek := keys_inr htx
    have key : ∀ x, Sum.inr x ∈ kvs.map (·.1) ↔ Rt n ss ft x := fun x => by
      rw [← flk_rt hT hmem]
      constructor
      · intro hx
        cases hv : valV kvs (Sum.inr x) with
        | none => exact absurd hx (I.notin hv)
        | some v =>
          obtain ⟨b, _, w⟩ := I.val x v hv
          exact ⟨b, w⟩
      · rintro ⟨b, w⟩
        obtain ⟨b', hb'⟩ := I.whole x b w
        refine Classical.byContradiction fun hn => ?_
        have : ∀ {l : List (Key × V)}, Sum.inr x ∉ l.map (·.1) → valV l (Sum.inr x) = none := fun {l} => by
          induction l with
          | nil => intro _; rfl
          | cons c r ih =>
            intro h
            rw [List.map_cons, List.mem_cons] at h
            rw [valV_neg (fun q => h (.inl q.symm))]
            exact ih fun q => h (.inr q)
        rw [this hn] at hb'
        cases hb'
    have mem : ∀ x, x ∈ (kvs.map fun p => keyStr p.1) ↔ Rt n ss ft x := fun x => by
      rw [← key x, ek]
      constructor
      · intro h
        exact List.mem_map.mpr ⟨x, h, rfl⟩
      · intro h
        obtain ⟨y, hy, e⟩ := List.mem_map.mp h
        rw [← Sum.inr.inj e]
        exact hy
    have nodz : (kvs.map fun p => keyStr p.1).Nodup := by
      have := I.nod
      rw [ek, List.nodup_iff_pairwise_ne, List.pairwise_map] at this
      exact this.imp fun h e => h (by rw [e])
    have lz : (kvs.map fun p => keyStr p.1).length ≤ n.length := by
      have := nodup_le nodz fun x hx => rt_name hT hf ((mem x).mp hx)
      rwa [List.length_map (as := n)] at this
    refine ea_nil ⟨d, kvs, _, rfl, .inl ed3, ek, by omega, fun l xs hl hpm hso2 => ?_⟩
    have sH3 := sH2.trans s3
    refine q l xs _ (sH3.trans (same_new hl _)) (sH3.free hl) upd_same (srt_of hso2 (hpm.nodup_iff.mpr nodz)) fun x => ?_
    rw [hpm.mem_iff]
    exact mem x
abbrev NCb : List Str := ["rows", "tree", "tie", "rest"]
abbrev NCb' : List Str := ["rows", "tree", "tie", "rest", "each"]
theorem scCb : FnScope NCb ["rows", "tree", "tie"] (defScope s_cut_by) := ⟨rfl, rfl, rfl, by decide +kernel, rfl, by decide +kernel, by decide +kernel⟩
theorem nd_cb : NCb'.Nodup := by decide +kernel
theorem ok_cutBy {f gR gU : Addr} {fd dR dU : FuncData} (F : Fun K "cut_by" "cut_by" s_cut_by f fd) (T : Txt mg)
    (GR : FnOk P w K mg base CX0 2 gR dR ["rows", "some", "first"] spReached) (bR : Binds K dR ["rows", "some", "first"] []) (kR : PySem.W.keepIn K (.ref gR) = true) (mR : mg "reached" = some (.ref gR))
    (GU : FnOk P w K mg base CX0 2 gU dU ["rows", "points"] spCutOf) (bU : Binds K dU ["rows", "points"] []) (kU : PySem.W.keepIn K (.ref gU) = true) (mU : mg "cut_of" = some (.ref gU)) :
    FnOk P w K mg base CX0 3 f fd ["rows", "tree", "tie"] spCutBy := by
  refine F.go scCb (fun vs H Q E h => ?_) (fun cdv A outer s H vs Q E hr h => ?_)
  · obtain ⟨R, p, as, n, ts, t, rfl, _⟩ := h
    rfl
  obtain ⟨R, p, as, n, ts, t, rfl, hR, hT, h0, hn, hti, hp, hts, q⟩ := h
  have nd := scCb.nd
  show Run _ _ _ [some (.ref R), some (.ref p), some (.str t), none] H
  refine run_setC 3 (defScope s_cut_by) NCb NCb' 1 nd (pi_list pe_ev) (ev_v 1 ⟨p, rfl, ⟨_, SqL.of hp⟩, fun D hD => ?_⟩)
  refine comp_filt (fun z => !decide (z = t)) (small' (by omega)) hp hD (fun cl C s0 H0 ex v v0 H' R' h => eg_name 4 nd_cb h) (fun cl C s0 H0 ex z zs T' h => ei_one (et_cmp op_ne (ev_v 4 (ev_v 2 ⟨rfl, _, rfl, ?_⟩)))) (fun cl C s0 H0 ex z H' R' h => ev_v 4 h) ?_
  · have e : decide (V.str z = V.str t) = decide (z = t) := by
      rw [decide_eq_decide]
      exact ⟨V.str.inj, fun k => by rw [k]⟩
    rw [e]
    exact h
  have s1 := same_new hD (.lst ((ts.filter fun z => !decide (z = t)).map V.str))
  have eD : (upd H D (.lst ((ts.filter fun z => !decide (z = t)).map V.str))) D = some (Ls (less ts t)) := upd_same
  show Run _ _ _ [some (.ref R), some (.ref p), some (.str t), some (.ref D)] (upd H D (.lst ((ts.filter fun z => !decide (z = t)).map V.str)))
  generalize upd H D (.lst ((ts.filter fun z => !decide (z = t)).map V.str)) = H1 at s1 eD
  have hR1 := hR.same s1
  obtain ⟨a0, ea0, eat0, et0, el0, er0⟩ := hR1.at h0
  have hf : n[0].1 = fstN n := (nmA_eq h0).symm
  refine run_ret (ev_call GU hr mU kU bU pass0 (ea_cons (ev_v 0 (ea_cons (ev_call GR hr mR kR bR pass0 (ea_cons (ev_v 0 (ea_cons (ev_v 3 (ea_cons (ev_ix ix_tup (ev_ix ix_list (ev_v 0 (ev_int ⟨R, _, _, .ref a0.1, rfl, rfl, SqL.of hR1.lst, eat0, ev_int ⟨a0.1, _, _, .str n[0].1, rfl, rfl, SqT.of et0, rfl, ?_⟩⟩))))))))))))))
  refine ea_nil ⟨R, D, as, n, less ts t, n[0].1, rfl, hR1, hT, hn, hti, eD, by rw [hf]; exact Nt.at_name h0, fun L2 xs H2 s2 n2 e2 so2 m2 => ?_⟩
  rw [hf] at m2
  refine ea_nil ⟨R, L2, as, n, xs, rfl, hR1.same s2, hT, hn, hti, e2, fun L3 cs H3 s3 n3 e3 so3 m3 l3 => ?_⟩
  exact q L3 cs H3 ((s1.trans s2).trans s3) ((s1.trans s2).free n3) e3 so3 fun z => (m3 z).trans (isCut_in m2 z)
abbrev NRb : List Str := ["rows", "tree", "tie"]
abbrev NRb' : List Str := ["rows", "tree", "tie", "each"]
theorem scRb : FnScope NRb ["rows", "tree", "tie"] (defScope s_round_by) := ⟨rfl, rfl, rfl, by decide +kernel, rfl, by decide +kernel, by decide +kernel⟩
theorem nd_rb : NRb'.Nodup := by decide +kernel
theorem ok_roundBy {f gB : Addr} {fd dB : FuncData} (F : Fun K "round_by" "round_by" s_round_by f fd) (T : Txt mg)
    (GB : FnOk P w K mg base CX0 3 gB dB ["rows", "tree", "tie"] spCutBy) (bB : Binds K dB ["rows", "tree", "tie"] []) (kB : PySem.W.keepIn K (.ref gB) = true) (mB : mg "cut_by" = some (.ref gB)) :
    FnOk P w K mg base CX0 4 f fd ["rows", "tree", "tie"] spRoundBy := by
  refine F.go scRb (fun vs H Q E h => ?_) (fun cdv A outer s H vs Q E hr h => ?_)
  · obtain ⟨R, p, as, n, ts, t, rfl, _⟩ := h
    rfl
  obtain ⟨R, p, as, n, ts, t, rfl, hR, hT, h0, hn, hti, hp, hts, hnd, htt, q⟩ := h
  show Run _ _ _ [some (.ref R), some (.ref p), some (.str t)] H
  refine run_ret (ev_blt call_sorted_strs T.sorted PyProof.Rows.boot_sorted (ea_cons (ev_op op_cat (ev_lst (ea_cons (ev_v 2 (ea_nil ⟨(by show 1 ≤ sizeLine; decide), fun l1 hl1 => ?_⟩)))))))
  have s1 := same_new hl1 (.lst [.str t])
  refine ev_comp (defScope s_round_by) NRb NRb' 1 (pi_list pe_ev) (ev_v 1 ⟨p, rfl, ⟨_, SqL.of (s1 _ _ hp)⟩, fun D hD => ?_⟩)
  have el1 : (upd H l1 (.lst [.str t])) l1 = some (.lst [.str t]) := upd_same
  generalize upd H l1 (.lst [.str t]) = H1 at s1 hD el1
  refine comp_listP (xs := ts.map V.str) (fun i σ' H' => (∃ v, σ' = [some (.ref R), some (.ref p), some (.str t)] ++ [v]) ∧ Same H1 H' ∧ H' D = some (Ls ((ts.take i).filter fun z => decide (InCut n ts z t)))) ⟨⟨_, rfl⟩, same_new hD _, upd_same⟩ ?_ ?_ ?_
  · rintro i σ' H' _ ⟨_, sm, _⟩
    exact SqL.of (sm _ _ (s1 _ _ hp))
  · rintro i x σ' H' hx ⟨⟨v, rfl⟩, sm, eD⟩
    rw [List.getElem?_map, Option.map_eq_some_iff] at hx
    obtain ⟨z, hz, rfl⟩ := hx
    have hi : i < ts.length := (List.getElem?_eq_some_iff.mp hz).1
    have etk : (ts.take (i + 1)).filter (fun z => decide (InCut n ts z t)) = (ts.take i).filter (fun z => decide (InCut n ts z t)) ++ (if InCut n ts z t then [z] else []) := by
      rw [List.take_add_one, hz, List.filter_append]
      congr 1
      by_cases hf : InCut n ts z t <;> simp [hf]
    rw [etk]
    have hlen : ((ts.take i).filter fun z => decide (InCut n ts z t)).length ≤ ts.length := Nat.le_trans (List.length_filter_le _ _) (by rw [List.length_take]; omega)
    have sH := s1.trans sm
    intro cl C' s₀ H₀ ex
    refine eg_name 3 nd_rb ?_
    intro cl C' s₀ H₀ ex
    refine ei_one (et_cmp op_in_seq (ev_v 2 (ev_call GB hr mB kB bB pass0 (ea_cons (ev_v 0 (ea_cons (ev_v 1 (ea_cons (ev_v 3 (ea_nil ⟨R, p, as, n, ts, z, rfl, hR.same sH, hT, h0, hn, hti, sH _ _ hp, hts, fun L2 cs H2 s2 n2 e2 so2 m2 => ⟨L2, _, rfl, .inl (SqL.of e2), rfl, flat_strs _, _, rfl, ?_⟩⟩))))))))))
    have fF : ∀ (x y : Bool), (if false = true then x else y) = y := fun _ _ => rfl
    rw [fF, inV_strs]
    have eD2 := s2 _ _ eD
    by_cases hc : InCut n ts z t
    · rw [if_pos (List.contains_iff_mem.mpr ((m2 t).mpr hc)), if_pos hc]
      intro cl C' s₀ H₀ ex
      refine ev_v 3 ⟨_, eD2, by rw [List.length_map]; exact small' (by omega), ⟨_, rfl⟩, same_mut (sm.trans s2) hD, ?_⟩
      rw [upd_same]
      show some (HO.lst (((ts.take i).filter fun z => decide (InCut n ts z t)).map V.str ++ [.str z])) = some (HO.lst ((((ts.take i).filter fun z => decide (InCut n ts z t)) ++ [z]).map V.str))
      rw [List.map_append]
      rfl
    · rw [if_neg (fun h => hc ((m2 t).mp (List.contains_iff_mem.mp h))), if_neg hc, List.append_nil]
      exact ⟨⟨_, rfl⟩, sm.trans s2, eD2⟩
  · rintro σ' H' ⟨_, sm, eD⟩
    rw [List.length_map, List.take_length] at eD
    have hfl := List.length_filter_le (fun z => decide (InCut n ts z t)) ts
    refine ⟨l1, D, _, _, rfl, rfl, sm _ _ el1, eD, ?_, fun l2 hl2 => ?_⟩
    · rw [List.length_map]
      show 1 + _ ≤ _
      exact small (by omega)
    have ee : ([.str t] : List V) ++ (ts.filter fun z => decide (InCut n ts z t)).map V.str = (t :: ts.filter fun z => decide (InCut n ts z t)).map V.str := rfl
    rw [ee]
    have ndz : (t :: ts.filter fun z => decide (InCut n ts z t)).Nodup := List.nodup_cons.mpr ⟨fun k => htt (List.mem_filter.mp k).1, hnd.filter _⟩
    have s3 := (s1.trans sm).trans (same_new hl2 (.lst ((t :: ts.filter fun z => decide (InCut n ts z t)).map V.str)))
    refine ea_nil ⟨l2, _, rfl, SqL.of upd_same, by rw [List.length_cons]; omega, fun l3 rs hl3 hpm hso => ?_⟩
    refine q l3 rs _ (s3.trans (same_new hl3 _)) (s3.free hl3) upd_same (srt_of hso (hpm.nodup_iff.mpr ndz)) fun z => ?_
    rw [hpm.mem_iff, List.mem_cons, List.mem_filter, decide_eq_true_iff]
end
end C6
namespace Nt
open PySem L2
open Classical
abbrev lmp (kvs : List (Key × V)) (r : Nat) : Option V := valV kvs (Sum.inl (r : Int))
structure TbI (n : Net) (lf ts : List Str) (kvs : List (Key × V)) : Prop where
  cnt : ts.length + cntR n ts = n.length
  nod : (ts ++ lf).Nodup
  mem : ∀ z ∈ ts ++ lf, z ∈ ties n
  don : ∀ z ∈ ties n, z ∉ lf → ∀ e, tieAt n e = some z → Rt n ts (nmA n e.1) (nmA n (other n e).1)
  lum : ∀ r s, r < n.length → s < n.length → (lmp kvs r = lmp kvs s ↔ Rt n ts (nmA n r) (nmA n s))
theorem TbI.start {n : Net} (Tw : Twice n) (hn : (n.map (·.1)).Nodup) {lf : List Str} (hlf : lf.Nodup) (hm : ∀ z, z ∈ lf ↔ z ∈ ties n) {kvs : List (Key × V)} (hk : ∀ r, r < n.length → lmp kvs r = some (.int (r : Int))) : TbI n lf [] kvs := by
  refine ⟨by rw [cnt_none Tw hn]; simp, hlf, fun z hz => (hm z).mp hz, fun z hz h => absurd ((hm z).mpr hz) h, fun r s hr hs => ?_⟩
  rw [hk r hr, hk s hs]
  constructor
  · intro h
    have := V.int.inj (Option.some.inj h)
    have : r = s := by omega
    rw [this]
    exact Rt.refl ..
  · intro h
    have := nmA_inj hn hr hs (h.none Tw)
    rw [this]
theorem TbI.skip {n : Net} (Tw : Twice n) {lf lf1 ts : List Str} {kvs : List (Key × V)} {z : Str} (I : TbI n lf ts kvs) (hp : lf.Perm (z :: lf1)) {e : End} (he : tieAt n e = some z) (h : lmp kvs e.1 = lmp kvs (other n e).1) : TbI n lf1 ts kvs := by
  have hr := (I.lum _ _ (row_lt he) (other_lt Tw he)).mp h
  have nd : (ts ++ z :: lf1).Nodup := (hp.append_left ts).nodup_iff.mp I.nod
  refine ⟨I.cnt, nd.sublist ((List.Sublist.refl ts).append (List.sublist_cons_self _ _)), fun y hy => I.mem y ?_, fun y hy hn e' he' => ?_, I.lum⟩
  · rcases List.mem_append.mp hy with q | q
    · exact List.mem_append_left _ q
    · exact List.mem_append_right _ (hp.mem_iff.mpr (List.mem_cons_of_mem _ q))
  · by_cases q : y = z
    · subst q
      rcases (tie_two Tw he).mp he' with k | k
      · subst k
        exact hr
      · subst k
        rw [(other_spec Tw he).2.1]
        exact hr.symm
    · exact I.don y hy (fun k => hn ((List.mem_cons.mp (hp.mem_iff.mp k)).resolve_left q)) e' he'
theorem TbI.take {n : Net} (Tw : Twice n) {lf lf1 ts : List Str} {kvs kvs' : List (Key × V)} {z : Str} (I : TbI n lf ts kvs) (hp : lf.Perm (z :: lf1)) {e : End} (he : tieAt n e = some z) {v1 v2 : V} (h1 : lmp kvs e.1 = some v1) (h2 : lmp kvs (other n e).1 = some v2) (hne : v1 ≠ v2)
    (hk : ∀ r, r < n.length → lmp kvs' r = if lmp kvs r = some v2 then some v1 else lmp kvs r) : TbI n lf1 (ts ++ [z]) kvs' := by
  have hnr : ¬ Rt n ts (nmA n e.1) (nmA n (other n e).1) := fun q => hne (by
    have := (I.lum _ _ (row_lt he) (other_lt Tw he)).mpr q
    rw [h1, h2] at this
    exact Option.some.inj this)
  have nd : (ts ++ z :: lf1).Nodup := (hp.append_left ts).nodup_iff.mp I.nod
  have c := cnt_add Tw he hnr
  refine ⟨?_, ?_, fun y hy => I.mem y ?_, fun y hy hn e' he' => ?_, fun r s hr hs => ?_⟩
  · have := I.cnt
    rw [List.length_append]
    show ts.length + 1 + _ = _
    omega
  · rw [List.append_assoc]
    exact nd
  · rcases List.mem_append.mp hy with q | q
    · rcases List.mem_append.mp q with q | q
      · exact List.mem_append_left _ q
      · exact List.mem_append_right _ (hp.mem_iff.mpr (by rw [List.mem_singleton.mp q]; exact List.mem_cons_self ..))
    · exact List.mem_append_right _ (hp.mem_iff.mpr (List.mem_cons_of_mem _ q))
  · by_cases q : y = z
    · subst q
      exact Rt.step he' (List.mem_append_right _ (List.mem_singleton.mpr rfl))
    · exact (I.don y hy (fun k => hn ((List.mem_cons.mp (hp.mem_iff.mp k)).resolve_left q)) e' he').mono Tw fun x hx => List.mem_append_left _ hx
  · have hP : ∀ r, r < n.length → (lmp kvs r = some v1 ↔ Rt n ts (nmA n r) (nmA n e.1)) := fun r hr => by rw [← h1]; exact I.lum r _ hr (row_lt he)
    have hQ : ∀ r, r < n.length → (lmp kvs r = some v2 ↔ Rt n ts (nmA n r) (nmA n (other n e).1)) := fun r hr => by rw [← h2]; exact I.lum r _ hr (other_lt Tw he)
    have up : ∀ {x y : Str}, Rt n ts x y → Rt n (ts ++ [z]) x y := fun h => h.mono Tw fun x hx => List.mem_append_left _ hx
    have st : Rt n (ts ++ [z]) (nmA n e.1) (nmA n (other n e).1) := Rt.step he (List.mem_append_right _ (List.mem_singleton.mpr rfl))
    rw [hk r hr, hk s hs]
    constructor
    · intro h
      by_cases q1 : lmp kvs r = some v2
      · by_cases q2 : lmp kvs s = some v2
        · exact up ((I.lum r s hr hs).mp (q1.trans q2.symm))
        · rw [if_pos q1, if_neg q2] at h
          exact ((up ((hQ r hr).mp q1)).trans st.symm).trans (up ((hP s hs).mp h.symm)).symm
      · by_cases q2 : lmp kvs s = some v2
        · rw [if_neg q1, if_pos q2] at h
          exact ((up ((hP r hr).mp h)).trans st).trans (up ((hQ s hs).mp q2)).symm
        · rw [if_neg q1, if_neg q2] at h
          exact up ((I.lum r s hr hs).mp h)
    · intro h
      rcases h.add Tw he with q | ⟨q1, q2⟩ | ⟨q1, q2⟩
      · rw [(I.lum r s hr hs).mpr q]
      · have a := (hP r hr).mpr q1
        have b := (hQ s hs).mpr q2.symm
        rw [if_pos b, a]
        split <;> rfl
      · have a := (hQ r hr).mpr q1
        have b := (hP s hs).mpr q2.symm
        rw [if_pos a, b]
        split <;> rfl
theorem TbI.whole {n : Net} (Tw : Twice n) (hg : Hang n) (h0 : 0 < n.length) {ts : List Str} {kvs : List (Key × V)} (I : TbI n [] ts kvs) : Tr n ts := by
  have all : ∀ x ∈ n.map (·.1), Rt n ts (fstN n) x := rt_hang Tw hg h0 fun e z he => I.don z (tie_mem he) (fun k => by cases k) e he
  have c := I.cnt
  rw [cnt_all h0 fun i hi => all _ (at_name hi)] at c
  exact ⟨I.nod.sublist (List.sublist_append_left _ _), fun z hz => I.mem z (List.mem_append_left _ hz), c, all⟩
theorem Tr.perm {n : Net} (Tw : Twice n) {a b : List Str} (h : Tr n a) (hp : b.Perm a) : Tr n b := ⟨hp.nodup_iff.mpr h.nod, fun z hz => h.mem z (hp.mem_iff.mp hz), by rw [hp.length_eq]; exact h.tree.1, fun x hx => (h.tree.2 x hx).mono Tw fun z hz => hp.mem_iff.mpr hz⟩
end Nt
namespace Nt
open PySem L2
open Classical
theorem xor_list (a b : List Str) (ha : a.Nodup) (hb : b.Nodup) : ∃ D : List Str, D.Nodup ∧ ∀ z, z ∈ D ↔ (if z ∈ a then z ∉ b else z ∈ b) := by
  refine ⟨(a.filter fun z => !decide (z ∈ b)) ++ (b.filter fun z => !decide (z ∈ a)), List.nodup_append.mpr ⟨ha.filter _, hb.filter _, fun x hx y hy e => ?_⟩, fun z => ?_⟩
  · rw [List.mem_filter] at hx hy
    subst e
    have := hy.2
    simp [hx.1] at this
  · rw [List.mem_append, List.mem_filter, List.mem_filter]
    by_cases q1 : z ∈ a <;> by_cases q2 : z ∈ b <;> simp [q1, q2]
theorem round_eq {n : Net} (Tw : Twice n) (hn : (n.map (·.1)).Nodup) (h0 : 0 < n.length) {T a b : List Str} (h : Tr n T) (ha : a.Nodup) (hb : b.Nodup) (ea : evenAt n a = true) (eb : evenAt n b = true) (hT : ∀ z, z ∉ T → (z ∈ a ↔ z ∈ b)) : ∀ z, z ∈ a ↔ z ∈ b := by
  obtain ⟨D, hD, mD⟩ := xor_list a b ha hb
  have eD := even_sum ea eb mD
  have DT : ∀ z ∈ D, z ∈ T := fun z hz => Classical.byContradiction fun k => by
    have := (mD z).mp hz
    have e := hT z k
    by_cases q : z ∈ a
    · rw [if_pos q] at this
      exact this (e.mp q)
    · rw [if_neg q] at this
      exact q (e.mpr this)
  have none : ∀ z, z ∉ D := fun z hz => by
    have hzT := DT z hz
    have hps : ∀ x, x ∈ (n.map (·.1)).filter (fun x => decide (Sd n T z x)) ↔ Sd n T z x := fun x => by
      rw [List.mem_filter, decide_eq_true_iff]
      refine ⟨fun k => k.2, fun k => ⟨?_, k⟩⟩
      exact k.ind Tw (P := fun x => x ∈ n.map (·.1)) (at_name h0) fun e y he _ _ => at_name (other_lt Tw he)
    have hc : ∀ y, y ∈ (ties n).filter (fun y => decide (IsCut n ((n.map (·.1)).filter fun x => decide (Sd n T z x)) y)) ↔ IsCut n ((n.map (·.1)).filter fun x => decide (Sd n T z x)) y := fun y => by
      rw [List.mem_filter, decide_eq_true_iff]
      exact ⟨fun k => k.2, fun k => ⟨cut_mem k, k⟩⟩
    have ev := round_cut Tw eD hD hc
    have one : D.filter (fun y => ((ties n).filter (fun y => decide (IsCut n ((n.map (·.1)).filter fun x => decide (Sd n T z x)) y))).contains y) = D.filter fun y => decide (y = z ∧ InCut n T z y) := List.filter_congr fun y hy => by
      rw [Bool.eq_iff_iff, List.contains_iff_mem, hc y, isCut_in hps, decide_eq_true_iff]
      constructor
      · intro k
        exact ⟨Classical.byContradiction fun q => inCut_tree Tw (DT y hy) q k, k⟩
      · rintro ⟨_, k⟩
        exact k
    rw [one, filter_one (fun y => InCut n T z y) z D hD hz, if_pos (inCut_self Tw hn h0 h hzT)] at ev
    cases ev
  intro z
  have := none z
  rw [mD z] at this
  by_cases q1 : z ∈ a <;> by_cases q2 : z ∈ b <;> simp [q1, q2] at this ⊢
theorem cut_eq {n : Net} (Tw : Twice n) {T a b : List Str} (h : Tr n T) (ha : CutS n a) (hb : CutS n b) (hT : ∀ z ∈ T, (z ∈ a ↔ z ∈ b)) : a = b := by
  obtain ⟨D0, _, m0⟩ := xor_list a b (srt_nodup ha.srt) (srt_nodup hb.srt)
  obtain ⟨D, sD, mD⟩ := srt_exists D0
  have mD : ∀ z, z ∈ D ↔ (if z ∈ a then z ∉ b else z ∈ b) := fun z => (mD z).trans (m0 z)
  have cD := cut_sum Tw ha hb sD mD
  obtain ⟨ps, hc⟩ := cD.cut
  have side : ∀ x ∈ n.map (·.1), (x ∈ ps ↔ fstN n ∈ ps) := fun x hx => (h.tree.2 x hx).ind Tw (P := fun x => x ∈ ps ↔ fstN n ∈ ps) Iff.rfl fun e z he hz ih => by
    have nc : ¬ IsCut n ps z := fun k => by
      have := (mD z).mp ((hc z).mpr k)
      have e := hT z hz
      by_cases q : z ∈ a
      · rw [if_pos q] at this
        exact this (e.mp q)
      · rw [if_neg q] at this
        exact q (e.mpr this)
    rw [cut_iff Tw he] at nc
    rw [← ih]
    by_cases q1 : nmA n e.1 ∈ ps <;> by_cases q2 : nmA n (other n e).1 ∈ ps <;> simp [q1, q2] at nc ⊢
  have none : ∀ z, z ∉ D := fun z hz => by
    obtain ⟨e, he, h1, h2⟩ := (hc z).mp hz
    exact h2 ((side _ (at_name (other_lt Tw he))).mpr ((side _ (at_name (row_lt he))).mp h1))
  refine srt_unique ha.srt hb.srt fun z => ?_
  have := none z
  rw [mD z] at this
  by_cases q1 : z ∈ a <;> by_cases q2 : z ∈ b <;> simp [q1, q2] at this ⊢
theorem count_xor {a b : List Str} (ha : a.Nodup) (hb : b.Nodup) (z : Str) : (a ++ b).count z = 1 ↔ (if z ∈ a then z ∉ b else z ∈ b) := by
  rw [List.count_append, ha.count, hb.count]
  by_cases q1 : z ∈ a <;> by_cases q2 : z ∈ b <;> simp [q1, q2]
end Nt
namespace C6
open PySem L2 Nt Sort2
open PyProof.Rows (sortedS)
open Classical
def spPts : Sp := fun vs H Q _ => ∃ (R : Addr) (as : List (Addr × Addr)) (n : Net) (b : Int), vs = [.ref R, .int b] ∧ RowsAt H R as n ∧ n.length ≤ 60 ∧ (n.map (·.1)).Nodup ∧
  ∀ l ps H', Same H H' → H l = none → H' l = some (Ls ps) → ps.length ≤ 60 → Srt ps → (∀ x ∈ ps, x ∈ n.map (·.1)) → Q (.ref l) H'
def spTreeBy : Sp := fun vs H Q _ => ∃ (R : Addr) (as : List (Addr × Addr)) (n : Net) (b : Int), vs = [.ref R, .int b] ∧ RowsAt H R as n ∧ Twice n ∧ Hang n ∧ (n.map (·.1)).Nodup ∧ 0 < n.length ∧ n.length ≤ 60 ∧ (ties n).length ≤ 48 ∧
  ∀ l ts H', Same H H' → H l = none → H' l = some (Ls ts) → Srt ts → Tr n ts → Q (.ref l) H'
theorem erase_map {α β : Type} (f : α → β) (l : List α) (k : Nat) : (l.map f).eraseIdx k = (l.eraseIdx k).map f := by
  refine List.ext_getElem? fun i => ?_
  rw [erase_at, List.getElem?_map, List.getElem?_map, List.getElem?_map, erase_at]
  split <;> rfl
theorem ix_nat {j m : Nat} (h : j < m) : seqIndex? (j : Int) m = some j := by
  unfold seqIndex?
  have c1 : ¬ ((j : Int) < 0) := by omega
  simp only [c1, if_false]
  have c2 : (decide (0 ≤ (j : Int)) && decide ((j : Int) < (m : Int))) = true := by
    rw [Bool.and_eq_true, decide_eq_true_eq, decide_eq_true_eq]
    omega
  rw [if_pos c2, Int.toNat_natCast]
def spRoundOf : Sp := fun vs H Q _ => ∃ (R : Addr) (as : List (Addr × Addr)) (n : Net) (b : Int), vs = [.ref R, .int b] ∧ RowsAt H R as n ∧ Twice n ∧ n.length ≤ 30 ∧ (ties n).length ≤ 48 ∧
  ∀ u l ss (b' : Int) H', Same H H' → H u = none → H' u = some (.tup [.ref l, .int b']) → H' l = some (Ls ss) → ss.length ≤ 50 → evenAt n ss = true → ss.Nodup → (∀ z ∈ ss, z ∈ ties n) → Srt ss → Q (.ref u) H'
structure RI (n : Net) (F : List Nt.End) (ss : List Str) : Prop where
  nodup : ss.Nodup
  srt : sortedS ss = true
  par : ∀ z, z ∈ ss ↔ hit n F z % 2 = 1
theorem RI.len {n : Net} {F : List Nt.End} {ss : List Str} (h : RI n F ss) : ss.length ≤ (ties n).length := by
  refine nodup_le h.nodup fun z hz => ?_
  have h1 := (h.par z).mp hz
  have h2 : F.filter (fun e => decide (tieAt n e = some z)) ≠ [] := by
    intro q
    unfold hit at h1
    rw [q] at h1
    cases h1
  obtain ⟨e, he⟩ := List.exists_mem_of_ne_nil _ h2
  exact tie_mem (of_decide_eq_true (List.mem_filter.mp he).2)
theorem RI.mem {n : Net} {F : List Nt.End} {ss : List Str} (h : RI n F ss) : ∀ z ∈ ss, z ∈ ties n := fun z hz => by
  have h1 := (h.par z).mp hz
  have h2 : F.filter (fun e => decide (tieAt n e = some z)) ≠ [] := by
    intro q
    unfold hit at h1
    rw [q] at h1
    cases h1
  obtain ⟨e, he⟩ := List.exists_mem_of_ne_nil _ h2
  exact tie_mem (of_decide_eq_true (List.mem_filter.mp he).2)
theorem RI.put {n : Net} {F : List Nt.End} {ss ss' : List Str} {e : Nt.End} {z : Str} (h : RI n F ss) (ht : tieAt n e = some z) (nd : ss'.Nodup) (so : sortedS ss' = true) (hm : ∀ y, y ∈ ss' ↔ (ss ++ [z]).count y = 1) : RI n (F ++ [e]) ss' := by
  refine ⟨nd, so, fun y => ?_⟩
  rw [hm y, hit_snoc, List.count_append, ht]
  have hp := h.par y
  have hc : ss.count y = if y ∈ ss then 1 else 0 := by
    by_cases hy : y ∈ ss
    · rw [if_pos hy]
      have h1 := List.count_pos_iff.mpr hy
      have h2 := List.nodup_iff_count.mp h.nodup y
      omega
    · rw [if_neg hy]
      exact List.count_eq_zero.mpr hy
  by_cases e : z = y
  · subst e
    rw [hc]
    have : [z].count z = 1 := by simp
    rw [this, if_pos rfl]
    by_cases hy : z ∈ ss
    · rw [if_pos hy]
      have := hp.mp hy
      omega
    · rw [if_neg hy]
      have : ¬ hit n F z % 2 = 1 := fun q => hy (hp.mpr q)
      omega
  · have h0 : [z].count y = 0 := by simp [e]
    have h1 : ¬ some z = some y := fun q => e (Option.some.inj q)
    rw [h0, if_neg h1, hc, Nat.add_zero, Nat.add_zero]
    by_cases hy : y ∈ ss
    · rw [if_pos hy]
      exact ⟨fun _ => hp.mp hy, fun _ => rfl⟩
    · rw [if_neg hy]
      exact ⟨fun q => (by omega), fun q => absurd (hp.mpr q) hy⟩
def KB (d : Addr) (H H' : Hp) : Prop := ∀ b o, b ≠ d → H b = some o → H' b = some o
def spSum : Sp := fun vs H Q _ => ∃ (a b : Addr) (xs ys : List Str), vs = [.ref a, .ref b] ∧ H a = some (Ls xs) ∧ H b = some (Ls ys) ∧ xs.length + ys.length ≤ 60 ∧
  ∀ l ss H', Same H H' → H l = none → H' l = some (Ls ss) → ss.Nodup → sortedS ss = true → (∀ z, z ∈ ss ↔ (xs ++ ys).count z = 1) → Q (.ref l) H'
section
variable {P : Program} {w : World} {K : PySem.W.Frag} {mg : Str → Option Value} {base : Heap}
theorem ev_dget2 {X : Cx} {o e f : Expr} {σ : St} {H : Hp} {Q : VK} {ap cp : Pos} (hu : X.A.units + 1 < cLine) (h : Ev X o σ H fun x H1 => ∃ a, x = .ref a ∧ IsD H1 a ∧ Ev X e σ H1 fun y H2 => Ev X f σ H2 fun z H3 => ∃ r, DGet H3 a y r ∧ Q (r.getD z) H3)
    (m : M2 X o "get" ap e f cp := by exact ⟨rfl, rfl, rfl, rfl⟩) : Ev X (.Call (.Attribute o "get" ap) [e, f] [] cp) σ H Q := ev_of (pe_dget2 hu pe_ev pe_ev pe_ev m) h
abbrev NSm : List Str := ["_law_one", "_law_other_here", "_law_count", "_law_tie"]
abbrev NSm' : List Str := ["_law_one", "_law_other_here", "_law_count", "?", "_law_tie"]
theorem scSum : FnScope NSm ["_law_one", "_law_other_here"] (defScope sSumD) := ⟨rfl, rfl, rfl, by decide +kernel, rfl, by decide +kernel, by decide +kernel⟩
theorem nd_sm : NSm'.Nodup := by decide +kernel
theorem ok_sum {f : Addr} {fd : FuncData} (F : Fun K "_law_sum" "_law_sum" sSumD f fd) (T : Txt mg) : FnOk P w K mg base CX0 1 f fd ["_law_one", "_law_other_here"] spSum := by
  refine F.go scSum (fun vs H Q E h => ?_) (fun cdv A outer s H vs Q E hr h => ?_)
  · obtain ⟨a, b, xs, ys, rfl, _⟩ := h
    rfl
  obtain ⟨a, b, xs, ys, rfl, ha, hb, hl, q⟩ := h
  have nd := scSum.nd
  have hu : (A.deeper (PyProof.Rows.envOfC "_law_sum" (defScope sSumD) s.heap.objs.size f cdv)).units + 1 < cLine := by have := hr.un; omega
  show Run _ _ _ [some (.ref a), some (.ref b), none, none] H
  refine run_set 2 nd (ev_dnewK fun d hd => ?_)
  have s1 := same_new hd (.dK [])
  refine run_forL (ev_op op_cat (ev_v 0 (ev_v 1 ⟨a, b, _, _, rfl, rfl, s1 _ _ ha, s1 _ _ hb, ?_, fun p hp => ⟨p, rfl, ⟨_, SqL.of upd_same⟩, ?_⟩⟩)))
  · rw [List.length_map, List.length_map]
    exact small (by omega)
  have npd : p ≠ d := by
    intro e
    rw [e, upd_same] at hp
    cases hp
  have hp0 : H p = none := by rw [upd_ne npd] at hp; exact hp
  have hS : Same H (upd H p (Ls (xs ++ ys))) := same_new hp0 _
  have eL : xs.map V.str ++ ys.map V.str = (xs ++ ys).map V.str := by rw [List.map_append]
  rw [eL]
  have hLl : (xs ++ ys).length ≤ 60 := by rw [List.length_append]; exact hl
  generalize xs ++ ys = L at hS q hLl ⊢
  refine loop_list (xs := L.map V.str) (fun i σ H3 => ∃ kvs ks u, CntOn (L.take i) kvs ks ∧ Same (upd H p (Ls L)) H3 ∧ H3 d = some (.dK kvs) ∧ σ = [some (.ref a), some (.ref b), some (.ref d), u]) ⟨[], [], _, CntOn.start, ?_, ?_, rfl⟩ ?_ ?_ ?_
  · intro c o hc
    by_cases e : c = p
    · subst e
      rw [upd_same] at hc ⊢
      exact hc
    · rw [upd_ne e] at hc ⊢
      rw [upd_ne (ne_of_none hc hd)]
      exact hc
  · rw [upd_ne (Ne.symm npd), upd_same]
  · rintro i σ H3 _ ⟨kvs, ks, u, C, sm, ed, rfl⟩
    exact SqL.of (sm _ _ upd_same)
  · rintro i x σ H3 hx ⟨kvs, ks, u, C, sm, ed, rfl⟩
    rw [List.getElem?_map, Option.map_eq_some_iff] at hx
    obtain ⟨z, hz, rfl⟩ := hx
    have hi : i < L.length := (List.getElem?_eq_some_iff.mp hz).1
    have hkl : kvs.length < sizeLine := by
      have := C.len
      rw [List.length_take] at this
      exact small' (by omega)
    refine eg_name 3 nd ?_
    refine run_dput hu (ev_op op_add (ev_dget2 hu (ev_v 2 ⟨d, rfl, .inl ⟨kvs, .inl ed⟩, ev_v 3 (ev_int ⟨_, DGet.k (k := Sum.inr z) ed, ?_⟩)⟩)))
    have eg : (valV kvs (Sum.inr z)).getD (.int 0) = .int ((L.take i).count z) := by
      rw [C.val z]
      by_cases hm : z ∈ L.take i
      · rw [if_pos hm]; rfl
      · rw [if_neg hm, List.count_eq_zero.mpr hm]; rfl
    rw [eg]
    obtain ⟨ks', C'⟩ := C.put z
    refine ev_int ⟨_, _, rfl, rfl, ev_v 2 (ev_v 3 ⟨d, _, rfl, DPut.k (k := Sum.inr z) ed hkl, run_nil ⟨_, ks', _, ?_, ?_, upd_same, rfl⟩⟩)⟩
    · rw [List.take_add_one, hz]
      exact C'
    · exact same_mut sm (by rw [upd_ne (Ne.symm npd)]; exact hd)
  · rintro σ H3 ⟨kvs, ks, u, C, sm, ed, rfl⟩
    rw [List.length_map, List.take_length] at C
    have hkl : ks.length ≤ 60 := by
      have e := congrArg List.length C.keys
      rw [List.length_map, List.length_map] at e
      have := C.len
      omega
    refine run_ret (ev_blt call_sorted_strs T.sorted PyProof.Rows.boot_sorted (ea_cons (ev_comp (defScope sSumD) NSm NSm' 1 (pi_dict pe_ev) (ev_v 2 ⟨d, kvs, rfl, ed, fun o D hD => ?_⟩))))
    have nD : D ≠ d := by
      intro e
      rw [e, upd_same] at hD
      cases hD
    have hD3 : H3 D = none := by rw [upd_ne nD] at hD; exact hD
    have key : ∀ (i : Nat) p, kvs[i]? = some p → ∃ z, ks[i]? = some z ∧ p.1 = Sum.inr z := fun i p hp => by
      have e : (kvs.map (·.1))[i]? = (ks.map Sum.inr)[i]? := by rw [C.keys]
      rw [List.getElem?_map, hp, List.getElem?_map] at e
      cases hk : ks[i]? with
      | none => rw [hk] at e; cases e
      | some z => rw [hk] at e; exact ⟨z, rfl, Option.some.inj e⟩
    have hkk : kvs.length = ks.length := by
      have e := congrArg List.length C.keys
      rw [List.length_map, List.length_map] at e
      exact e
    refine comp_dictP (fun i σ' H' => (∃ v, σ' = [some (.ref a), some (.ref b), some (.ref d), u] ++ [v]) ∧ H' = upd (upd H3 d (.frz o (.dK kvs))) D (Ls ((ks.take i).filter fun z => decide (L.count z = 1)))) ⟨⟨none, rfl⟩, rfl⟩ ?_ ?_ ?_
    · rintro i σ' H' _ ⟨_, rfl⟩
      rw [upd_ne (Ne.symm nD), upd_same]
    · rintro i p' σ' H' hp' ⟨⟨v, rfl⟩, rfl⟩
      obtain ⟨z, hz, ez⟩ := key i p' hp'
      rw [ez]
      intro cl C' s₀ H₀ ex
      refine eg_name 4 nd_sm ?_
      intro cl C' s₀ H₀ ex
      have hzL : z ∈ L := (C.mem z).mp (List.mem_of_getElem? hz)
      have ev : valV kvs (Sum.inr z) = some (.int (L.count z)) := by rw [C.val z, if_pos hzL]
      have dg : DGet (upd (upd H3 d (.frz o (.dK kvs))) D (Ls ((ks.take i).filter fun z => decide (L.count z = 1)))) d (kV (Sum.inr z)) (some (.int (L.count z))) := by
        rw [← ev]
        exact .inl ⟨kvs, Sum.inr z, .inr ⟨o, by rw [upd_ne (Ne.symm nD), upd_same]⟩, rfl, rfl⟩
      refine ei_one (et_cmp op_eq (ev_dget hu (ev_v 2 (ev_v 4 ⟨d, _, rfl, dg, ev_int ⟨rfl, _, rfl, ?_⟩⟩))))
      have e : (ks.take (i + 1)).filter (fun z => decide (L.count z = 1)) = (ks.take i).filter (fun z => decide (L.count z = 1)) ++ (if L.count z = 1 then [z] else []) := by
        rw [List.take_add_one, hz, List.filter_append]
        congr 1
        by_cases hf : L.count z = 1 <;> simp [hf]
      have hlen : ((ks.take i).filter (fun z => decide (L.count z = 1))).length ≤ ks.length := Nat.le_trans (List.length_filter_le _ _) (by rw [List.length_take]; omega)
      by_cases hf : L.count z = 1
      · rw [if_pos (decide_eq_true (by rw [hf]; rfl))]
        intro cl C' s₀ H₀ ex
        refine ev_v 4 ⟨_, upd_same, by rw [List.length_map]; exact small' (by omega), ⟨_, rfl⟩, ?_⟩
        rw [upd_upd, e, if_pos hf]
        exact ls_app
      · rw [if_neg (fun q => hf (by have := V.int.inj (of_decide_eq_true q); omega))]
        refine ⟨⟨_, rfl⟩, ?_⟩
        rw [e, if_neg hf, List.append_nil]
    · rintro σ' H' ⟨_, rfl⟩
      rw [hkk, List.take_length]
      refine ea_nil ⟨D, _, rfl, SqL.of upd_same, ?_, fun l ss hl' hp' hs' => ?_⟩
      · have := List.length_filter_le (fun z => decide (L.count z = 1)) ks
        omega
      have nlD : l ≠ D := fun e => by rw [e, upd_same] at hl'; cases hl'
      have nld : l ≠ d := fun e => by rw [e, upd_ne (Ne.symm nD), upd_same] at hl'; cases hl'
      have hl3 : H3 l = none := by rw [upd_ne nlD, upd_ne nld] at hl'; exact hl'
      have h3 : Same H H3 := hS.trans sm
      have hl0 : H l = none := by
        cases e : H l with
        | none => rfl
        | some v => rw [h3 _ _ e] at hl3; cases hl3
      have hD0 : H D = none := by
        cases e : H D with
        | none => rfl
        | some v => rw [h3 _ _ e] at hD3; cases hD3
      refine q l ss _ (fun c o' hc => ?_) hl0 upd_same (hp'.nodup_iff.mpr (C.nodup.filter _)) hs' fun z => ?_
      · rw [upd_ne (ne_of_none hc hl0), upd_ne (ne_of_none hc hD0), upd_ne (ne_of_none hc hd)]
        exact h3 _ _ hc
      · rw [hp'.mem_iff, List.mem_filter, C.mem z, decide_eq_true_eq]
        refine ⟨fun h => h.2, fun h => ⟨?_, h⟩⟩
        exact List.count_pos_iff.mp (by omega)
theorem keys_strs {kvs : List (Key × V)} {ks : List Str} (h : kvs.map (·.1) = ks.map Sum.inr) : (kvs.map fun p => kV p.1) = ks.map V.str := by
  have e : (kvs.map fun p => kV p.1) = (kvs.map (·.1)).map kV := by rw [List.map_map]; rfl
  rw [e, h, List.map_map]
  rfl
abbrev NPo : List Str := ["_law_rows", "_law_big_here", "_law_points", "_law_row"]
theorem scPts : FnScope NPo ["_law_rows", "_law_big_here"] (defScope s_l_points_of) := ⟨rfl, rfl, rfl, by decide +kernel, rfl, by decide +kernel, by decide +kernel⟩
theorem ok_pts {f : Addr} {fd : FuncData} (F : Fun K "_law_points_of" "_law_points_of" s_l_points_of f fd) (T : Txt mg) : FnOk P w K mg base CX0 1 f fd ["_law_rows", "_law_big_here"] spPts := by
  refine F.go scPts (fun vs H Q E h => ?_) (fun cdv A outer s H vs Q E hr h => ?_)
  · obtain ⟨R, as, n, b, rfl, _⟩ := h
    rfl
  obtain ⟨R, as, n, b, rfl, hR, h1, hnn, q⟩ := h
  have nd := scPts.nd
  have hal := hR.len
  show Run _ _ _ [some (.ref R), some (.int b), none, none] H
  refine run_set 2 nd (ev_lst (ea_nil ⟨(by show 0 ≤ sizeLine; decide), fun l2 hl2 => ?_⟩))
  have s2 := same_new hl2 (Ls [])
  show Run _ _ _ [some (.ref R), some (.int b), some (.ref l2), none] (upd H l2 (Ls []))
  have sU : ∀ tt : List Str, Same H (upd H l2 (Ls tt)) := fun tt => same_new hl2 _
  refine run_forL (ev_v 0 ⟨R, rfl, ⟨_, SqL.of (s2 _ _ hR.lst)⟩, loop_list (xs := as.map fun a => V.ref a.1) (fun i σ H3 => ∃ (bb : Int) (tt : List Str) (u : Option V), tt.Sublist ((n.map (·.1)).take i) ∧ H3 = upd H l2 (Ls tt) ∧ σ = [some (.ref R), some (.int bb), some (.ref l2), u]) ⟨b, [], _, List.nil_sublist _, rfl, rfl⟩ ?_ ?_ ?_⟩)
  · rintro i σ H3 _ ⟨bb, tt, u, hl, rfl, rfl⟩
    exact SqL.of (sU tt _ _ hR.lst)
  · rintro i x σ H3 hx ⟨bb, tt, u, hl, rfl, rfl⟩
    have hi : i < n.length := by
      have := (List.getElem?_eq_some_iff.mp hx).1
      rw [List.length_map] at this
      omega
    obtain ⟨a, ea, eat, et, el, er⟩ := (hR.same (sU tt)).at hi
    rw [List.getElem?_map, ea] at hx
    cases hx
    have etk : (n.map (·.1)).take (i + 1) = (n.map (·.1)).take i ++ [n[i].1] := by
      rw [List.take_add_one, List.getElem?_map, List.getElem?_eq_getElem hi]
      rfl
    have htl : tt.length ≤ i := Nat.le_trans hl.length_le (by rw [List.length_take]; omega)
    refine eg_name 3 nd ?_
    refine run_ifM True True (fun σ' H' => ∃ (tt : List Str), tt.Sublist ((n.map (·.1)).take (i + 1)) ∧ H' = upd H l2 (Ls tt) ∧ σ' = [some (.ref R), some (.int bb), some (.ref l2), some (.ref a.1)]) (fun T' qq => ?_) (fun _ => ?_) (fun _ => run_nil ⟨tt, by rw [etk]; exact hl.trans (List.sublist_append_left _ _), rfl, rfl⟩) ?_
    · exact et_cmp op_eq (ev_op op_mod (ev_v 1 (ev_int ⟨_, _, rfl, rfl, (by show (0 : Int) < 2; decide), ev_int ⟨rfl, _, rfl, qq _ (fun _ => trivial) fun _ => trivial⟩⟩)))
    · refine run_expr (ev_append (ev_v 2 ⟨l2, rfl, ⟨_, upd_same⟩, ev_ix ix_tup (ev_v 3 (ev_int ⟨a.1, _, _, .str n[i].1, rfl, rfl, SqT.of et, rfl, _, upd_same, ?_, ?_⟩))⟩))
      · rw [List.length_map]
        exact small' (by omega)
      · rw [upd_upd]
        refine run_nil ⟨tt ++ [n[i].1], by rw [etk]; exact hl.append (List.Sublist.refl _), ?_, rfl⟩
        exact ls_app
    · rintro σ' H' ⟨tt2, hl', rfl, rfl⟩
      exact run_set 1 nd (ev_op op_fdiv (ev_v 1 (ev_int ⟨_, _, rfl, rfl, ⟨by decide, by decide⟩, run_nil ⟨_, tt2, _, hl', rfl, rfl⟩⟩)))
  · rintro σ H3 ⟨bb, tt, u, hl, rfl, rfl⟩
    rw [List.length_map, hal, ← List.length_map (as := n) (f := (·.1)), List.take_length] at hl
    have htl := hl.length_le
    rw [List.length_map] at htl
    refine run_ret (ev_blt call_sorted_strs T.sorted PyProof.Rows.boot_sorted (ea_cons (ev_v 2 (ea_nil ⟨l2, tt, rfl, SqL.of upd_same, by omega, fun l ps hl3 hpm hso => ?_⟩))))
    have sA := (sU tt).trans (same_new hl3 (.lst (ps.map V.str)))
    refine q l ps _ sA ((sU tt).free hl3) upd_same (by rw [hpm.length_eq]; omega) (srt_of hso (hpm.nodup_iff.mpr (hnn.sublist hl))) fun x hx => hl.subset (hpm.mem_iff.mp hx)
abbrev NRo : List Str := ["_law_rows", "_law_big_here", "_law_seats_here", "_law_total", "_law_done", "_law_r", "_law_place", "_law_end"]
theorem scRo : FnScope NRo ["_law_rows", "_law_big_here"] (defScope sRoundOf) := ⟨rfl, rfl, rfl, by decide +kernel, rfl, by decide +kernel, by decide +kernel⟩
theorem ok_roundOf {f gS gF gM : Addr} {fd dS dF dM : FuncData} (F : Fun K "_law_round_of" "_law_round_of" sRoundOf f fd) (T : Txt mg)
    (GS : FnOk P w K mg base CX0 3 gS dS ["_law_rows"] spSeats) (bS : Binds K dS ["_law_rows"] []) (kS : PySem.W.keepIn K (.ref gS) = true) (mS : mg "_law_seats" = some (.ref gS))
    (GF : FnOk P w K mg base CX0 3 gF dF ["_law_rows", "_law_seats_here", "_law_end"] spFace) (bF : Binds K dF ["_law_rows", "_law_seats_here", "_law_end"] []) (kF : PySem.W.keepIn K (.ref gF) = true) (mF : mg "_law_face" = some (.ref gF))
    (GM : FnOk P w K mg base CX0 3 gM dM ["_law_one", "_law_other_here"] spSum) (bM : Binds K dM ["_law_one", "_law_other_here"] []) (kM : PySem.W.keepIn K (.ref gM) = true) (mM : mg "_law_sum" = some (.ref gM)) :
    FnOk P w K mg base CX0 4 f fd ["_law_rows", "_law_big_here"] spRoundOf := by
  refine F.go scRo (fun vs H Q E h => ?_) (fun cdv A outer s H vs Q E hr h => ?_)
  · obtain ⟨R, as, n, b, rfl, _⟩ := h
    rfl
  obtain ⟨R, as, n, b, rfl, hR, hT, hn, ht, q⟩ := h
  have nd := scRo.nd
  have hal := hR.len
  have hu : (A.deeper (PyProof.Rows.envOfC "_law_round_of" (defScope sRoundOf) s.heap.objs.size f cdv)).units + 1 < cLine := by have := hr.un; omega
  show Run _ _ _ [some (.ref R), some (.int b), none, none, none, none, none, none] H
  refine run_set 2 nd (ev_call GS hr mS kS bS pass0 (ea_cons (ev_v 0 (ea_nil ⟨R, as, n, rfl, hR, by omega, by omega, fun d ks H1 s1 n1 S1 => ?_⟩))))
  refine run_set 3 nd (ev_lst (ea_nil ⟨(by show 0 ≤ sizeLine; decide), fun l0 hl0 => ?_⟩))
  have s12 := same_new hl0 (Ls [])
  have e0 : (upd H1 l0 (Ls [])) l0 = some (Ls []) := upd_same
  show Run _ _ _ [some (.ref R), some (.int b), some (.ref d), some (.ref l0), none, none, none, none] (upd H1 l0 (Ls []))
  have sH2 : Same H (upd H1 l0 (Ls [])) := s1.trans s12
  have S2 := S1.same s12
  generalize upd H1 l0 (Ls []) = H2 at s12 e0 sH2 S2 ⊢
  have hR2 := hR.same sH2
  refine run_set 4 nd (ev_dnewT fun dn hdn => ?_)
  show Run _ _ _ [some (.ref R), some (.int b), some (.ref d), some (.ref l0), some (.ref dn), none, none, none] _
  have s23 := same_new hdn (.dT [])
  refine run_forR1 T.range (ev_blt call_len_seq T.len boot_len (ea_cons (ev_v 0 (ea_nil ⟨R, _, rfl, .inl (SqL.of (s23 _ _ hR2.lst)), _, rfl, by omega, by rw [List.length_map]; omega, ?_⟩))))
  rw [List.length_map, hal, Int.toNat_natCast]
  refine loop_range (fun r σ H' => ∃ (kvs : List (List Key × V)) (F : List Nt.End) (ss : List Str) (tl : Addr) (bb : Int) (u1 u2 u3 : Option V), Same H2 H' ∧ H' dn = some (.dT kvs) ∧ H' tl = some (Ls ss) ∧ Closed n F ∧ RI n F ss ∧ kvs.length ≤ r * 3000 ∧ σ = [some (.ref R), some (.int bb), some (.ref d), some (.ref tl), some (.ref dn), u1, u2, u3])
    ⟨[], [], [], l0, b, _, _, _, s23, upd_same, s23 _ _ e0, closed_nil n, ⟨List.nodup_nil, rfl, fun z => ⟨fun h => (by cases h), fun h => absurd h (by show ¬ ((0 : Nat) % 2 = 1); decide)⟩⟩, Nat.zero_le _, rfl⟩ ?_ ?_
  · rintro r σ H' hi ⟨kvs, F0, ss, tl, bb, u1, u2, u3, sm, ed, el0, C, I, hk, rfl⟩
    rw [Int.zero_add]
    refine eg_name 5 nd ?_
    obtain ⟨a, ea, eat, et, el, er⟩ := (hR2.same sm).at hi
    have hrl : (row n r).length ≤ 48 := Nat.le_trans (row_le n r) ht
    refine run_forR1 T.range (ev_blt call_len_seq T.len boot_len (ea_cons (ev_ix ix_tup (ev_ix ix_list (ev_v 0 (ev_v 5 ⟨R, _, _, .ref a.1, rfl, rfl, SqL.of (sm _ _ hR2.lst), eat, ev_int ⟨a.1, _, _, .ref a.2, rfl, rfl, SqT.of et, rfl, ea_nil ⟨a.2, _, rfl, .inl (SqL.of el), _, rfl, by omega, by rw [List.length_map]; omega, ?_⟩⟩⟩))))))
    rw [List.length_map, Int.toNat_natCast]
    refine loop_range (fun p σ H' => ∃ (kvs : List (List Key × V)) (F : List Nt.End) (ss : List Str) (tl : Addr) (bb : Int) (u2 u3 : Option V), Same H2 H' ∧ H' dn = some (.dT kvs) ∧ H' tl = some (Ls ss) ∧ Closed n F ∧ RI n F ss ∧ kvs.length ≤ r * 3000 + p * 60 ∧ σ = [some (.ref R), some (.int bb), some (.ref d), some (.ref tl), some (.ref dn), some (.int (r : Int)), u2, u3])
      ⟨kvs, F0, ss, tl, bb, _, _, sm, ed, el0, C, I, by omega, rfl⟩ ?_ ?_
    · clear hk ed el0 C I sm et el
      rintro p σ H' hp ⟨kvs, F0, ss, tl, bb, u2, u3, sm, ed, el0, C, I, hk, rfl⟩
      rw [Int.zero_add]
      refine eg_name 6 nd ?_
      have he : (r, p) ∈ ends n := mem_ends.mpr ⟨(row n r)[p], List.getElem?_eq_getElem hp⟩
      refine run_ifH (fun k H4 => ∃ t, H' t = none ∧ H4 = upd H' t (Tp (r, p))) (fun σ' H' => ∃ (kvs : List (List Key × V)) (F : List Nt.End) (ss : List Str) (tl : Addr) (bb : Int) (u2 u3 : Option V), Same H2 H' ∧ H' dn = some (.dT kvs) ∧ H' tl = some (Ls ss) ∧ Closed n F ∧ RI n F ss ∧ kvs.length ≤ r * 3000 + (p + 1) * 60 ∧ σ' = [some (.ref R), some (.int bb), some (.ref d), some (.ref tl), some (.ref dn), some (.int (r : Int)), u2, u3]) ?_ ?_ ?_ (fun σ' H' h => run_nil h)
      · refine et_dnotin hu (ev_tup (ea_cons (ev_v 5 (ea_cons (ev_v 6 (ea_nil ⟨(by show 2 ≤ sizeLine; decide), fun t ht' => ?_⟩))))))
        exact ev_v 4 ⟨dn, _, rfl, DGet.t (k := [Sum.inl (r : Int), Sum.inl (p : Int)]) (by rw [upd_ne (ne_of_none ed ht')]; exact ed) upd_same, t, ht', rfl⟩
      · rintro H4 ⟨t0, ht0, rfl⟩
        have s4 := same_new ht0 (Tp (r, p))
        generalize upd H' t0 (Tp (r, p)) = H4 at s4
        have sm4 := sm.trans s4
        refine run_forL (ev_call GF hr mF kF bF pass0 (ea_cons (ev_v 0 (ea_cons (ev_v 2 (ea_cons (ev_tup (ea_cons (ev_v 5 (ea_cons (ev_v 6 (ea_nil ⟨(by show 2 ≤ sizeLine; decide), fun t1 ht1 => ?_⟩))))))))))))
        have s5 := same_new ht1 (Tp (r, p))
        have sm5 := sm4.trans s5
        refine ea_nil ⟨R, d, t1, as, n, ks, (r, p), rfl, hR2.same sm5, S2.same sm5, hT, upd_same, he, by rw [ends_len]; omega, fun l ts fs H5 s6 n6 e6 P6 f6 => ?_⟩
        have sm6 := sm5.trans s6
        have s46 : Same H' H5 := (s4.trans s5).trans s6
        have ed5 := s46 _ _ ed
        have el5 := s46 _ _ el0
        have nldn : l ≠ dn := ne_of e6 ed5 fun z => nomatch z
        have hfl : fs.length ≤ 48 := Nat.le_trans f6.len (by rw [ends_len]; exact ht)
        have htl := P6.length
        refine ⟨l, rfl, ⟨_, SqL.of e6⟩, loop_list (xs := ts.map V.ref) (fun j σ' H'' => ∃ (kvs' : List (List Key × V)) (ss' : List Str) (tl' : Addr) (u3 : Option V), KB dn H5 H'' ∧ H'' dn = some (.dT kvs') ∧ H'' tl' = some (Ls ss') ∧ RI n (F0 ++ (if bb % 2 = 1 then fs.take j else [])) ss' ∧ kvs'.length ≤ kvs.length + j ∧ σ' = [some (.ref R), some (.int bb), some (.ref d), some (.ref tl'), some (.ref dn), some (.int (r : Int)), some (.int (p : Int)), u3])
          ⟨kvs, ss, tl, _, fun b o _ h => h, ed5, el5, ?_, Nat.le_refl _, rfl⟩ ?_ ?_ ?_⟩
        · have : (if bb % 2 = 1 then fs.take 0 else []) = [] := by split <;> simp
          rw [this, List.append_nil]
          exact I
        · rintro j σ' H'' _ ⟨kvs', ss', tl', u3, kb, _, _, _, _, rfl⟩
          exact SqL.of (kb _ _ nldn e6)
        · rintro j x σ' H'' hx ⟨kvs', ss', tl', u3, kb, ed'', el'', I'', hk'', rfl⟩
          rw [List.getElem?_map, Option.map_eq_some_iff] at hx
          obtain ⟨te, hte, rfl⟩ := hx
          have hj : j < fs.length := by
            have := (List.getElem?_eq_some_iff.mp hte).1
            omega
          have hfj : fs[j]? = some fs[j] := List.getElem?_eq_getElem hj
          obtain ⟨t', ht', et'⟩ := P6.at hfj
          have : te = t' := Option.some.inj (hte.symm.trans ht')
          subst this
          have hce : fs[j] ∈ ends n := f6.ends hT he _ (List.getElem_mem hj)
          obtain ⟨z, hz⟩ := mem_ends.mp hce
          have nted : te ≠ dn := ne_of et' ed5 fun z => nomatch z
          have ete := kb _ _ nted et'
          generalize hce2 : fs[j] = c at *
          refine eg_name 7 nd ?_
          refine run_dput hu (ev_bl (ev_v 4 (ev_v 7 ⟨dn, _, rfl, DPut.t (k := [Sum.inl (c.1 : Int), Sum.inl (c.2 : Int)]) ed'' ete (small' (by omega)), ?_⟩)))
          have hk3 : (putK kvs' [Sum.inl (c.1 : Int), Sum.inl (c.2 : Int)] (.bl true)).length ≤ kvs'.length + 1 := length_putK _ _ _
          generalize putK kvs' [Sum.inl (c.1 : Int), Sum.inl (c.2 : Int)] (V.bl true) = kvs3 at hk3
          have kb3 : KB dn H5 (upd H'' dn (.dT kvs3)) := fun b o hb h => by rw [upd_ne hb]; exact kb b o hb h
          have ntl : tl' ≠ dn := ne_of el'' ed'' fun z => nomatch z
          have el3 : (upd H'' dn (.dT kvs3)) tl' = some (Ls ss') := by rw [upd_ne ntl]; exact el''
          have ed3 : (upd H'' dn (.dT kvs3)) dn = some (.dT kvs3) := upd_same
          have ete3 : (upd H'' dn (.dT kvs3)) te = some (Tp c) := by rw [upd_ne nted]; exact ete
          generalize upd H'' dn (.dT kvs3) = H6 at kb3 el3 ed3 ete3
          have sm7 : Same H2 H6 := fun b o h => kb3 b o (ne_of_none h hdn) (sm6 _ _ h)
          refine run_ifM (bb % 2 = 1) (¬ bb % 2 = 1) (fun σ' H'' => ∃ (kvs' : List (List Key × V)) (ss' : List Str) (tl' : Addr) (u3 : Option V), KB dn H5 H'' ∧ H'' dn = some (.dT kvs') ∧ H'' tl' = some (Ls ss') ∧ RI n (F0 ++ (if bb % 2 = 1 then fs.take (j + 1) else [])) ss' ∧ kvs'.length ≤ kvs.length + (j + 1) ∧ σ' = [some (.ref R), some (.int bb), some (.ref d), some (.ref tl'), some (.ref dn), some (.int (r : Int)), some (.int (p : Int)), u3]) (fun T' qq => ?_) (fun hc => ?_) (fun hc => run_nil ⟨kvs3, ss', tl', _, kb3, ed3, el3, ?_, by omega, rfl⟩) (fun σ' H' h => run_nil h)
          · refine et_cmp op_eq (ev_op op_mod (ev_v 1 (ev_int ⟨_, _, rfl, rfl, (by show (0 : Int) < 2; decide), ev_int ⟨rfl, _, rfl, ?_⟩⟩)))
            by_cases hc : bb % 2 = 1
            · rw [decide_eq_true (show V.int (bb % 2) = V.int 1 by rw [hc])]
              exact qq true (fun _ => hc) fun h => by cases h
            · rw [decide_eq_false fun h => hc (V.int.inj h)]
              exact qq false (fun h => by cases h) fun _ => hc
          · obtain ⟨a2, ea2, eat2, et2, el2, er2⟩ := (hR2.same sm7).at (row_lt hz)
            refine run_set 3 nd (ev_call GM hr mM kM bM pass0 (ea_cons (ev_v 3 (ea_cons (ev_lst (ea_cons (ev_ix ix_list (ev_ix ix_tup (ev_ix ix_list (ev_v 0 (ev_ix ix_tup (ev_v 7 (ev_int ⟨te, _, _, .int (c.1 : Int), rfl, rfl, SqT.of ete3, rfl, R, _, _, .ref a2.1, rfl, rfl, SqL.of (sm7 _ _ hR2.lst), eat2, ev_int ⟨a2.1, _, _, .ref a2.2, rfl, rfl, SqT.of et2, rfl, ?_⟩⟩)))))))))))))
            refine ev_ix ix_tup (ev_v 7 (ev_int ⟨te, _, _, .int (c.2 : Int), rfl, rfl, SqT.of ete3, rfl, a2.2, _, _, .str z, rfl, rfl, SqL.of el2, at_strs hz, ea_nil ⟨(by show 1 ≤ sizeLine; decide), fun l7 hl7 => ?_⟩⟩))
            have s8 := same_new hl7 (.lst [.str z])
            have hsl : ss'.length ≤ 48 := Nat.le_trans I''.len ht
            refine ea_nil ⟨tl', l7, ss', [z], rfl, s8 _ _ el3, upd_same, by show ss'.length + 1 ≤ 60; omega, fun l8 ss8 H8 s9 n9 e9 nd9 so9 m9 => ?_⟩
            have s10 := s8.trans s9
            refine run_nil ⟨kvs3, ss8, l8, _, fun b o hb h => s10 _ _ (kb3 b o hb h), s10 _ _ ed3, e9, ?_, by omega, rfl⟩
            rw [if_pos hc] at I'' ⊢
            rw [List.take_add_one, hfj, ← List.append_assoc]
            exact I''.put hz nd9 so9 m9
          · rw [if_neg hc] at I'' ⊢
            exact I''
        · rintro σ' H'' ⟨kvs', ss', tl', u3, kb, ed'', el'', I'', hk'', rfl⟩
          refine run_set 1 nd (ev_op op_fdiv (ev_v 1 (ev_int ⟨_, _, rfl, rfl, ⟨by decide, by decide⟩, run_nil ⟨kvs', F0 ++ (if bb % 2 = 1 then fs else []), ss', tl', _, _, _, fun b o h => kb b o (ne_of_none h hdn) (sm6 _ _ h), ed'', el'', ?_, ?_, ?_, rfl⟩⟩)))
          · by_cases hc : bb % 2 = 1
            · rw [if_pos hc]
              exact closed_app hT C f6 he
            · rw [if_neg hc, List.append_nil]
              exact C
          · rw [List.length_map, htl, List.take_length] at I''
            exact I''
          · rw [List.length_map] at hk''
            omega
      · rintro H4 ⟨t0, ht0, rfl⟩
        have s4 := same_new ht0 (Tp (r, p))
        exact run_nil ⟨kvs, F0, ss, tl, bb, _, _, sm.trans s4, s4 _ _ ed, s4 _ _ el0, C, I, by omega, rfl⟩
    · rintro σ H' ⟨kvs, F0, ss, tl, bb, u2, u3, sm, ed, el0, C, I, hk, rfl⟩
      exact run_nil ⟨kvs, F0, ss, tl, bb, _, _, _, sm, ed, el0, C, I, by omega, rfl⟩
  · rintro σ H' ⟨kvs, F0, ss, tl, bb, u1, u2, u3, sm, ed, el0, C, I, hk, rfl⟩
    refine run_ret (ev_tup (ea_cons (ev_v 3 (ea_cons (ev_v 1 (ea_nil ⟨(by show 2 ≤ sizeLine; decide), fun u hu' => ?_⟩))))))
    have s9 := same_new hu' (.tup [.ref tl, .int bb])
    have sall := sH2.trans sm
    refine q u tl ss bb _ (sall.trans s9) (free_back sall hu') upd_same (s9 _ _ el0) (by have := I.len; omega) ?_ ?_ ?_ ?_
    · exact closed_even hT C fun z _ => I.par z
    · exact I.nodup
    · exact I.mem
    · exact srt_of I.srt I.nodup
abbrev NTb : List Str := ["_law_rows", "_law_big_here", "_law_seats_here", "_law_left", "_law_lump", "_law_r", "_law_tree", "_law_tie", "_law_one", "_law_other_here"]
theorem scTb : FnScope NTb ["_law_rows", "_law_big_here"] (defScope s_l_tree_by) := ⟨rfl, rfl, rfl, by decide +kernel, rfl, by decide +kernel, by decide +kernel⟩
theorem ok_treeBy {f gS : Addr} {fd dS : FuncData} (F : Fun K "_law_tree_by" "_law_tree_by" s_l_tree_by f fd) (T : Txt mg)
    (GS : FnOk P w K mg base CX0 2 gS dS ["_law_rows"] spSeats) (bS : Binds K dS ["_law_rows"] []) (kS : PySem.W.keepIn K (.ref gS) = true) (mS : mg "_law_seats" = some (.ref gS)) :
    FnOk P w K mg base CX0 3 f fd ["_law_rows", "_law_big_here"] spTreeBy := by
  refine F.go scTb (fun vs H Q E h => ?_) (fun cdv A outer s H vs Q E hr h => ?_)
  · obtain ⟨R, as, n, b, rfl, _⟩ := h
    rfl
  obtain ⟨R, as, n, b, rfl, hR, hT, hHg, hnn, h0, hn, hti, q⟩ := h
  have nd := scTb.nd
  have hu : (A.deeper (PyProof.Rows.envOfC "_law_tree_by" (defScope s_l_tree_by) s.heap.objs.size f cdv)).units + 100 < cLine := by have := hr.un; omega
  have hu1 : (A.deeper (PyProof.Rows.envOfC "_law_tree_by" (defScope s_l_tree_by) s.heap.objs.size f cdv)).units + 1 < cLine := by omega
  have hal := hR.len
  show Run _ _ _ [some (.ref R), some (.int b), none, none, none, none, none, none, none, none] H
  refine run_set 2 nd (ev_call GS hr mS kS bS pass0 (ea_cons (ev_v 0 (ea_nil ⟨R, as, n, rfl, hR, by omega, by omega, fun sd0 ks H1 s1 n1 S1 => ?_⟩))))
  obtain ⟨kv0, hk1, hk2, hk3⟩ := S1.dict
  have hkl : ks.length ≤ 48 := Nat.le_trans (nodup_le S1.nodup fun z hz => (S1.mem z).mp hz) hti
  refine run_set 3 nd (ev_blt call_sorted_strs T.sorted PyProof.Rows.boot_sorted (ea_cons (ev_typ (call_list_dict rfl) T.tlist PyProof.Rows.boot_list (ea_cons (ev_v 2 (ea_nil ⟨sd0, kv0, rfl, .inl hk1, fun l0 hl0 => ?_⟩))))))
  rw [keys_strs hk2]
  refine ea_nil ⟨l0, ks, rfl, SqL.of upd_same, by omega, fun Ll lf0 hLl hpm hso => ?_⟩
  have t1 := same_new hl0 (Ls ks)
  have t2 := same_new hLl (.lst (lf0.map V.str))
  have eL0 : (upd (upd H1 l0 (Ls ks)) Ll (.lst (lf0.map V.str))) Ll = some (Ls lf0) := upd_same
  have fLl : H1 Ll = none := t1.free hLl
  have sX := t1.trans t2
  have hlf0 : ∀ z ∈ lf0, z ∈ ties n := fun z hz => (S1.mem z).mp (hpm.mem_iff.mp hz)
  have llf0 : lf0.length ≤ 48 := by rw [hpm.length_eq]; exact hkl
  show Run _ _ _ [some (.ref R), some (.int b), some (.ref sd0), some (.ref Ll), none, none, none, none, none, none] (upd (upd H1 l0 (Ls ks)) Ll (.lst (lf0.map V.str)))
  generalize upd (upd H1 l0 (Ls ks)) Ll (.lst (lf0.map V.str)) = HX at sX eL0
  refine run_set 4 nd (ev_dnewK fun dl hdl => ?_)
  have fdl : H1 dl = none := sX.free hdl
  have nLd : Ll ≠ dl := ne_of_none eL0 hdl
  have sY := sX.trans (same_new hdl (.dK []))
  have hRY := (hR.same s1).same sY
  show Run _ _ _ [some (.ref R), some (.int b), some (.ref sd0), some (.ref Ll), some (.ref dl), none, none, none, none, none] (upd HX dl (.dK []))
  refine run_forR1 T.range (ev_blt call_len_seq T.len boot_len (ea_cons (ev_v 0 (ea_nil ⟨R, _, rfl, .inl (SqL.of hRY.lst), _, rfl, by omega, by rw [List.length_map]; omega, ?_⟩))))
  rw [List.length_map, hal, Int.toNat_natCast]
  refine loop_range (fun i σ H' => ∃ (kvs : List (Key × V)) (u : Option V), Same H1 H' ∧ H' Ll = some (Ls lf0) ∧ H' dl = some (.dK kvs) ∧ LmI i kvs ∧ (∀ r, r < i → lmp kvs r = some (.int (r : Int))) ∧ σ = [some (.ref R), some (.int b), some (.ref sd0), some (.ref Ll), some (.ref dl), u, none, none, none, none])
    ⟨[], _, sY, by rw [upd_ne nLd]; exact eL0, upd_same, LmI.start, fun r hr => absurd hr (Nat.not_lt_zero _), rfl⟩ ?_ ?_
  · rintro i σ H' hi ⟨kvs, u, sm, eL, ed, I, J, rfl⟩
    rw [Int.zero_add]
    have lk := I.len
    refine eg_name 5 nd ?_
    refine run_dput hu1 (ev_v 5 (ev_v 4 (ev_v 5 ⟨dl, _, rfl, DPut.k (k := Sum.inl (i : Int)) ed (small' (by omega)), run_nil ⟨_, _, same_mut sm fdl, ?_, upd_same, I.more _, fun r hr => ?_, rfl⟩⟩)))
    · rw [upd_ne nLd]
      exact eL
    · show valV _ _ = _
      rw [valV_put]
      by_cases k : r = i
      · rw [k, if_pos rfl]
      · rw [if_neg (inl_ne k)]
        exact J r (by omega)
  rintro σ HZ ⟨kvs, u, sZ, eL, ed, I, J, rfl⟩
  have J0 := TbI.start hT hnn (hpm.nodup_iff.mpr S1.nodup) (fun z => (hpm.mem_iff).trans (S1.mem z)) J
  refine run_set 6 nd (ev_lst (ea_nil ⟨(by show 0 ≤ sizeLine; decide), fun M hM => ?_⟩))
  have fM : H1 M = none := sZ.free hM
  have nML : M ≠ Ll := fun e => by rw [e, eL] at hM; cases hM
  have nMd : M ≠ dl := fun e => by rw [e, ed] at hM; cases hM
  have sM := same_new hM (Ls [])
  show Run _ _ _ [some (.ref R), some (.int b), some (.ref sd0), some (.ref Ll), some (.ref dl), u, some (.ref M), none, none, none] (upd HZ M (Ls []))
  refine run_while (fun m σ H' => ∃ (lf ts : List Str) (kvs : List (Key × V)) (bb : Int) (u5 u7 u8 u9 : Option V), Same H1 H' ∧ H' Ll = some (Ls lf) ∧ H' M = some (Ls ts) ∧ H' dl = some (.dK kvs) ∧ LmI n.length kvs ∧ TbI n lf ts kvs ∧ ts.length + lf.length ≤ 48 ∧ m = lf.length ∧
      σ = [some (.ref R), some (.int bb), some (.ref sd0), some (.ref Ll), some (.ref dl), u5, some (.ref M), u7, u8, u9]) (m0 := lf0.length)
    ⟨lf0, [], kvs, b, _, _, _, _, sZ.trans sM, sM _ _ eL, upd_same, sM _ _ ed, I, J0, by show 0 + _ ≤ _; omega, rfl, rfl⟩ ?_
  clear eL ed I sM sZ hM J J0
  rintro m σ H2 ⟨lf, ts, kvs, bb, u5, u7, u8, u9, s2, eL, eM, ed, I, J, hlen, rfl, rfl⟩
  refine et_cmp (op_neD hu) (ev_v 3 (ev_lst (ea_nil ⟨(by show 0 ≤ sizeLine; decide), fun pe hpe => ?_⟩)))
  have se := same_new hpe (.lst [])
  have s2 := s2.trans se
  have eL := se _ _ eL
  have eM := se _ _ eM
  have ed := se _ _ ed
  have epe : (upd H2 pe (.lst [])) pe = some (.lst []) := upd_same
  generalize upd H2 pe (.lst []) = H3 at s2 ed eM eL epe ⊢
  by_cases hz0 : lf = []
  · subst hz0
    refine ⟨1, _, by decide, rnD_list (k := 0) (xs := []) (ys := []) (fun _ => true) (SqL.of eL) (SqL.of epe) rfl (fun j x y hx _ => by simp at hx), _, rfl, iteF ?_⟩
    have : ts.length ≤ 48 := by have : ts.length + 0 ≤ 48 := hlen; omega
    refine run_ret (ev_blt call_sorted_strs T.sorted PyProof.Rows.boot_sorted (ea_cons (ev_v 6 (ea_nil ⟨M, ts, rfl, SqL.of eM, by omega, fun l ts' hl hp' hs' => ?_⟩))))
    have s13 := s1.trans s2
    exact q l ts' _ (s13.trans (same_new hl _)) (s13.free hl) upd_same (srt_of hs' (hp'.nodup_iff.mpr (J.whole hT hHg h0).nod)) ((J.whole hT hHg h0).perm hT hp')
  have hpos : 0 < lf.length := List.length_pos_iff.mpr hz0
  refine ⟨1, _, by decide, rnD_lens (k := 1) (SqL.of eL) (SqL.of (xs := []) epe) (by rw [List.length_map]; exact Nat.ne_of_gt hpos), _, rfl, iteT ?_⟩
  have r0 : 0 ≤ bb % (lf.length : Int) := Int.emod_nonneg _ (by omega)
  have r1 : bb % (lf.length : Int) < lf.length := Int.emod_lt_of_pos _ (by omega)
  obtain ⟨j, hj⟩ : ∃ k : Nat, bb % (lf.length : Int) = k := ⟨(bb % (lf.length : Int)).toNat, by omega⟩
  have hjn : j < lf.length := by omega
  refine run_set 7 nd (ev_m1 PySem.F.plainAttrs_list PySem.F.slot_list_pop PySem.F.type_list_pop mt_popAt (ev_v 3 ⟨ty_lst eL, ev_op op_mod (ev_v 1 (ev_blt call_len_seq T.len boot_len (ea_cons (ev_v 3 (ea_nil ⟨Ll, _, rfl, .inl (SqL.of eL), ?_⟩)))))⟩))
  rw [List.length_map]
  refine ⟨_, _, rfl, rfl, by omega, Ll, _, _, j, .str lf[j], rfl, rfl, eL, by rw [hj]; omega, by rw [hj]; omega, by rw [hj, List.length_map]; exact ix_nat hjn, by rw [List.getElem?_map, List.getElem?_eq_getElem hjn]; rfl, ?_⟩
  rw [erase_map]
  have hzt : lf[j] ∈ ties n := J.mem _ (List.mem_append_right _ (List.getElem_mem hjn))
  have hpr : lf.Perm (lf[j] :: lf.eraseIdx j) := (SetT.pick_perm lf j hjn).symm
  have lel : (lf.eraseIdx j).length = lf.length - 1 := by rw [List.length_eraseIdx, if_pos hjn]
  generalize lf[j] = z at hzt hpr
  generalize lf.eraseIdx j = lf1 at hpr lel
  have s4 : Same H1 (upd H3 Ll (.lst (lf1.map V.str))) := same_mut s2 fLl
  have eL4 : (upd H3 Ll (.lst (lf1.map V.str))) Ll = some (Ls lf1) := upd_same
  have eM4 : (upd H3 Ll (.lst (lf1.map V.str))) M = some (Ls ts) := by rw [upd_ne nML]; exact eM
  have ed4 : (upd H3 Ll (.lst (lf1.map V.str))) dl = some (.dK kvs) := by rw [upd_ne (Ne.symm nLd)]; exact ed
  show Run _ _ _ [some (.ref R), some (.int bb), some (.ref sd0), some (.ref Ll), some (.ref dl), u5, some (.ref M), some (.str z), u8, u9] (upd H3 Ll (.lst (lf1.map V.str)))
  generalize upd H3 Ll (.lst (lf1.map V.str)) = H4 at s4 eL4 eM4 ed4
  refine run_set 1 nd (ev_op op_fdiv (ev_v 1 (ev_op op_add (ev_blt call_len_seq T.len boot_len (ea_cons (ev_v 3 (ea_nil ⟨Ll, _, rfl, .inl (SqL.of eL4), ev_int ⟨_, _, rfl, rfl, ?_⟩⟩)))))))
  rw [List.length_map]
  refine ⟨_, _, rfl, rfl, ⟨by omega, by omega⟩, ?_⟩
  show Run _ _ _ [some (.ref R), some (.int (bb / ((lf1.length : Int) + 1))), some (.ref sd0), some (.ref Ll), some (.ref dl), u5, some (.ref M), some (.str z), u8, u9] H4
  generalize bb / ((lf1.length : Int) + 1) = bb2
  obtain ⟨ar, tts, hv, har, hpd⟩ := hk3 z hzt
  obtain ⟨e0, he0⟩ : ∃ e, e ∈ pos n z := by
    cases hp : pos n z with
    | nil => exact absurd hp (ties_pos.mp hzt)
    | cons a r => exact ⟨a, List.mem_cons_self ..⟩
  obtain ⟨x, y, hxy, hneq, _⟩ := pos_two hT (mem_pos.mp he0)
  have hxt : tieAt n x = some z := mem_pos.mp (by rw [hxy]; exact List.mem_cons_self ..)
  have hyt : tieAt n y = some z := mem_pos.mp (by rw [hxy]; simp)
  have hyo : y = other n x := ((tie_two hT hxt).mp hyt).resolve_left fun k => hneq k.symm
  have hxl : x.1 < n.length := row_lt (mem_pos.mp (show x ∈ pos n z by rw [hxy]; exact List.mem_cons_self ..))
  have hyl : y.1 < n.length := row_lt (mem_pos.mp (show y ∈ pos n z by rw [hxy]; simp))
  rw [hxy] at hpd
  obtain ⟨ta, hta, eta⟩ := hpd.at (i := 0) (e := x) rfl
  obtain ⟨tb, htb, etb⟩ := hpd.at (i := 1) (e := y) rfl
  obtain ⟨v1, hv1⟩ := I.val x.1 hxl
  obtain ⟨v2, hv2⟩ := I.val y.1 hyl
  have har4 := s4 _ _ har
  refine run_set 8 nd (ev_dget hu1 (ev_v 4 (ev_ix ix_tup (ev_ix ix_list (ev_dget hu1 (ev_v 2 (ev_v 7 ⟨sd0, .ref ar, rfl, by rw [← hv]; exact DGet.k (k := Sum.inr z) (s4 _ _ hk1), ev_int ⟨ar, _, _, .ref ta, rfl, rfl, SqL.of har4, at_refs hta, ev_int ⟨ta, _, _, .int (x.1 : Int), rfl, rfl, SqT.of (s4 _ _ eta), rfl, dl, .int v1, rfl, by rw [← hv1]; exact DGet.k (k := Sum.inl (x.1 : Int)) ed4, ?_⟩⟩⟩)))))))
  refine run_set 9 nd (ev_dget hu1 (ev_v 4 (ev_ix ix_tup (ev_ix ix_list (ev_dget hu1 (ev_v 2 (ev_v 7 ⟨sd0, .ref ar, rfl, by rw [← hv]; exact DGet.k (k := Sum.inr z) (s4 _ _ hk1), ev_int ⟨ar, _, _, .ref tb, rfl, rfl, SqL.of har4, at_refs htb, ev_int ⟨tb, _, _, .int (y.1 : Int), rfl, rfl, SqT.of (s4 _ _ etb), rfl, dl, .int v2, rfl, by rw [← hv2]; exact DGet.k (k := Sum.inl (y.1 : Int)) ed4, ?_⟩⟩⟩)))))))
  show Run _ _ _ [some (.ref R), some (.int bb2), some (.ref sd0), some (.ref Ll), some (.ref dl), u5, some (.ref M), some (.str z), some (.int v1), some (.int v2)] H4
  have hle : lf1.length < lf.length := by omega
  refine run_if (et_cmp op_ne (ev_v 8 (ev_v 9 ⟨rfl, _, rfl, ?_⟩)))
  by_cases hvv : v1 = v2
  · rw [decide_eq_true (by rw [hvv])]
    exact iteF (run_nil (run_nil ⟨_, hle, lf1, ts, kvs, bb2, _, _, _, _, s4, eL4, eM4, ed4, I, J.skip hT hpr hxt (by rw [← hyo]; exact hv1.trans (by rw [hvv]; exact hv2.symm)), by omega, rfl, rfl⟩))
  rw [decide_eq_false fun k => hvv (V.int.inj k)]
  refine iteT ?_
  refine run_expr (ev_append (ev_v 6 ⟨M, rfl, ⟨_, eM4⟩, ev_v 7 ⟨_, eM4, by rw [List.length_map]; exact small' (by omega), ?_⟩⟩))
  rw [ls_app]
  have s5 : Same H1 (upd H4 M (Ls (ts ++ [z]))) := same_mut s4 fM
  have eL5 : (upd H4 M (Ls (ts ++ [z]))) Ll = some (Ls lf1) := by rw [upd_ne (Ne.symm nML)]; exact eL4
  have eM5 : (upd H4 M (Ls (ts ++ [z]))) M = some (Ls (ts ++ [z])) := upd_same
  have ed5 : (upd H4 M (Ls (ts ++ [z]))) dl = some (.dK kvs) := by rw [upd_ne (Ne.symm nMd)]; exact ed4
  generalize upd H4 M (Ls (ts ++ [z])) = H5 at s5 eL5 eM5 ed5
  have ekl : (kvs.map fun p => kV p.1) = (List.range n.length).map fun (r : Nat) => V.int (r : Int) := by
    have e : (kvs.map fun p => kV p.1) = (kvs.map (·.1)).map kV := by rw [List.map_map]; rfl
    rw [e, I.keys, List.map_map]
    rfl
  refine run_forL (ev_typ (call_list_dict rfl) T.tlist PyProof.Rows.boot_list (ea_cons (ev_v 4 (ea_nil ⟨dl, kvs, rfl, .inl ed5, fun lk hlk => ⟨lk, rfl, ⟨_, SqL.of upd_same⟩, ?_⟩⟩))))
  rw [ekl]
  have s6 := same_new hlk (.lst ((List.range n.length).map fun (r : Nat) => V.int (r : Int)))
  have elk : (upd H5 lk (.lst ((List.range n.length).map fun (r : Nat) => V.int (r : Int)))) lk = some (.lst ((List.range n.length).map fun (r : Nat) => V.int (r : Int))) := upd_same
  have nkd : lk ≠ dl := fun e => by rw [e, ed5] at hlk; cases hlk
  generalize hkv0 : kvs = kvs0 at *
  refine loop_list (xs := (List.range n.length).map fun (r : Nat) => V.int (r : Int)) (fun i σ H' => ∃ (kvs : List (Key × V)) (u5 : Option V), Same H1 H' ∧ H' Ll = some (Ls lf1) ∧ H' M = some (Ls (ts ++ [z])) ∧ H' dl = some (.dK kvs) ∧ H' lk = some (.lst ((List.range n.length).map fun (r : Nat) => V.int (r : Int))) ∧ LmI n.length kvs ∧ (∀ r, r < n.length → lmp kvs r = if r < i ∧ lmp kvs0 r = some (.int v2) then some (.int v1) else lmp kvs0 r) ∧
      σ = [some (.ref R), some (.int bb2), some (.ref sd0), some (.ref Ll), some (.ref dl), u5, some (.ref M), some (.str z), some (.int v1), some (.int v2)])
    ⟨kvs0, _, s5.trans s6, s6 _ _ eL5, s6 _ _ eM5, s6 _ _ ed5, elk, I, fun r _ => by rw [if_neg (fun k => absurd k.1 (Nat.not_lt_zero _))], rfl⟩ ?_ ?_ ?_
  · rintro i σ H' _ ⟨_, _, _, _, _, _, e, _⟩
    exact SqL.of e
  · rintro i x' σ H' hx ⟨kvs, u5, sm, eL, eM, ed, elk, I, RL, rfl⟩
    have hi : i < n.length := by
      have := (List.getElem?_eq_some_iff.mp hx).1
      rw [List.length_map, List.length_range] at this
      exact this
    rw [List.getElem?_map, List.getElem?_range hi] at hx
    cases hx
    obtain ⟨v, hv⟩ := I.val i hi
    have lk2 := I.len
    refine eg_name 5 nd ?_
    refine run_if (et_cmp op_eq (ev_dget hu1 (ev_v 4 (ev_v 5 ⟨dl, .int v, rfl, by rw [← hv]; exact DGet.k (k := Sum.inl (i : Int)) ed, ev_v 9 ⟨rfl, _, rfl, ?_⟩⟩))))
    have hvi : lmp kvs0 i = some (.int v) := by
      have := RL i hi
      rw [if_neg (fun k => absurd k.1 (Nat.lt_irrefl _))] at this
      rw [← this]
      exact hv
    by_cases hvv2 : v = v2
    · rw [decide_eq_true (by rw [hvv2])]
      refine iteT ?_
      refine run_dput hu1 (ev_v 8 (ev_v 4 (ev_v 5 ⟨dl, _, rfl, DPut.k (k := Sum.inl (i : Int)) ed (small' (by omega)), run_nil (run_nil ⟨_, _, same_mut sm fdl, ?_, ?_, upd_same, ?_, I.put hi v1, fun r hr => ?_, rfl⟩)⟩)))
      · rw [upd_ne nLd]
        exact eL
      · rw [upd_ne nMd]
        exact eM
      · rw [upd_ne nkd]
        exact elk
      · show valV _ _ = _
        rw [valV_put]
        by_cases k : r = i
        · subst k
          rw [if_pos rfl, if_pos ⟨Nat.lt_succ_self _, by rw [hvi, hvv2]⟩]
        · rw [if_neg (inl_ne k)]
          have := RL r hr
          show lmp kvs r = _
          rw [this]
          by_cases k2 : r < i ∧ lmp kvs0 r = some (.int v2)
          · rw [if_pos k2, if_pos ⟨by omega, k2.2⟩]
          · rw [if_neg k2, if_neg (fun k3 => k2 ⟨by omega, k3.2⟩)]
    · rw [decide_eq_false fun k => hvv2 (V.int.inj k)]
      refine iteF (run_nil (run_nil ⟨kvs, _, sm, eL, eM, ed, elk, I, fun r hr => ?_, rfl⟩))
      rw [RL r hr]
      by_cases k2 : r < i ∧ lmp kvs0 r = some (.int v2)
      · rw [if_pos k2, if_pos ⟨by omega, k2.2⟩]
      · rw [if_neg k2, if_neg (fun k3 => k2 ⟨by
          by_cases k : r = i
          · subst k
            rw [hvi] at k3
            exact absurd (V.int.inj (Option.some.inj k3.2)) hvv2
          · omega, k3.2⟩)]
  · rintro σ H' ⟨kvs, u5, sm, eL, eM, ed, elk, I, RL, rfl⟩
    rw [List.length_map, List.length_range] at RL
    refine run_nil (run_nil ⟨_, hle, lf1, ts ++ [z], kvs, bb2, _, _, _, _, sm, eL, eM, ed, I, ?_, ?_, rfl, rfl⟩)
    · refine J.take hT hpr hxt hv1 (by rw [← hyo]; exact hv2) (fun k => hvv (V.int.inj k)) fun r hr => ?_
      rw [RL r hr]
      by_cases k : lmp kvs0 r = some (.int v2)
      · rw [if_pos ⟨hr, k⟩, if_pos k]
      · rw [if_neg (fun k2 => k k2.2), if_neg k]
    · rw [List.length_append]
      show ts.length + 1 + lf1.length ≤ 48
      omega
end
end C6
namespace C6
open PySem L2 Nt Sort2
open PyProof.Rows (sortedS)
open Classical
def spLaw (K : PySem.W.Frag) : Sp := fun vs H Q _ => ∃ (a : Addr) (ns : List Int), vs = [.ref a] ∧ SqL K H a (ns.map V.int) ∧ ns.length ≤ 63 ∧ ∀ H', Q (.bl true) H'
structure MdR (n : Net) (ts ms dn : List Str) : Prop where
  srt : Srt ms
  mem : ∀ z ∈ ms, z ∈ ties n
  ev : evenAt n ms = true
  out : ∀ z, z ∉ ts → (z ∈ ms ↔ z ∈ dn)
structure MdC (n : Net) (ts ms dn : List Str) : Prop where
  cut : CutS n ms
  out : ∀ z ∈ ts, (z ∈ ms ↔ z ∈ dn)
theorem even_nil (n : Net) : evenAt n [] = true := even_iff.mpr fun r _ => by
  have : (r.2.filter fun z => ([] : List Str).contains z) = [] := List.filter_eq_nil_iff.mpr fun z _ k => by simp at k
  rw [this]
  rfl
theorem cut_nil (n : Net) : CutS n [] := ⟨List.Pairwise.nil, [], fun z => ⟨fun k => (by cases k), fun ⟨e, _, k, _⟩ => (by cases k)⟩⟩
theorem MdR.put {n : Net} (hT : Twice n) (hnn : (n.map (·.1)).Nodup) (h0 : 0 < n.length) {ts ms dn rs ss : List Str} {z : Str} (tr : Tr n ts) (I : MdR n ts ms dn) (hz : z ∉ ts) (hzt : z ∈ ties n) (hzd : z ∉ dn) (so : Srt rs) (m : ∀ y, y ∈ rs ↔ y = z ∨ (y ∈ ts ∧ InCut n ts y z)) (ss1 : ss.Nodup) (ss2 : sortedS ss = true) (ss3 : ∀ y, y ∈ ss ↔ (ms ++ rs).count y = 1) : MdR n ts ss (dn ++ [z]) := by
  have x := fun y => (ss3 y).trans (count_xor (srt_nodup I.srt) (srt_nodup so) y)
  have re := round_by hT hnn h0 tr hz hzt (srt_nodup so) m
  have rm : ∀ y ∈ rs, y ∈ ties n := fun y hy => by
    rcases (m y).mp hy with k | k
    · rw [k]
      exact hzt
    · exact tr.mem y k.1
  refine ⟨srt_of ss2 ss1, fun y hy => ?_, even_sum I.ev re x, fun y hy => ?_⟩
  · have := (x y).mp hy
    by_cases k : y ∈ ms
    · exact I.mem y k
    · rw [if_neg k] at this
      exact rm y this
  · have ry : y ∈ rs ↔ y = z := (m y).trans ⟨fun k => k.resolve_right fun k2 => hy k2.1, .inl⟩
    rw [x y, ry, List.mem_append, List.mem_singleton, ← I.out y hy]
    by_cases k : y ∈ ms
    · rw [if_pos k]
      refine ⟨fun _ => .inl k, fun _ e => hzd ?_⟩
      rw [← e]
      exact (I.out y hy).mp k
    · rw [if_neg k]
      exact ⟨.inr, fun k2 => k2.resolve_left k⟩
theorem MdR.skip {n : Net} {ts ms dn : List Str} {z : Str} (I : MdR n ts ms dn) (hz : z ∈ ts) : MdR n ts ms (dn ++ [z]) :=
  ⟨I.srt, I.mem, I.ev, fun y hy => by
    rw [I.out y hy, List.mem_append, List.mem_singleton]
    exact ⟨.inl, fun k => k.resolve_right fun e => hy (e ▸ hz)⟩⟩
theorem MdC.put {n : Net} (hT : Twice n) (hnn : (n.map (·.1)).Nodup) (h0 : 0 < n.length) {ts ms dn cs ss : List Str} {z : Str} (tr : Tr n ts) (I : MdC n ts ms dn) (hz : z ∈ ts) (hzd : z ∉ dn) (so : Srt cs) (m : ∀ y, y ∈ cs ↔ InCut n ts z y) (ss1 : ss.Nodup) (ss2 : sortedS ss = true) (ss3 : ∀ y, y ∈ ss ↔ (ms ++ cs).count y = 1) : MdC n ts ss (dn ++ [z]) := by
  have x := fun y => (ss3 y).trans (count_xor (srt_nodup I.cut.srt) (srt_nodup so) y)
  have cc : CutS n cs := by
    refine ⟨so, (n.map (·.1)).filter (fun x => decide (Sd n ts z x)), fun y => ?_⟩
    rw [m y]
    refine (isCut_in (fun x => ?_) y).symm
    rw [List.mem_filter, decide_eq_true_iff]
    exact ⟨fun k => k.2, fun k => ⟨rt_name hT (Nt.at_name h0) k, k⟩⟩
  refine ⟨cut_sum hT I.cut cc (srt_of ss2 ss1) x, fun y hy => ?_⟩
  have ry : y ∈ cs ↔ y = z := (m y).trans ⟨fun k => Classical.byContradiction fun q => inCut_tree hT hy q k, fun e => by rw [e]; exact inCut_self hT hnn h0 tr hz⟩
  rw [x y, ry, List.mem_append, List.mem_singleton, ← I.out y hy]
  by_cases k : y ∈ ms
  · rw [if_pos k]
    refine ⟨fun _ => .inl k, fun _ e => hzd ?_⟩
    rw [← e]
    exact (I.out y hy).mp k
  · rw [if_neg k]
    exact ⟨.inr, fun k2 => k2.resolve_left k⟩
theorem MdC.skip {n : Net} {ts ms dn : List Str} {z : Str} (I : MdC n ts ms dn) (hz : z ∉ ts) : MdC n ts ms (dn ++ [z]) :=
  ⟨I.cut, fun y hy => by
    rw [I.out y hy, List.mem_append, List.mem_singleton]
    exact ⟨.inl, fun k => k.resolve_right fun e => hz (e ▸ hy)⟩⟩
theorem not_take {l : List Str} (hn : l.Nodup) {i : Nat} {z : Str} (h : l[i]? = some z) : z ∉ l.take i := fun k => by
  obtain ⟨j, hj⟩ := List.getElem?_of_mem k
  have hji : j < i := by
    have := (List.getElem?_eq_some_iff.mp hj).1
    rw [List.length_take] at this
    omega
  rw [List.getElem?_take_of_lt hji] at hj
  obtain ⟨h1, e1⟩ := List.getElem?_eq_some_iff.mp h
  obtain ⟨h2, e2⟩ := List.getElem?_eq_some_iff.mp hj
  exact (List.pairwise_iff_getElem.mp (List.nodup_iff_pairwise_ne.mp hn)) j i h2 h1 hji (by rw [e1, e2])
section
variable {P : Program} {w : World} {K : PySem.W.Frag} {mg : Str → Option Value} {base : Heap}
abbrev NLw : List Str := ["_law_script", "_law_rows", "_law_tree", "_law_total", "_law_big_here", "_law_cut", "_law_made", "_law_tie"]
theorem scLaw : FnScope NLw ["_law_script"] (defScope sLaw) := ⟨rfl, rfl, rfl, by decide +kernel, rfl, by decide +kernel, by decide +kernel⟩
theorem ok_law {f fC fB fN fT fO fY fP fU fM fV fW : Addr} {fd dC dB dN dT dO dY dP dU dM dV dW : FuncData} (F : Fun K "law" "law" sLaw f fd) (T : Txt mg)
    (GC : FnOk P w K mg base CX0 5 fC dC ["_law_script", "_law_k"] (spCell K)) (bC : Binds K dC ["_law_script", "_law_k"] []) (kC : PySem.W.keepIn K (.ref fC) = true) (mC : mg "_law_cell_at" = some (.ref fC))
    (GB : FnOk P w K mg base CX0 5 fB dB ["_law_script", "_law_at"] (spBig K)) (bB : Binds K dB ["_law_script", "_law_at"] []) (kB : PySem.W.keepIn K (.ref fB) = true) (mB : mg "_law_big" = some (.ref fB))
    (GN : FnOk P w K mg base CX0 5 fN dN ["_law_big_here", "_law_most", "_law_stem"] spNet) (bN : Binds K dN ["_law_big_here", "_law_most", "_law_stem"] []) (kN : PySem.W.keepIn K (.ref fN) = true) (mN : mg "_law_net_by" = some (.ref fN))
    (GT : FnOk P w K mg base CX0 5 fT dT ["_law_rows", "_law_big_here"] spTreeBy) (bT : Binds K dT ["_law_rows", "_law_big_here"] []) (kT : PySem.W.keepIn K (.ref fT) = true) (mT : mg "_law_tree_by" = some (.ref fT))
    (GO : FnOk P w K mg base CX0 5 fO dO ["_law_rows", "_law_big_here"] spRoundOf) (bO : Binds K dO ["_law_rows", "_law_big_here"] []) (kO : PySem.W.keepIn K (.ref fO) = true) (mO : mg "_law_round_of" = some (.ref fO))
    (GY : FnOk P w K mg base CX0 5 fY dY ["_law_rows"] spCopy) (bY : Binds K dY ["_law_rows"] []) (kY : PySem.W.keepIn K (.ref fY) = true) (mY : mg "_law_copy" = some (.ref fY))
    (GP : FnOk P w K mg base CX0 5 fP dP ["_law_rows", "_law_big_here"] spPts) (bP : Binds K dP ["_law_rows", "_law_big_here"] []) (kP : PySem.W.keepIn K (.ref fP) = true) (mP : mg "_law_points_of" = some (.ref fP))
    (GU : FnOk P w K mg base CX0 5 fU dU ["rows", "points"] spCutOf) (bU : Binds K dU ["rows", "points"] []) (kU : PySem.W.keepIn K (.ref fU) = true) (mU : mg "cut_of" = some (.ref fU))
    (GM : FnOk P w K mg base CX0 5 fM dM ["_law_one", "_law_other_here"] spSum) (bM : Binds K dM ["_law_one", "_law_other_here"] []) (kM : PySem.W.keepIn K (.ref fM) = true) (mM : mg "_law_sum" = some (.ref fM))
    (GV : FnOk P w K mg base CX0 5 fV dV ["rows", "tree", "tie"] spRoundBy) (bV : Binds K dV ["rows", "tree", "tie"] []) (kV' : PySem.W.keepIn K (.ref fV) = true) (mV : mg "round_by" = some (.ref fV))
    (GW : FnOk P w K mg base CX0 5 fW dW ["rows", "tree", "tie"] spCutBy) (bW : Binds K dW ["rows", "tree", "tie"] []) (kW : PySem.W.keepIn K (.ref fW) = true) (mW : mg "cut_by" = some (.ref fW)) :
    FnOk P w K mg base CX0 6 f fd ["_law_script"] (spLaw K) := by
  refine F.go scLaw (fun vs H Q E h => ?_) (fun cdv A outer s H vs Q E hr h => ?_)
  · obtain ⟨a, ns, rfl, _⟩ := h
    rfl
  obtain ⟨a, ns, rfl, hS, h63, q⟩ := h
  have nd := scLaw.nd
  have hu : (A.deeper (PyProof.Rows.envOfC "law" (defScope sLaw) s.heap.objs.size f cdv)).units + 100 < cLine := by have := hr.un; omega
  show Run _ _ _ [some (.ref a), none, none, none, none, none, none, none] H
  refine run_set 1 nd (ev_call GN hr mN kN bN pass0 (ea_cons (ev_call GB hr mB kB bB pass0 (ea_cons (ev_v 0 (ea_cons (ev_int (ea_nil ⟨a, ns, 0, rfl, hS, by decide, fun b1 H1 s1 => ?_⟩))))))))
  refine ea_cons (ev_int (ea_cons (ev_call GC hr mC kC bC pass0 (ea_cons (ev_v 0 (ea_cons (ev_int (ea_nil ⟨a, ns, 1, rfl, s1.seq hS, by decide, fun c2 => ?_⟩))))))))
  refine ea_nil ⟨b1, 20, c2, rfl, by decide, by decide, fun R as n H2 s2 n2 hR hT hnn hF hHg hti hnl has => ?_⟩
  have e24 : ((20 : Int)).toNat = 20 := rfl
  rw [e24] at hti hnl
  have h0 : 0 < n.length := List.length_pos_iff.mpr hF.some
  have sH2 : Same H H2 := s1.trans s2
  show Run _ _ _ [some (.ref a), some (.ref R), none, none, none, none, none, none] H2
  refine run_set 2 nd (ev_call GT hr mT kT bT pass0 (ea_cons (ev_v 1 (ea_cons (ev_call GB hr mB kB bB pass0 (ea_cons (ev_v 0 (ea_cons (ev_int (ea_nil ⟨a, ns, 2, rfl, sH2.seq hS, by decide, fun b3 H3 s3 => ?_⟩))))))))))
  refine ea_nil ⟨R, as, n, b3, rfl, hR.same s3, hT, hHg, hnn, h0, by omega, by omega, fun Lt ts H4 s4 n4 e4 so4 tr => ?_⟩
  have lts := nodup_le tr.nod tr.mem
  have hR4 := (hR.same s3).same s4
  have sH4 := (sH2.trans s3).trans s4
  show Run _ _ _ [some (.ref a), some (.ref R), some (.ref Lt), none, none, none, none, none] H4
  refine run_asg (ev_call GO hr mO kO bO pass0 (ea_cons (ev_v 1 (ea_cons (ev_call GB hr mB kB bB pass0 (ea_cons (ev_v 0 (ea_cons (ev_int (ea_nil ⟨a, ns, 3, rfl, sH4.seq hS, by decide, fun b5 H5 s5 => ?_⟩))))))))))
  refine ea_nil ⟨R, as, n, b5, rfl, hR4.same s5, hT, by omega, by omega, fun u La tt b6 H6 s6 n6 e6 ea6 la va da ma sa => ?_⟩
  refine eg_pair rfl (SqT.of e6) (eg_name 3 nd (eg_name 4 nd ?_))
  show Run _ _ _ [some (.ref a), some (.ref R), some (.ref Lt), some (.ref La), some (.int b6), none, none, none] H6
  have s46 := s5.trans s6
  have sH6 := sH4.trans s46
  have hR6 := hR4.same s46
  refine run_set 5 nd (ev_call GU hr mU kU bU pass0 (ea_cons (ev_call GY hr mY kY bY pass0 (ea_cons (ev_v 1 (ea_nil ⟨R, as, n, rfl, hR6, by omega, fun Lh bs H7 s7 n7 f7 hL7 => ?_⟩))))))
  refine ea_cons (ev_call GP hr mP kP bP pass0 (ea_cons (ev_v 1 (ea_cons (ev_call GB hr mB kB bB pass0 (ea_cons (ev_v 0 (ea_cons (ev_int (ea_nil ⟨a, ns, 4, rfl, (sH6.trans s7).seq hS, by decide, fun b8 H8 s8 => ?_⟩))))))))))
  refine ea_nil ⟨R, as, n, b8, rfl, (hR6.same s7).same s8, by omega, hnn, fun lp ps H9 s9 n9 e9 l9 so9 m9 => ?_⟩
  refine ea_nil ⟨Lh, lp, bs, n, ps, rfl, (hL7.same s8).same s9, hT, by omega, by omega, e9, fun Lc cc H10 s10 n10 e10 so10 m10 l10 => ?_⟩
  have s610 := ((s7.trans s8).trans s9).trans s10
  have hR10 := hR6.same s610
  have ea10 := s610 _ _ ea6
  have et10 := s610 _ _ (s46 _ _ e4)
  have hcm : ∀ z ∈ cc, z ∈ ties n := fun z hz => cut_mem ((m10 z).mp hz)
  refine run_set 6 nd (ev_lst (ea_nil ⟨(by show 0 ≤ sizeLine; decide), fun M1 hM1 => ?_⟩))
  have s11 := same_new hM1 (Ls [])
  have eM1 : (upd H10 M1 (Ls [])) M1 = some (Ls []) := upd_same
  show Run _ _ _ [some (.ref a), some (.ref R), some (.ref Lt), some (.ref La), some (.int b6), some (.ref Lc), some (.ref M1), none] (upd H10 M1 (Ls []))
  have hR11 := hR10.same s11
  have ea11 := s11 _ _ ea10
  have et11 := s11 _ _ et10
  have ec11 := s11 _ _ e10
  generalize upd H10 M1 (Ls []) = H11 at s11 eM1 hR11 ea11 et11 ec11
  refine run_forL (ev_v 3 ⟨La, rfl, ⟨_, SqL.of ea11⟩, loop_list (xs := tt.map V.str) (fun i σ' H' => Same H11 H' ∧ ∃ Lm ms u, H' Lm = some (Ls ms) ∧ MdR n ts ms (tt.take i) ∧ σ' = [some (.ref a), some (.ref R), some (.ref Lt), some (.ref La), some (.int b6), some (.ref Lc), some (.ref Lm), u])
    ⟨Same.refl _, M1, [], _, eM1, ⟨List.Pairwise.nil, fun z hz => (by cases hz), even_nil n, fun z _ => Iff.rfl⟩, rfl⟩ ?_ ?_ ?_⟩)
  · rintro i σ' H' _ ⟨sm, _⟩
    exact SqL.of (sm _ _ ea11)
  · rintro i x σ' H' hx ⟨sm, Lm, ms, u, em, I, rfl⟩
    rw [List.getElem?_map, Option.map_eq_some_iff] at hx
    obtain ⟨z, hz, rfl⟩ := hx
    have hzt : z ∈ ties n := ma z (List.mem_of_getElem? hz)
    have etk : tt.take (i + 1) = tt.take i ++ [z] := by rw [List.take_add_one, hz]; rfl
    have hzd := not_take da hz
    have lms := half_len hT (srt_nodup I.srt) I.mem
    rw [etk]
    refine eg_name 7 nd ?_
    refine run_ifH (fun k H2 => H2 = H' ∧ (k = true ↔ z ∉ ts)) (fun σ' H' => Same H11 H' ∧ ∃ Lm ms u, H' Lm = some (Ls ms) ∧ MdR n ts ms (tt.take i ++ [z]) ∧ σ' = [some (.ref a), some (.ref R), some (.ref Lt), some (.ref La), some (.int b6), some (.ref Lc), some (.ref Lm), u]) ?_ ?_ ?_ (fun σ' H' h => run_nil h)
    · refine et_cmp op_notIn_seq (ev_v 7 (ev_v 2 ⟨Lt, _, rfl, .inl (SqL.of (sm _ _ et11)), rfl, flat_strs _, _, rfl, rfl, ?_⟩))
      have fT : ∀ (x y : Bool), (if true = true then x else y) = x := fun _ _ => rfl
      rw [fT, inV_strs, Bool.not_eq_true', ← Bool.not_eq_true, List.contains_iff_mem]
    · rintro H2 ⟨rfl, hk⟩
      have hzs := hk.mp rfl
      refine run_set 6 nd (ev_call GM hr mM kM bM pass0 (ea_cons (ev_v 6 (ea_cons (ev_call GV hr mV kV' bV pass0 (ea_cons (ev_call GY hr mY kY bY pass0 (ea_cons (ev_v 1 (ea_nil ⟨R, as, n, rfl, hR11.same sm, by omega, fun Lx bx H12 s12 n12 f12 hL12 => ?_⟩))))))))))
      refine ea_cons (ev_typ call_list_of T.tlist PyProof.Rows.boot_list (ea_cons (ev_v 2 (ea_nil ⟨Lt, _, rfl, .inl (SqL.of ((sm.trans s12) _ _ et11)), fun Ly hLy => ?_⟩))))
      have s13 := same_new hLy (Ls ts)
      refine ea_cons (ev_v 7 (ea_nil ⟨Lx, Ly, bx, n, ts, z, rfl, hL12.same s13, hT, h0, by omega, by omega, upd_same, by omega, tr.nod, hzs, fun Lz rs H14 s14 n14 e14 so14 m14 => ?_⟩))
      have lrs := half_len hT (srt_nodup so14) fun y hy => by
        rcases (m14 y).mp hy with k | k
        · rw [k]
          exact hzt
        · exact tr.mem y k.1
      have s24 := (s12.trans s13).trans s14
      refine ea_nil ⟨Lm, Lz, ms, rs, rfl, s24 _ _ em, e14, by omega, fun Lw ss H15 s15 n15 e15 nd15 so15 m15 => ?_⟩
      exact run_nil ⟨(sm.trans s24).trans s15, Lw, ss, _, e15, I.put hT hnn h0 tr hzs hzt hzd so14 m14 nd15 so15 m15, rfl⟩
    · rintro H2 ⟨rfl, hk⟩
      have hzs : z ∈ ts := Classical.byContradiction fun k => by have := hk.mpr k; cases this
      exact run_nil ⟨sm, Lm, ms, _, em, I.skip hzs, rfl⟩
  rintro σ' H12 ⟨s12, Lm, ms, u, em, I, rfl⟩
  rw [List.length_map, List.take_length] at I
  have ems : ms = tt := srt_unique I.srt sa (round_eq hT hnn h0 tr (srt_nodup I.srt) da I.ev va I.out)
  subst ems
  refine run_if (et_cmp (op_neD hu) (ev_v 6 (ev_v 3 ⟨1, true, by omega, rnD_strs em (s12 _ _ ea11), _, rfl, iteF (run_nil ?_)⟩)))
  refine run_set 6 nd (ev_lst (ea_nil ⟨(by show 0 ≤ sizeLine; decide), fun M2 hM2 => ?_⟩))
  have s13 := same_new hM2 (Ls [])
  have eM2 : (upd H12 M2 (Ls [])) M2 = some (Ls []) := upd_same
  show Run _ _ _ [some (.ref a), some (.ref R), some (.ref Lt), some (.ref La), some (.int b6), some (.ref Lc), some (.ref M2), u] (upd H12 M2 (Ls []))
  have s1113 := s12.trans s13
  have hR13 := hR11.same s1113
  have et13 := s1113 _ _ et11
  have ec13 := s1113 _ _ ec11
  generalize upd H12 M2 (Ls []) = H13 at s13 eM2 hR13 et13 ec13
  refine run_forL (ev_v 5 ⟨Lc, rfl, ⟨_, SqL.of ec13⟩, loop_list (xs := cc.map V.str) (fun i σ' H' => Same H13 H' ∧ ∃ Lm ms u, H' Lm = some (Ls ms) ∧ MdC n ts ms (cc.take i) ∧ σ' = [some (.ref a), some (.ref R), some (.ref Lt), some (.ref La), some (.int b6), some (.ref Lc), some (.ref Lm), u])
    ⟨Same.refl _, M2, [], _, eM2, ⟨cut_nil n, fun z _ => Iff.rfl⟩, rfl⟩ ?_ ?_ ?_⟩)
  · rintro i σ' H' _ ⟨sm, _⟩
    exact SqL.of (sm _ _ ec13)
  · clear em I
    rintro i x σ' H' hx ⟨sm, Lm, ms, u, em, I, rfl⟩
    rw [List.getElem?_map, Option.map_eq_some_iff] at hx
    obtain ⟨z, hz, rfl⟩ := hx
    have etk : cc.take (i + 1) = cc.take i ++ [z] := by rw [List.take_add_one, hz]; rfl
    have hzd := not_take (srt_nodup so10) hz
    have lms : 2 * ms.length ≤ (ties n).length := by
      obtain ⟨ps', hc'⟩ := I.cut.cut
      exact half_len hT (srt_nodup I.cut.srt) fun y hy => cut_mem ((hc' y).mp hy)
    rw [etk]
    refine eg_name 7 nd ?_
    refine run_ifH (fun k H2 => H2 = H' ∧ (k = true ↔ z ∈ ts)) (fun σ' H' => Same H13 H' ∧ ∃ Lm ms u, H' Lm = some (Ls ms) ∧ MdC n ts ms (cc.take i ++ [z]) ∧ σ' = [some (.ref a), some (.ref R), some (.ref Lt), some (.ref La), some (.int b6), some (.ref Lc), some (.ref Lm), u]) ?_ ?_ ?_ (fun σ' H' h => run_nil h)
    · refine et_cmp op_in_seq (ev_v 7 (ev_v 2 ⟨Lt, _, rfl, .inl (SqL.of (sm _ _ et13)), rfl, flat_strs _, _, rfl, rfl, ?_⟩))
      have fF : ∀ (x y : Bool), (if false = true then x else y) = y := fun _ _ => rfl
      rw [fF, inV_strs, List.contains_iff_mem]
    · rintro H2 ⟨rfl, hk⟩
      have hzs := hk.mp rfl
      refine run_set 6 nd (ev_call GM hr mM kM bM pass0 (ea_cons (ev_v 6 (ea_cons (ev_call GW hr mW kW bW pass0 (ea_cons (ev_call GY hr mY kY bY pass0 (ea_cons (ev_v 1 (ea_nil ⟨R, as, n, rfl, hR13.same sm, by omega, fun Lx bx H14 s14 n14 f14 hL14 => ?_⟩))))))))))
      refine ea_cons (ev_typ call_list_of T.tlist PyProof.Rows.boot_list (ea_cons (ev_v 2 (ea_nil ⟨Lt, _, rfl, .inl (SqL.of ((sm.trans s14) _ _ et13)), fun Ly hLy => ?_⟩))))
      have s15 := same_new hLy (Ls ts)
      refine ea_cons (ev_v 7 (ea_nil ⟨Lx, Ly, bx, n, ts, z, rfl, hL14.same s15, hT, h0, by omega, by omega, upd_same, by omega, fun Lz rs H16 s16 n16 e16 so16 m16 => ?_⟩))
      have lrs := half_len hT (srt_nodup so16) fun y hy => by
        obtain ⟨e, he, _⟩ := (m16 y).mp hy
        exact tie_mem he
      have s26 := (s14.trans s15).trans s16
      refine ea_nil ⟨Lm, Lz, ms, rs, rfl, s26 _ _ em, e16, by omega, fun Lw ss H17 s17 n17 e17 nd17 so17 m17 => ?_⟩
      exact run_nil ⟨(sm.trans s26).trans s17, Lw, ss, _, e17, I.put hT hnn h0 tr hzs hzd so16 m16 nd17 so17 m17, rfl⟩
    · rintro H2 ⟨rfl, hk⟩
      have hzs : z ∉ ts := fun k => by have := hk.mpr k; cases this
      exact run_nil ⟨sm, Lm, ms, _, em, I.skip hzs, rfl⟩
  · clear em I
    rintro σ' H' ⟨sm, Lm, ms, u, em, I, rfl⟩
    rw [List.length_map, List.take_length] at I
    have ems : ms = cc := cut_eq hT tr I.cut ⟨so10, ps, m10⟩ I.out
    subst ems
    refine run_ret (ev_cmp (op_eqD hu) (ev_v 6 (ev_v 5 ⟨1, true, by omega, rcD_strs em (sm _ _ ec13), ?_⟩)))
    exact q H'
end
end C6
namespace C6
open PySem L2
theorem all_mk {l : PySem.W.OpenLaw} {w : World} {K : PySem.W.Frag} {h : Heap} {mg : Str → Option Value} {fa f1 f2 f3 f4 f5 f6 f7 f8 f9 f10 f11 f12 f13 f14 f15 f16 f17 f18 f19 f20 f21 : Addr} (X : K.In h) (G : h.Ns mainGlobals mg) (hfa : mg "law" = some (.ref fa))
    {od1 an1 od2 an2 od3 an3 od4 an4 od5 an5 od6 an6 od7 an7 od8 an8 od9 an9 od10 an10 od11 an11 od12 an12 od13 an13 od14 an14 od15 an15 od16 an16 od17 an17 od18 an18 od19 an19 od20 an20 od21 an21 : Option Addr} {sl1 sl2 sl3 sl4 sl5 sl6 sl7 sl8 sl9 sl10 sl11 sl12 sl13 sl14 sl15 sl16 sl17 sl18 sl19 sl20 sl21 : Array (Option Value)} {oc1 kV1 dc1 pm1 cd1 ct1 oc2 kV2 dc2 pm2 cd2 ct2 oc3 kV3 dc3 pm3 cd3 ct3 oc4 kV4 dc4 pm4 cd4 ct4 oc5 kV5 dc5 pm5 cd5 ct5 oc6 kV6 dc6 pm6 cd6 ct6 oc7 kV7 dc7 pm7 cd7 ct7 oc8 kV8 dc8 pm8 cd8 ct8 oc9 kV9 dc9 pm9 cd9 ct9 oc10 kV10 dc10 pm10 cd10 ct10 oc11 kV11 dc11 pm11 cd11 ct11 oc12 kV12 dc12 pm12 cd12 ct12 oc13 kV13 dc13 pm13 cd13 ct13 oc14 kV14 dc14 pm14 cd14 ct14 oc15 kV15 dc15 pm15 cd15 ct15 oc16 kV16 dc16 pm16 cd16 ct16 oc17 kV17 dc17 pm17 cd17 ct17 oc18 kV18 dc18 pm18 cd18 ct18 oc19 kV19 dc19 pm19 cd19 ct19 oc20 kV20 dc20 pm20 cd20 ct20 oc21 kV21 dc21 pm21 cd21 ct21 : Value}
    (a1 : PySem.W.nsIn K mainGlobals "links_of" = some (some (.ref f1))) (l1 : K.lookup f1 = some ⟨oc1, od1, .func (PySem.W.fnOf "links_of" "links_of" (defArgs sLinks) (defBody sLinks) (defScope sLinks) .none kV1 dc1 pm1 an1 cd1 ct1), sl1⟩) (c1 : PySem.W.codeIn K cd1 "links_of" = true) (k1 : PySem.W.keepIn K (.ref f1) = true)
    (a2 : PySem.W.nsIn K mainGlobals "spread" = some (some (.ref f2))) (l2 : K.lookup f2 = some ⟨oc2, od2, .func (PySem.W.fnOf "spread" "spread" (defArgs sSpread) (defBody sSpread) (defScope sSpread) .none kV2 dc2 pm2 an2 cd2 ct2), sl2⟩) (c2 : PySem.W.codeIn K cd2 "spread" = true) (k2 : PySem.W.keepIn K (.ref f2) = true)
    (a3 : PySem.W.nsIn K mainGlobals "cut_of" = some (some (.ref f3))) (l3 : K.lookup f3 = some ⟨oc3, od3, .func (PySem.W.fnOf "cut_of" "cut_of" (defArgs sCutOf) (defBody sCutOf) (defScope sCutOf) .none kV3 dc3 pm3 an3 cd3 ct3), sl3⟩) (c3 : PySem.W.codeIn K cd3 "cut_of" = true) (k3 : PySem.W.keepIn K (.ref f3) = true)
    (a4 : PySem.W.nsIn K mainGlobals "round_by" = some (some (.ref f4))) (l4 : K.lookup f4 = some ⟨oc4, od4, .func (PySem.W.fnOf "round_by" "round_by" (defArgs s_round_by) (defBody s_round_by) (defScope s_round_by) .none kV4 dc4 pm4 an4 cd4 ct4), sl4⟩) (c4 : PySem.W.codeIn K cd4 "round_by" = true) (k4 : PySem.W.keepIn K (.ref f4) = true)
    (a5 : PySem.W.nsIn K mainGlobals "cut_by" = some (some (.ref f5))) (l5 : K.lookup f5 = some ⟨oc5, od5, .func (PySem.W.fnOf "cut_by" "cut_by" (defArgs s_cut_by) (defBody s_cut_by) (defScope s_cut_by) .none kV5 dc5 pm5 an5 cd5 ct5), sl5⟩) (c5 : PySem.W.codeIn K cd5 "cut_by" = true) (k5 : PySem.W.keepIn K (.ref f5) = true)
    (a6 : PySem.W.nsIn K mainGlobals "reached" = some (some (.ref f6))) (l6 : K.lookup f6 = some ⟨oc6, od6, .func (PySem.W.fnOf "reached" "reached" (defArgs s_reached) (defBody s_reached) (defScope s_reached) .none kV6 dc6 pm6 an6 cd6 ct6), sl6⟩) (c6 : PySem.W.codeIn K cd6 "reached" = true) (k6 : PySem.W.keepIn K (.ref f6) = true)
    (a7 : PySem.W.nsIn K mainGlobals "_law_cell_at" = some (some (.ref f7))) (l7 : K.lookup f7 = some ⟨oc7, od7, .func (PySem.W.fnOf "_law_cell_at" "_law_cell_at" (defArgs sCell) (defBody sCell) (defScope sCell) .none kV7 dc7 pm7 an7 cd7 ct7), sl7⟩) (c7 : PySem.W.codeIn K cd7 "_law_cell_at" = true) (k7 : PySem.W.keepIn K (.ref f7) = true)
    (a8 : PySem.W.nsIn K mainGlobals "_law_big" = some (some (.ref f8))) (l8 : K.lookup f8 = some ⟨oc8, od8, .func (PySem.W.fnOf "_law_big" "_law_big" (defArgs sBig) (defBody sBig) (defScope sBig) .none kV8 dc8 pm8 an8 cd8 ct8), sl8⟩) (c8 : PySem.W.codeIn K cd8 "_law_big" = true) (k8 : PySem.W.keepIn K (.ref f8) = true)
    (a9 : PySem.W.nsIn K mainGlobals "_law_names" = some (some (.ref f9))) (l9 : K.lookup f9 = some ⟨oc9, od9, .func (PySem.W.fnOf "_law_names" "_law_names" (defArgs sNames) (defBody sNames) (defScope sNames) .none kV9 dc9 pm9 an9 cd9 ct9), sl9⟩) (c9 : PySem.W.codeIn K cd9 "_law_names" = true) (k9 : PySem.W.keepIn K (.ref f9) = true)
    (a10 : PySem.W.nsIn K mainGlobals "_law_seats" = some (some (.ref f10))) (l10 : K.lookup f10 = some ⟨oc10, od10, .func (PySem.W.fnOf "_law_seats" "_law_seats" (defArgs sSeats) (defBody sSeats) (defScope sSeats) .none kV10 dc10 pm10 an10 cd10 ct10), sl10⟩) (c10 : PySem.W.codeIn K cd10 "_law_seats" = true) (k10 : PySem.W.keepIn K (.ref f10) = true)
    (a11 : PySem.W.nsIn K mainGlobals "_law_other" = some (some (.ref f11))) (l11 : K.lookup f11 = some ⟨oc11, od11, .func (PySem.W.fnOf "_law_other" "_law_other" (defArgs sOther) (defBody sOther) (defScope sOther) .none kV11 dc11 pm11 an11 cd11 ct11), sl11⟩) (c11 : PySem.W.codeIn K cd11 "_law_other" = true) (k11 : PySem.W.keepIn K (.ref f11) = true)
    (a12 : PySem.W.nsIn K mainGlobals "_law_step" = some (some (.ref f12))) (l12 : K.lookup f12 = some ⟨oc12, od12, .func (PySem.W.fnOf "_law_step" "_law_step" (defArgs sStep) (defBody sStep) (defScope sStep) .none kV12 dc12 pm12 an12 cd12 ct12), sl12⟩) (c12 : PySem.W.codeIn K cd12 "_law_step" = true) (k12 : PySem.W.keepIn K (.ref f12) = true)
    (a13 : PySem.W.nsIn K mainGlobals "_law_face" = some (some (.ref f13))) (l13 : K.lookup f13 = some ⟨oc13, od13, .func (PySem.W.fnOf "_law_face" "_law_face" (defArgs sFace) (defBody sFace) (defScope sFace) .none kV13 dc13 pm13 an13 cd13 ct13), sl13⟩) (c13 : PySem.W.codeIn K cd13 "_law_face" = true) (k13 : PySem.W.keepIn K (.ref f13) = true)
    (a14 : PySem.W.nsIn K mainGlobals "_law_put" = some (some (.ref f14))) (l14 : K.lookup f14 = some ⟨oc14, od14, .func (PySem.W.fnOf "_law_put" "_law_put" (defArgs sPut) (defBody sPut) (defScope sPut) .none kV14 dc14 pm14 an14 cd14 ct14), sl14⟩) (c14 : PySem.W.codeIn K cd14 "_law_put" = true) (k14 : PySem.W.keepIn K (.ref f14) = true)
    (a15 : PySem.W.nsIn K mainGlobals "_law_net_by" = some (some (.ref f15))) (l15 : K.lookup f15 = some ⟨oc15, od15, .func (PySem.W.fnOf "_law_net_by" "_law_net_by" (defArgs sNet) (defBody sNet) (defScope sNet) .none kV15 dc15 pm15 an15 cd15 ct15), sl15⟩) (c15 : PySem.W.codeIn K cd15 "_law_net_by" = true) (k15 : PySem.W.keepIn K (.ref f15) = true)
    (a16 : PySem.W.nsIn K mainGlobals "_law_copy" = some (some (.ref f16))) (l16 : K.lookup f16 = some ⟨oc16, od16, .func (PySem.W.fnOf "_law_copy" "_law_copy" (defArgs sCopy) (defBody sCopy) (defScope sCopy) .none kV16 dc16 pm16 an16 cd16 ct16), sl16⟩) (c16 : PySem.W.codeIn K cd16 "_law_copy" = true) (k16 : PySem.W.keepIn K (.ref f16) = true)
    (a17 : PySem.W.nsIn K mainGlobals "_law_sum" = some (some (.ref f17))) (l17 : K.lookup f17 = some ⟨oc17, od17, .func (PySem.W.fnOf "_law_sum" "_law_sum" (defArgs sSumD) (defBody sSumD) (defScope sSumD) .none kV17 dc17 pm17 an17 cd17 ct17), sl17⟩) (c17 : PySem.W.codeIn K cd17 "_law_sum" = true) (k17 : PySem.W.keepIn K (.ref f17) = true)
    (a18 : PySem.W.nsIn K mainGlobals "_law_round_of" = some (some (.ref f18))) (l18 : K.lookup f18 = some ⟨oc18, od18, .func (PySem.W.fnOf "_law_round_of" "_law_round_of" (defArgs sRoundOf) (defBody sRoundOf) (defScope sRoundOf) .none kV18 dc18 pm18 an18 cd18 ct18), sl18⟩) (c18 : PySem.W.codeIn K cd18 "_law_round_of" = true) (k18 : PySem.W.keepIn K (.ref f18) = true)
    (a19 : PySem.W.nsIn K mainGlobals "_law_tree_by" = some (some (.ref f19))) (l19 : K.lookup f19 = some ⟨oc19, od19, .func (PySem.W.fnOf "_law_tree_by" "_law_tree_by" (defArgs s_l_tree_by) (defBody s_l_tree_by) (defScope s_l_tree_by) .none kV19 dc19 pm19 an19 cd19 ct19), sl19⟩) (c19 : PySem.W.codeIn K cd19 "_law_tree_by" = true) (k19 : PySem.W.keepIn K (.ref f19) = true)
    (a20 : PySem.W.nsIn K mainGlobals "_law_points_of" = some (some (.ref f20))) (l20 : K.lookup f20 = some ⟨oc20, od20, .func (PySem.W.fnOf "_law_points_of" "_law_points_of" (defArgs s_l_points_of) (defBody s_l_points_of) (defScope s_l_points_of) .none kV20 dc20 pm20 an20 cd20 ct20), sl20⟩) (c20 : PySem.W.codeIn K cd20 "_law_points_of" = true) (k20 : PySem.W.keepIn K (.ref f20) = true)
    (a21 : PySem.W.nsIn K mainGlobals "law" = some (some (.ref f21))) (l21 : K.lookup f21 = some ⟨oc21, od21, .func (PySem.W.fnOf "law" "law" (defArgs sLaw) (defBody sLaw) (defScope sLaw) .none kV21 dc21 pm21 an21 cd21 ct21), sl21⟩) (c21 : PySem.W.codeIn K cd21 "law" = true) (k21 : PySem.W.keepIn K (.ref f21) = true)
    (z1 : PySem.W.nsIn K mainGlobals "isinstance" = some none) (z2 : PySem.W.nsIn K mainGlobals "tuple" = some none) (z3 : PySem.W.nsIn K mainGlobals "str" = some none) (z4 : PySem.W.nsIn K mainGlobals "int" = some none) (z5 : PySem.W.nsIn K mainGlobals "bool" = some none) (z6 : PySem.W.nsIn K mainGlobals "list" = some none) (z7 : PySem.W.nsIn K mainGlobals "dict" = some none) (z8 : PySem.W.nsIn K mainGlobals "set" = some none) (z9 : PySem.W.nsIn K mainGlobals "enumerate" = some none) (z10 : PySem.W.nsIn K mainGlobals "zip" = some none) (z11 : PySem.W.nsIn K mainGlobals "len" = some none) (z12 : PySem.W.nsIn K mainGlobals "range" = some none) (z13 : PySem.W.nsIn K mainGlobals "sorted" = some none) (z14 : PySem.W.nsIn K mainGlobals "max" = some none) (z15 : PySem.W.nsIn K mainGlobals "all" = some none) :
    ∃ fd : FuncData, (∀ (s : Shared) (v : Value), BindsTo s fd ⟨[v], []⟩ [("_law_script", v)]) ∧ ∀ base : Heap, K.In base → base.Ns mainGlobals mg → FnOk l.prog w K mg base CX0 6 fa fd ["_law_script"] (spLaw K) := by
  have e := hfa.symm.trans (PySem.W.mg_of X G a21)
  cases e
  have T : Txt mg := ⟨PySem.W.mg_none_of X G z1, PySem.W.mg_none_of X G z2, PySem.W.mg_none_of X G z3, PySem.W.mg_none_of X G z4, PySem.W.mg_none_of X G z5, PySem.W.mg_none_of X G z6, PySem.W.mg_none_of X G z7, PySem.W.mg_none_of X G z8, PySem.W.mg_none_of X G z9, PySem.W.mg_none_of X G z10, PySem.W.mg_none_of X G z11, PySem.W.mg_none_of X G z12, PySem.W.mg_none_of X G z13, PySem.W.mg_none_of X G z14, PySem.W.mg_none_of X G z15⟩
  have F1 := fun_mk (st := sLinks) l1 c1 k1
  have F2 := fun_mk (st := sSpread) l2 c2 k2
  have F3 := fun_mk (st := sCutOf) l3 c3 k3
  have F4 := fun_mk (st := s_round_by) l4 c4 k4
  have F5 := fun_mk (st := s_cut_by) l5 c5 k5
  have F6 := fun_mk (st := s_reached) l6 c6 k6
  have F7 := fun_mk (st := sCell) l7 c7 k7
  have F8 := fun_mk (st := sBig) l8 c8 k8
  have F9 := fun_mk (st := sNames) l9 c9 k9
  have F10 := fun_mk (st := sSeats) l10 c10 k10
  have F11 := fun_mk (st := sOther) l11 c11 k11
  have F12 := fun_mk (st := sStep) l12 c12 k12
  have F13 := fun_mk (st := sFace) l13 c13 k13
  have F14 := fun_mk (st := sPut) l14 c14 k14
  have F15 := fun_mk (st := sNet) l15 c15 k15
  have F16 := fun_mk (st := sCopy) l16 c16 k16
  have F17 := fun_mk (st := sSumD) l17 c17 k17
  have F18 := fun_mk (st := sRoundOf) l18 c18 k18
  have F19 := fun_mk (st := s_l_tree_by) l19 c19 k19
  have F20 := fun_mk (st := s_l_points_of) l20 c20 k20
  have F21 := fun_mk (st := sLaw) l21 c21 k21
  have b1 := F1.binds (ps := ["rows"]) fun _ _ _ _ _ _ us hl => match us, hl with | [_], _ => rfl
  have b2 := F2.binds (ps := ["first", "links"]) fun _ _ _ _ _ _ us hl => match us, hl with | [_, _], _ => rfl
  have b3 := F3.binds (ps := ["rows", "points"]) fun _ _ _ _ _ _ us hl => match us, hl with | [_, _], _ => rfl
  have b4 := F4.binds (ps := ["rows", "tree", "tie"]) fun _ _ _ _ _ _ us hl => match us, hl with | [_, _, _], _ => rfl
  have b5 := F5.binds (ps := ["rows", "tree", "tie"]) fun _ _ _ _ _ _ us hl => match us, hl with | [_, _, _], _ => rfl
  have b6 := F6.binds (ps := ["rows", "some", "first"]) fun _ _ _ _ _ _ us hl => match us, hl with | [_, _, _], _ => rfl
  have b7 := F7.binds (ps := ["_law_script", "_law_k"]) fun _ _ _ _ _ _ us hl => match us, hl with | [_, _], _ => rfl
  have b8 := F8.binds (ps := ["_law_script", "_law_at"]) fun _ _ _ _ _ _ us hl => match us, hl with | [_, _], _ => rfl
  have b9 := F9.binds (ps := ["_law_stem", "_law_many"]) fun _ _ _ _ _ _ us hl => match us, hl with | [_, _], _ => rfl
  have b10 := F10.binds (ps := ["_law_rows"]) fun _ _ _ _ _ _ us hl => match us, hl with | [_], _ => rfl
  have b11 := F11.binds (ps := ["_law_rows", "_law_seats_here", "_law_end"]) fun _ _ _ _ _ _ us hl => match us, hl with | [_, _, _], _ => rfl
  have b12 := F12.binds (ps := ["_law_rows", "_law_seats_here", "_law_end", "_law_turn"]) fun _ _ _ _ _ _ us hl => match us, hl with | [_, _, _, _], _ => rfl
  have b13 := F13.binds (ps := ["_law_rows", "_law_seats_here", "_law_end"]) fun _ _ _ _ _ _ us hl => match us, hl with | [_, _, _], _ => rfl
  have b14 := F14.binds (ps := ["_law_rows", "_law_big_here", "_law_tie", "_law_point"]) fun _ _ _ _ _ _ us hl => match us, hl with | [_, _, _, _], _ => rfl
  have b15 := F15.binds (ps := ["_law_big_here", "_law_most", "_law_stem"]) fun _ _ _ _ _ _ us hl => match us, hl with | [_, _, _], _ => rfl
  have b16 := F16.binds (ps := ["_law_rows"]) fun _ _ _ _ _ _ us hl => match us, hl with | [_], _ => rfl
  have b17 := F17.binds (ps := ["_law_one", "_law_other_here"]) fun _ _ _ _ _ _ us hl => match us, hl with | [_, _], _ => rfl
  have b18 := F18.binds (ps := ["_law_rows", "_law_big_here"]) fun _ _ _ _ _ _ us hl => match us, hl with | [_, _], _ => rfl
  have b19 := F19.binds (ps := ["_law_rows", "_law_big_here"]) fun _ _ _ _ _ _ us hl => match us, hl with | [_, _], _ => rfl
  have b20 := F20.binds (ps := ["_law_rows", "_law_big_here"]) fun _ _ _ _ _ _ us hl => match us, hl with | [_, _], _ => rfl
  refine ⟨PySem.W.fnOf "law" "law" (defArgs sLaw) (defBody sLaw) (defScope sLaw) .none kV21 dc21 pm21 an21 cd21 ct21, fun s v => .of_eq rfl, fun base _ _ => ?_⟩
  have G1 : FnOk l.prog w K mg base CX0 1 f1 _ ["rows"] spLinks := ok_links F1 T
  have G2 : FnOk l.prog w K mg base CX0 1 f2 _ ["first", "links"] spSpread := ok_spread F2 T
  have G6 : FnOk l.prog w K mg base CX0 2 f6 _ ["rows", "some", "first"] spReached := ok_reached F6 T (G1.mono (by decide)) b1 k1 (PySem.W.mg_of X G a1) (G2.mono (by decide)) b2 k2 (PySem.W.mg_of X G a2)
  have G3 : FnOk l.prog w K mg base CX0 2 f3 _ ["rows", "points"] spCutOf := ok_cut F3 T (G1.mono (by decide)) b1 k1 (PySem.W.mg_of X G a1)
  have G5 : FnOk l.prog w K mg base CX0 3 f5 _ ["rows", "tree", "tie"] spCutBy := ok_cutBy F5 T (G6.mono (by decide)) b6 k6 (PySem.W.mg_of X G a6) (G3.mono (by decide)) b3 k3 (PySem.W.mg_of X G a3)
  have G4 : FnOk l.prog w K mg base CX0 4 f4 _ ["rows", "tree", "tie"] spRoundBy := ok_roundBy F4 T (G5.mono (by decide)) b5 k5 (PySem.W.mg_of X G a5)
  have G7 : FnOk l.prog w K mg base CX0 1 f7 _ ["_law_script", "_law_k"] (spCell K) := ok_cell F7 T
  have G8 : FnOk l.prog w K mg base CX0 2 f8 _ ["_law_script", "_law_at"] (spBig K) := ok_big F8 T (G7.mono (by decide)) b7 k7 (PySem.W.mg_of X G a7)
  have G9 : FnOk l.prog w K mg base CX0 1 f9 _ ["_law_stem", "_law_many"] spNames := ok_names F9 T
  have G10 : FnOk l.prog w K mg base CX0 1 f10 _ ["_law_rows"] spSeats := ok_seats F10 T
  have G11 : FnOk l.prog w K mg base CX0 1 f11 _ ["_law_rows", "_law_seats_here", "_law_end"] spOther := ok_other F11 T
  have G12 : FnOk l.prog w K mg base CX0 2 f12 _ ["_law_rows", "_law_seats_here", "_law_end", "_law_turn"] spStep := ok_step F12 T (G11.mono (by decide)) b11 k11 (PySem.W.mg_of X G a11)
  have G13 : FnOk l.prog w K mg base CX0 3 f13 _ ["_law_rows", "_law_seats_here", "_law_end"] spFace := ok_face F13 T (G12.mono (by decide)) b12 k12 (PySem.W.mg_of X G a12)
  have G14 : FnOk l.prog w K mg base CX0 4 f14 _ ["_law_rows", "_law_big_here", "_law_tie", "_law_point"] spPut := ok_put F14 T (G10.mono (by decide)) b10 k10 (PySem.W.mg_of X G a10) (G13.mono (by decide)) b13 k13 (PySem.W.mg_of X G a13)
  have G15 : FnOk l.prog w K mg base CX0 5 f15 _ ["_law_big_here", "_law_most", "_law_stem"] spNet := ok_net F15 T (G9.mono (by decide)) b9 k9 (PySem.W.mg_of X G a9) (G14.mono (by decide)) b14 k14 (PySem.W.mg_of X G a14)
  have G16 : FnOk l.prog w K mg base CX0 1 f16 _ ["_law_rows"] spCopy := ok_copy F16 T
  have G17 : FnOk l.prog w K mg base CX0 1 f17 _ ["_law_one", "_law_other_here"] spSum := ok_sum F17 T
  have G18 : FnOk l.prog w K mg base CX0 4 f18 _ ["_law_rows", "_law_big_here"] spRoundOf := ok_roundOf F18 T (G10.mono (by decide)) b10 k10 (PySem.W.mg_of X G a10) (G13.mono (by decide)) b13 k13 (PySem.W.mg_of X G a13) (G17.mono (by decide)) b17 k17 (PySem.W.mg_of X G a17)
  have G19 : FnOk l.prog w K mg base CX0 3 f19 _ ["_law_rows", "_law_big_here"] spTreeBy := ok_treeBy F19 T (G10.mono (by decide)) b10 k10 (PySem.W.mg_of X G a10)
  have G20 : FnOk l.prog w K mg base CX0 1 f20 _ ["_law_rows", "_law_big_here"] spPts := ok_pts F20 T
  exact ok_law F21 T (G7.mono (by decide)) b7 k7 (PySem.W.mg_of X G a7) (G8.mono (by decide)) b8 k8 (PySem.W.mg_of X G a8) (G15.mono (by decide)) b15 k15 (PySem.W.mg_of X G a15) (G19.mono (by decide)) b19 k19 (PySem.W.mg_of X G a19) (G18.mono (by decide)) b18 k18 (PySem.W.mg_of X G a18) (G16.mono (by decide)) b16 k16 (PySem.W.mg_of X G a16) (G20.mono (by decide)) b20 k20 (PySem.W.mg_of X G a20) (G3.mono (by decide)) b3 k3 (PySem.W.mg_of X G a3) (G17.mono (by decide)) b17 k17 (PySem.W.mg_of X G a17) (G4.mono (by decide)) b4 k4 (PySem.W.mg_of X G a4) (G5.mono (by decide)) b5 k5 (PySem.W.mg_of X G a5)
theorem walk {l : PySem.W.OpenLaw} {q : Program} {loose : List Str} {XP : (Str → Option Value) → Heap → Prop} {YP : World → Heap → Prop} {d : DefRec} {K : Params → PySem.W.Frag} (hn : l.most = some 63) (hdf : d.params.defaults = [])
    (hY : ∀ (w : World) (h : Heap), YP w h → (K w.params).In h)
    (F : ∀ (w : World) (mg : Str → Option Value) (fa : Addr) (h : Heap), (K w.params).In h → h.Ns mainGlobals mg → mg d.name = some (.ref fa) →
      ∃ fd : FuncData, (∀ (s : Shared) (u : Value), BindsTo s fd ⟨[u], []⟩ [("_law_script", u)]) ∧ ∀ base : Heap, (K w.params).In base → base.Ns mainGlobals mg → FnOk l.prog w (K w.params) mg base CX0 6 fa fd ["_law_script"] (spLaw (K w.params))) :
    PySem.W.WalkO q loose XP YP l.row.toRowW d [] (fun f vs => PySem.call f vs) :=
  L2.walk_of (n := 63) (k := 6) (x := "_law_script") (CX := fun _ => CX0) (sp := fun w => spLaw (K w.params)) hn (by decide) hdf ⟨rfl, by decide, by decide⟩ hY F (fun _ _ a ns hl _ hS => ⟨a, ns, rfl, hS, hl, fun _ => rfl⟩) fun _ _ _ _ _ z => z
end C6
open PySem PySem.W PyProof.Rows
set_option maxRecDepth 100000 in
set_option maxHeartbeats 0 in
theorem PySem.Challenge.cw_threewebs_k26_all_by_a_tree_holds : PySem.Challenge.rw_threewebs_k26_all_by_a_tree.Holds := by
  w_on; o_law; k_head; (case hw => w_witness2)
  k_fill
  refine C6.walk (l := PySem.Challenge.rw_threewebs_k26_all_by_a_tree) rfl rfl (fun w h Y => PySem.W.kIn_of Y) ?F
  case F =>
    intro w mg fa h KX G hmg
    refine' C6.all_mk KX G hmg ?a1 ?l1 ?c1 ?k1 ?a2 ?l2 ?c2 ?k2 ?a3 ?l3 ?c3 ?k3 ?a4 ?l4 ?c4 ?k4 ?a5 ?l5 ?c5 ?k5 ?a6 ?l6 ?c6 ?k6 ?a7 ?l7 ?c7 ?k7 ?a8 ?l8 ?c8 ?k8 ?a9 ?l9 ?c9 ?k9 ?a10 ?l10 ?c10 ?k10 ?a11 ?l11 ?c11 ?k11 ?a12 ?l12 ?c12 ?k12 ?a13 ?l13 ?c13 ?k13 ?a14 ?l14 ?c14 ?k14 ?a15 ?l15 ?c15 ?k15 ?a16 ?l16 ?c16 ?k16 ?a17 ?l17 ?c17 ?k17 ?a18 ?l18 ?c18 ?k18 ?a19 ?l19 ?c19 ?k19 ?a20 ?l20 ?c20 ?k20 ?a21 ?l21 ?c21 ?k21 ?z1 ?z2 ?z3 ?z4 ?z5 ?z6 ?z7 ?z8 ?z9 ?z10 ?z11 ?z12 ?z13 ?z14 ?z15
    (case a1 => k_is); (case l1 => k_is); (case c1 => k_is); (case k1 => k_is)
    (case a2 => k_is); (case l2 => k_is); (case c2 => k_is); (case k2 => k_is)
    (case a3 => k_is); (case l3 => k_is); (case c3 => k_is); (case k3 => k_is)
    (case a4 => k_is); (case l4 => k_is); (case c4 => k_is); (case k4 => k_is)
    (case a5 => k_is); (case l5 => k_is); (case c5 => k_is); (case k5 => k_is)
    (case a6 => k_is); (case l6 => k_is); (case c6 => k_is); (case k6 => k_is)
    (case a7 => k_is); (case l7 => k_is); (case c7 => k_is); (case k7 => k_is)
    (case a8 => k_is); (case l8 => k_is); (case c8 => k_is); (case k8 => k_is)
    (case a9 => k_is); (case l9 => k_is); (case c9 => k_is); (case k9 => k_is)
    (case a10 => k_is); (case l10 => k_is); (case c10 => k_is); (case k10 => k_is)
    (case a11 => k_is); (case l11 => k_is); (case c11 => k_is); (case k11 => k_is)
    (case a12 => k_is); (case l12 => k_is); (case c12 => k_is); (case k12 => k_is)
    (case a13 => k_is); (case l13 => k_is); (case c13 => k_is); (case k13 => k_is)
    (case a14 => k_is); (case l14 => k_is); (case c14 => k_is); (case k14 => k_is)
    (case a15 => k_is); (case l15 => k_is); (case c15 => k_is); (case k15 => k_is)
    (case a16 => k_is); (case l16 => k_is); (case c16 => k_is); (case k16 => k_is)
    (case a17 => k_is); (case l17 => k_is); (case c17 => k_is); (case k17 => k_is)
    (case a18 => k_is); (case l18 => k_is); (case c18 => k_is); (case k18 => k_is)
    (case a19 => k_is); (case l19 => k_is); (case c19 => k_is); (case k19 => k_is)
    (case a20 => k_is); (case l20 => k_is); (case c20 => k_is); (case k20 => k_is)
    (case a21 => k_is); (case l21 => k_is); (case c21 => k_is); (case k21 => k_is)
    (case z1 => k_is); (case z2 => k_is); (case z3 => k_is); (case z4 => k_is); (case z5 => k_is); (case z6 => k_is); (case z7 => k_is); (case z8 => k_is); (case z9 => k_is); (case z10 => k_is); (case z11 => k_is); (case z12 => k_is); (case z13 => k_is); (case z14 => k_is); (case z15 => k_is)

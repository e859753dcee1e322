import PyProof.Rows.All
import Wide.All
import OpenK.AllK
import Wide.FinOn
import HandS.ForMost
import HandS.Evl
import HandS.Flow
import KE.KDictCopyH
import HandS.Wide
import HandS.TupAny
import HandS.Words
import HandS.Iter
import HandS.Zip
import KE.GoesEnum
import HandS.Text
import HandS.StrMore
import PyProof.Rows.CountFlat
import PyProof.SeqIndex
import PyProof.ListStr
import PyProof.TupleOfStr
import HandS.Conv
import HandS.IsInst
import HandS.SortRule
import HandS.SortInts
import PyProof.ReprRoads
import HandS.Ends
import PySem.Challenge.RW_laidsheets_k03_covered_cells
set_option Elab.async false
set_option linter.all false
set_option maxRecDepth 100000
set_option maxHeartbeats 4000000
set_option Elab.async false
set_option linter.all false
set_option maxRecDepth 100000
set_option maxHeartbeats 4000000
namespace Z
open PySem L2

/-- plain data: what a program's value is, the tuples by value (and the one list that is only read), lists and dicts by their number -/
inductive D where
  | non | bl (b : Bool) | int (i : Int) | str (x : Str) | tup (xs : List D) | rol (xs : List D) | ref (n : Nat)
  deriving Inhabited

/-- what stands behind a number: a list, a dict (with the number of changes of its keys) -/
inductive O where
  | lst (xs : List D) | dct (ep : Nat) (kvs : List (D × D))
  deriving Inhabited
abbrev Hh := List O
abbrev M (α : Type) := Hh → Option (α × Hh)

/-! ### keys -/
mutual
def D.key : D → Option NestedKey
  | .non => some .none
  | .bl b => some (.num (if b = true then 1 else 0))
  | .int i => some (.num i)
  | .str x => some (.text x)
  | .tup xs => (D.keys xs).map .tup
  | .rol _ => none
  | .ref _ => none
def D.keys : List D → Option (List NestedKey)
  | [] => some []
  | x :: xs => match D.key x, D.keys xs with
    | some k, some ks => some (k :: ks)
    | _, _ => none
end

/-! ### values and data -/
/-- a list of the written part -/
def KL (K : PySem.W.Frag) (a : Addr) (xs : List V) : Prop := ∃ (o : Obj) (its : Array Value) (n : Nat), K.lookup a = some o ∧ o.cls = .type "list" ∧ o.dict = none ∧ o.data = .seq its n ∧ its.size ≤ sizeLine ∧ Vals xs its.toList
/-- a list that stays as it is -/
def SqF (K : PySem.W.Frag) (H : Hp) (a : Addr) (xs : List V) : Prop := (∃ u, H a = some (.frz u (.lst xs))) ∨ KL K a xs
theorem SqF.l {K : PySem.W.Frag} {H : Hp} {a : Addr} {xs : List V} (h : SqF K H a xs) : SqL K H a xs := by
  rcases h with ⟨u, e⟩ | e
  · exact .inl (.inr ⟨u, e⟩)
  · exact .inr e
mutual
def VR (K : PySem.W.Frag) (H : Hp) (R : List Addr) : D → V → Prop
  | .non, v => v = .non
  | .bl b, v => v = .bl b
  | .int i, v => v = .int i
  | .str x, v => v = .str x
  | .tup xs, v => ∃ a vs, v = .ref a ∧ SqT K H a vs ∧ VRs K H R xs vs
  | .rol xs, v => ∃ a vs, v = .ref a ∧ SqF K H a vs ∧ VRs K H R xs vs
  | .ref n, v => ∃ a, R[n]? = some a ∧ v = .ref a
def VRs (K : PySem.W.Frag) (H : Hp) (R : List Addr) : List D → List V → Prop
  | [], vs => vs = []
  | x :: xs, vs => ∃ v r, vs = v :: r ∧ VR K H R x v ∧ VRs K H R xs r
end

def Ext (K : PySem.W.Frag) (R : List Addr) (H : Hp) (R' : List Addr) (H' : Hp) : Prop := (∃ T, R' = R ++ T) ∧ (∀ b xs, SqT K H b xs → SqT K H' b xs) ∧ ∀ b xs, SqF K H b xs → SqF K H' b xs

section
variable {K : PySem.W.Frag} {H H' H1 H2 : Hp} {R R' R1 R2 : List Addr}
theorem Ext.refl : Ext K R H R H := ⟨⟨[], by simp⟩, fun _ _ h => h, fun _ _ h => h⟩
theorem Ext.trans (a : Ext K R H R1 H1) (b : Ext K R1 H1 R2 H2) : Ext K R H R2 H2 := by
  obtain ⟨⟨T, e⟩, h, g⟩ := a
  obtain ⟨⟨T', e'⟩, h', g'⟩ := b
  refine ⟨⟨T ++ T', ?_⟩, fun p xs q => h' p xs (h p xs q), fun p xs q => g' p xs (g p xs q)⟩
  rw [e', e, List.append_assoc]
theorem Ext.at (a : Ext K R H R' H') {n : Nat} {x : Addr} (h : R[n]? = some x) : R'[n]? = some x := by
  obtain ⟨⟨T, rfl⟩, _⟩ := a
  rw [List.getElem?_append_left (List.getElem?_eq_some_iff.mp h).1]
  exact h
/-- one place is changed, at which no tuple and no list that stays is told -/
theorem Ext.put {p : Addr} {o : HO} (h : ∀ xs, H p ≠ some (.tup xs)) (h' : ∀ u xs, H p ≠ some (.frz u (.tup xs))) (h2 : ∀ u xs, H p ≠ some (.frz u (.lst xs))) : Ext K R H R (upd H p o) := by
  refine ⟨⟨[], by simp⟩, fun b xs q => ?_, fun b xs q => ?_⟩
  · rcases q with (q | ⟨u, q⟩) | q
    · exact .inl (.inl (by rw [upd_ne (fun e => h xs (by rw [← e]; exact q))]; exact q))
    · exact .inl (.inr ⟨u, by rw [upd_ne (fun e => h' u xs (by rw [← e]; exact q))]; exact q⟩)
    · exact .inr q
  · rcases q with ⟨u, q⟩ | q
    · exact .inl ⟨u, by rw [upd_ne (fun e => h2 u xs (by rw [← e]; exact q))]; exact q⟩
    · exact .inr q
/-- a new object, at a place that nothing tracks -/
theorem Ext.new {p : Addr} {o : HO} (h : H p = none) : Ext K R H R (upd H p o) :=
  Ext.put (fun _ e => by rw [h] at e; cases e) (fun _ _ e => by rw [h] at e; cases e) fun _ _ e => by rw [h] at e; cases e
theorem Ext.more (p : Addr) (a : Ext K R H R' H') : Ext K R H (R' ++ [p]) H' := by
  obtain ⟨⟨T, rfl⟩, h⟩ := a
  exact ⟨⟨T ++ [p], by simp⟩, h⟩

mutual
theorem VR.mono (e : Ext K R H R' H') : ∀ {d : D} {v : V}, VR K H R d v → VR K H' R' d v
  | .non, v, h => h
  | .bl _, v, h => h
  | .int _, v, h => h
  | .str _, v, h => h
  | .tup xs, v, h => by
    obtain ⟨a, vs, e1, e2, e3⟩ := h
    exact ⟨a, vs, e1, e.2.1 a vs e2, VRs.mono e e3⟩
  | .rol xs, v, h => by
    obtain ⟨a, vs, e1, e2, e3⟩ := h
    exact ⟨a, vs, e1, e.2.2 a vs e2, VRs.mono e e3⟩
  | .ref n, v, h => by
    obtain ⟨a, e1, e2⟩ := h
    exact ⟨a, e.at e1, e2⟩
theorem VRs.mono (e : Ext K R H R' H') : ∀ {d : List D} {v : List V}, VRs K H R d v → VRs K H' R' d v
  | [], v, h => h
  | x :: xs, v, h => by
    obtain ⟨u, r, e1, e2, e3⟩ := h
    exact ⟨u, r, e1, VR.mono e e2, VRs.mono e e3⟩
end
theorem VRs.len : ∀ {d : List D} {v : List V}, VRs K H R d v → v.length = d.length
  | [], v, h => by rw [show v = [] from h]; rfl
  | x :: xs, v, h => by
    obtain ⟨u, r, e1, e2, e3⟩ := h
    rw [e1, List.length_cons, List.length_cons, VRs.len e3]
theorem VRs.get : ∀ {d : List D} {v : List V} {i : Nat} {x : D}, VRs K H R d v → d[i]? = some x → ∃ u, v[i]? = some u ∧ VR K H R x u
  | [], v, i, x, h, e => by simp at e
  | y :: ys, v, 0, x, h, e => by
    obtain ⟨u, r, e1, e2, e3⟩ := h
    simp at e; subst e
    exact ⟨u, by rw [e1]; rfl, e2⟩
  | y :: ys, v, i + 1, x, h, e => by
    obtain ⟨u, r, e1, e2, e3⟩ := h
    obtain ⟨w, h1, h2⟩ := VRs.get (i := i) e3 (by simpa using e)
    exact ⟨w, by rw [e1]; simpa using h1, h2⟩
theorem VRs.get' : ∀ {d : List D} {v : List V} {i : Nat} {u : V}, VRs K H R d v → v[i]? = some u → ∃ x, d[i]? = some x ∧ VR K H R x u
  | [], v, i, x, h, e => by rw [show v = [] from h] at e; simp at e
  | y :: ys, v, 0, x, h, e => by
    obtain ⟨u, r, e1, e2, e3⟩ := h
    rw [e1] at e
    simp at e; subst e
    exact ⟨y, rfl, e2⟩
  | y :: ys, v, i + 1, x, h, e => by
    obtain ⟨u, r, e1, e2, e3⟩ := h
    rw [e1] at e
    obtain ⟨w, h1, h2⟩ := VRs.get' (i := i) e3 (by simpa using e)
    exact ⟨w, by simpa using h1, h2⟩
theorem VRs.app : ∀ {d e : List D} {v w : List V}, VRs K H R d v → VRs K H R e w → VRs K H R (d ++ e) (v ++ w)
  | [], e, v, w, h, h' => by rw [show v = [] from h]; exact h'
  | x :: xs, e, v, w, h, h' => by
    obtain ⟨u, r, e1, e2, e3⟩ := h
    exact ⟨u, r ++ w, by rw [e1]; rfl, e2, VRs.app e3 h'⟩
theorem VRs.nil : VRs K H R [] [] := rfl
theorem VRs.cons {x : D} {xs : List D} {v : V} {vs : List V} (h : VR K H R x v) (t : VRs K H R xs vs) : VRs K H R (x :: xs) (v :: vs) := ⟨v, vs, rfl, h, t⟩
theorem VRs.one {x : D} {v : V} (h : VR K H R x v) : VRs K H R [x] [v] := .cons h .nil
theorem VRs.set {x : D} {u : V} (r : VR K H R x u) : ∀ {d : List D} {v : List V} (i : Nat), VRs K H R d v → VRs K H R (d.set i x) (v.set i u)
  | [], v, i, h => by rw [show v = [] from h]; exact rfl
  | y :: ys, v, 0, h => by
    obtain ⟨w, t, e1, e2, e3⟩ := h
    rw [e1]
    exact ⟨u, t, rfl, r, e3⟩
  | y :: ys, v, i + 1, h => by
    obtain ⟨w, t, e1, e2, e3⟩ := h
    rw [e1]
    exact ⟨w, t.set i u, rfl, e2, VRs.set r i e3⟩
theorem VRs.take : ∀ {d : List D} {v : List V} (n : Nat), VRs K H R d v → VRs K H R (d.take n) (v.take n)
  | _, _, 0, h => by simp only [List.take_zero]; exact rfl
  | [], v, n + 1, h => by rw [show v = [] from h]; exact rfl
  | x :: xs, v, n + 1, h => by
    obtain ⟨u, r, e1, e2, e3⟩ := h
    rw [e1]
    exact ⟨u, r.take n, rfl, e2, VRs.take n e3⟩
theorem VRs.drop : ∀ {d : List D} {v : List V} (n : Nat), VRs K H R d v → VRs K H R (d.drop n) (v.drop n)
  | _, _, 0, h => h
  | [], v, n + 1, h => by rw [show v = [] from h]; exact rfl
  | x :: xs, v, n + 1, h => by
    obtain ⟨u, r, e1, e2, e3⟩ := h
    rw [e1]
    exact VRs.drop n e3
theorem VRs.of {d : List D} {v : List V} : (h : v.length = d.length) → (∀ (i : Nat) (x : D) (u : V), d[i]? = some x → v[i]? = some u → VR K H R x u) → VRs K H R d v := by
  induction d generalizing v with
  | nil => intro h _; exact List.eq_nil_of_length_eq_zero (by simpa using h)
  | cons x xs ih =>
    intro h g
    cases v with
    | nil => simp at h
    | cons u us => exact ⟨u, us, rfl, g 0 x u rfl rfl, ih (by simpa using h) fun i y w a b => g (i + 1) y w (by simpa using a) (by simpa using b)⟩
end

/-! ### a dict's object -/
abbrev DE := V × Int × V
def DictX (a : Addr) (ep : Nat) (es : List DE) (h : Heap) : Prop :=
  (a == sysModules) = false ∧ es.length ≤ sizeLine ∧ ∃ o ds, h.get? a = some o ∧ o.ExactDict ∧ o.data = .dict ds ep ∧ Paired (fun (p : DE) (e : DictEntry) => RelV p.1 e.key ∧ e.hash = p.2.1 ∧ RelV p.2.2 e.val) es ds.toList
/-- the entries of a dict: their keys are keys, no two are equal -/
structure DR (w : World) (K : PySem.W.Frag) (H : Hp) (R : List Addr) (kvs : List (D × D)) (es : List DE) : Prop where
  rel : Paired (fun (p : D × D) (e : DE) => VR K H R p.1 e.1 ∧ VR K H R p.2 e.2.2 ∧ ∃ k, p.1.key = some k ∧ k.depth ≤ 8 ∧ e.2.1 = k.hash w) kvs es
  nd : (kvs.map (·.1.key)).Nodup
def OR (w : World) (K : PySem.W.Frag) (H : Hp) (R : List Addr) : O → Addr → Prop
  | .lst xs, a => ∃ vs, H a = some (.lst vs) ∧ VRs K H R xs vs
  | .dct ep kvs, a => ∃ es, H a = some (.ext (DictX a ep es)) ∧ DR w K H R kvs es
structure HRel (w : World) (K : PySem.W.Frag) (R : List Addr) (h : Hh) (H : Hp) : Prop where
  len : R.length = h.length
  nd : R.Nodup
  ob : ∀ (n : Nat) (o : O) (a : Addr), h[n]? = some o → R[n]? = some a → OR w K H R o a

section
variable {w : World} {K : PySem.W.Frag} {H H' H1 H2 : Hp} {R R' R1 R2 : List Addr} {h h' : Hh}
theorem DR.mono (e : Ext K R H R' H') {kvs : List (D × D)} {es : List DE} (r : DR w K H R kvs es) : DR w K H' R' kvs es :=
  ⟨L2.Paired.mapP r.rel fun p q z => ⟨VR.mono e z.1, VR.mono e z.2.1, z.2.2⟩, r.nd⟩
theorem HRel.at (r : HRel w K R h H) {n : Nat} {o : O} (e : h[n]? = some o) : ∃ a, R[n]? = some a ∧ OR w K H R o a := by
  have hn := (List.getElem?_eq_some_iff.mp e).1
  have : n < R.length := by rw [r.len]; exact hn
  exact ⟨R[n], List.getElem?_eq_getElem this, r.ob n o _ e (List.getElem?_eq_getElem this)⟩
/-- what stands at a number's place -/
theorem OR.tracked {o : O} {a : Addr} (r : OR w K H R o a) : ∃ u, H a = some u ∧ (∀ xs, u ≠ HO.tup xs) ∧ ∀ t x, u ≠ HO.frz t x := by
  cases o with
  | lst xs => obtain ⟨vs, e, _⟩ := r; exact ⟨_, e, (fun _ z => by cases z), fun _ _ z => by cases z⟩
  | dct ep kvs => obtain ⟨vs, e, _⟩ := r; exact ⟨_, e, (fun _ z => by cases z), fun _ _ z => by cases z⟩
/-- the description of an object stays where its own place and the tuples stay -/
theorem OR.stay {o : O} {a : Addr} (r : OR w K H R o a) (e : Ext K R H R' H') (k : ∀ u, H a = some u → H' a = some u) : OR w K H' R' o a := by
  cases o with
  | lst xs => obtain ⟨vs, q, z⟩ := r; exact ⟨vs, k _ q, VRs.mono e z⟩
  | dct ep kvs => obtain ⟨es, q, z⟩ := r; exact ⟨es, k _ q, z.mono e⟩
theorem HRel.lives (r : HRel w K R h H) {n : Nat} {a : Addr} (e : R[n]? = some a) : ∃ u, H a = some u ∧ (∀ xs, u ≠ HO.tup xs) ∧ ∀ t x, u ≠ HO.frz t x := by
  have hn : n < h.length := by rw [← r.len]; exact (List.getElem?_eq_some_iff.mp e).1
  exact (r.ob n _ a (List.getElem?_eq_getElem hn) e).tracked
theorem HRel.free (r : HRel w K R h H) {p : Addr} (hp : H p = none) : p ∉ R := fun hm => by
  obtain ⟨n, e⟩ := List.mem_iff_getElem?.mp hm
  obtain ⟨u, q, _⟩ := r.lives e
  rw [hp] at q; cases q
theorem upd_keep {p a : Addr} {o u : HO} (hp : H p = none) (h : H a = some u) : upd H p o a = some u := by rw [upd_ne (ne_of_none h hp)]; exact h
/-- a new tuple, or anything that no number stands for -/
theorem HRel.new {p : Addr} {o : HO} (r : HRel w K R h H) (hp : H p = none) : HRel w K R h (upd H p o) :=
  ⟨r.len, r.nd, fun n u a e1 e2 => (r.ob n u a e1 e2).stay (Ext.new hp) fun v q => upd_keep hp q⟩
/-- a new object, with a number of its own -/
theorem HRel.push {p : Addr} {o : HO} {u : O} (r : HRel w K R h H) (hp : H p = none) (x : OR w K (upd H p o) (R ++ [p]) u p) : HRel w K (R ++ [p]) (h ++ [u]) (upd H p o) := by
  refine ⟨by rw [List.length_append, List.length_append, r.len]; rfl, ?_, fun n u' a e1 e2 => ?_⟩
  · rw [List.nodup_append]
    exact ⟨r.nd, by simp, fun a ha b hb e => by
      rw [List.mem_singleton] at hb
      subst hb; subst e
      exact r.free hp ha⟩
  · by_cases hn : n < h.length
    · rw [List.getElem?_append_left hn] at e1
      rw [List.getElem?_append_left (by rw [r.len]; exact hn)] at e2
      exact (r.ob n u' a e1 e2).stay (Ext.more p (Ext.new hp)) fun v q => upd_keep hp q
    · have h1 := (List.getElem?_eq_some_iff.mp e1).1
      rw [List.length_append, List.length_singleton] at h1
      have e : n = h.length := by omega
      subst e
      rw [List.getElem?_append_right (Nat.le_refl _), Nat.sub_self] at e1
      rw [List.getElem?_append_right (by rw [r.len]; exact Nat.le_refl _), r.len, Nat.sub_self] at e2
      simp at e1 e2
      subst e1; subst e2
      exact x
theorem HRel.ext (r : HRel w K R h H) {n : Nat} {p : Addr} {o : HO} (e : R[n]? = some p) : Ext K R H R (upd H p o) := by
  obtain ⟨u, q, n1, n2⟩ := r.lives e
  exact Ext.put (fun xs z => by rw [q] at z; exact n1 xs (Option.some.inj z)) (fun t xs z => by rw [q] at z; exact n2 t _ (Option.some.inj z)) fun t xs z => by rw [q] at z; exact n2 t _ (Option.some.inj z)
/-- an object is changed -/
theorem HRel.put {n : Nat} {p : Addr} {o : HO} {u' : O} (r : HRel w K R h H) (e2 : R[n]? = some p) (x : Ext K R H R (upd H p o) → OR w K (upd H p o) R u' p) : HRel w K R (h.set n u') (upd H p o) := by
  have ex : Ext K R H R (upd H p o) := r.ext e2
  have hn : n < h.length := by rw [← r.len]; exact (List.getElem?_eq_some_iff.mp e2).1
  refine ⟨by rw [List.length_set]; exact r.len, r.nd, fun i v a q1 q2 => ?_⟩
  by_cases hk : n = i
  · subst hk
    rw [List.getElem?_set_self hn] at q1
    rw [e2] at q2
    cases q1; cases q2
    exact x ex
  · rw [List.getElem?_set_ne hk] at q1
    refine (r.ob i v a q1 q2).stay ex fun y q => ?_
    have ha : a ≠ p := fun e => by
      subst e
      exact hk (List.getElem?_inj (List.getElem?_eq_some_iff.mp e2).1 r.nd |>.mp (e2.trans q2.symm))
    rw [upd_ne ha]; exact q
/-- the first n numbers alone -/
theorem HRel.take (r : HRel w K R h H) (n : Nat) (c : ∀ i o a, h[i]? = some o → R[i]? = some a → i < n → OR w K H (R.take n) o a) : HRel w K (R.take n) (h.take n) H := by
  refine ⟨by rw [List.length_take, List.length_take, r.len], r.nd.sublist (List.take_sublist _ _), fun i o a e1 e2 => ?_⟩
  have hi : i < n := by
    have := (List.getElem?_eq_some_iff.mp e1).1
    rw [List.length_take] at this
    omega
  rw [List.getElem?_take_of_lt hi] at e1 e2
  exact c i o a e1 e2 hi
end
end Z
set_option Elab.async false
set_option linter.all false
set_option maxRecDepth 100000
set_option maxHeartbeats 4000000
namespace Z
open PySem L2

/-! ### what the operations do -/
def signs (x : Str) : List D := x.cps.toList.map fun c => D.str ⟨#[c]⟩
def bindM {α β : Type} (m : Option (α × Hh)) (k : α → Hh → Option (β × Hh)) : Option (β × Hh) := match m with
  | none => none
  | some (a, h) => k a h
@[simp] theorem bindM_some {α β : Type} (a : α) (h : Hh) (k : α → Hh → Option (β × Hh)) : bindM (some (a, h)) k = k a h := rfl
@[simp] theorem bindM_none {α β : Type} (k : α → Hh → Option (β × Hh)) : bindM none k = none := rfl
theorem bindM_ok {α β : Type} {m : Option (α × Hh)} {k : α → Hh → Option (β × Hh)} {r : β × Hh} (e : bindM m k = some r) : ∃ a h, m = some (a, h) ∧ k a h = some r := by
  cases m with
  | none => cases e
  | some p => exact ⟨p.1, p.2, rfl, e⟩

mutual
/-- all numbers in it are below n -/
def D.cl (n : Nat) : D → Bool
  | .ref k => decide (k < n)
  | .tup xs => D.cls n xs
  | .rol xs => D.cls n xs
  | _ => true
def D.cls (n : Nat) : List D → Bool
  | [] => true
  | x :: xs => D.cl n x && D.cls n xs
end
def kvcl (n : Nat) : List (D × D) → Bool
  | [] => true
  | p :: r => D.cl n p.1 && D.cl n p.2 && kvcl n r
def O.cl (n : Nat) : O → Bool
  | .lst xs => D.cls n xs
  | .dct _ kvs => kvcl n kvs
def hcl (n : Nat) : List O → Bool
  | [] => true
  | o :: r => o.cl n && hcl n r
/-- forget all objects from n on, where nothing of what stays speaks of them -/
def gc (n : Nat) (vs : List D) (h : Hh) : Hh := if (D.cls n vs && hcl n (h.take n)) = true then h.take n else h

def isTrueD (h : Hh) : D → Option Bool
  | .non => some false
  | .bl b => some b
  | .int i => some (i != 0)
  | .str x => if x.length ≤ sizeLine then some (x.length != 0) else none
  | .tup xs => some (!xs.isEmpty)
  | .rol xs => some (!xs.isEmpty)
  | .ref n => match h[n]? with
    | some (.lst xs) => some (!xs.isEmpty)
    | some (.dct _ kvs) => some (!kvs.isEmpty)
    | none => none

def newL (xs : List D) : M D := fun h => if xs.length ≤ sizeLine then some (.ref h.length, h ++ [.lst xs]) else none
def newT (xs : List D) : M D := fun h => if xs.length ≤ sizeLine then some (.tup xs, h) else none

def binD (o : Operator) (x y : D) : M D := fun h => match o, x, y with
  | .Add, .int i, .int j => some (.int (i + j), h)
  | .Add, .str a, .str b => if a.length + b.length ≤ sizeLine then some (.str (a ++ b), h) else none
  | .Add, .tup a, .tup b => newT (a ++ b) h
  | .Add, .ref a, .ref b => match h[a]?, h[b]? with
    | some (.lst xs), some (.lst ys) => newL (xs ++ ys) h
    | _, _ => none
  | .Sub, .int i, .int j => some (.int (i - j), h)
  | .Mult, .int i, .int j => if i.natAbs.log2 + j.natAbs.log2 < 1000000 then some (.int (i * j), h) else none
  | .Mult, .ref a, .int k => match h[a]? with
    | some (.lst xs) => if -(2 ^ 63) ≤ k ∧ k < 2 ^ 63 ∧ xs.length * k.toNat ≤ sizeLine then newL (List.replicate k.toNat xs).flatten h else none
    | _ => none
  | .Mod, .int i, .int j => if 0 < j then some (.int (i % j), h) else none
  | .FloorDiv, .int i, .int j => if 0 < j ∧ j.natAbs.log2 < 9000 then some (.int (i / j), h) else none
  | .Pow, .int i, .int j => if 0 ≤ j ∧ j ≤ 1000000 ∧ i.natAbs < 2 ^ 64 then some (.int (i ^ j.toNat), h) else none
  | .LShift, .int i, .int j => if 0 ≤ j ∧ j ≤ 1000000 ∧ i.natAbs < 2 ^ 64 then some (.int (i * 2 ^ j.toNat), h) else none
  | .BitAnd, .int i, .int j => some (.int (Builtin.bitAnd i j), h)
  | _, _, _ => none

/-! ### == -/
def lstAt (h : Hh) (n : Nat) : Option (List D) := match h[n]? with
  | some (.lst xs) => some xs
  | _ => none
/-- place by place, as far as both go -/
def eqL (f : D → D → Option Bool) : List D → List D → Option Bool
  | x :: xs, y :: ys => match f x y, eqL f xs ys with
    | some a, some b => some (a && b)
    | _, _ => none
  | _, _ => some true
/-- == of data that is nested less than so deep; not yet of a dict and another one -/
def eqF (h : Hh) : Nat → D → D → Option Bool
  | 0, _, _ => none
  | n + 1, x, y => match x, y with
    | .non, .non => some true
    | .bl a, .bl b => some (a == b)
    | .bl a, .int j => some ((if a = true then 1 else 0) == j)
    | .int i, .bl b => some (i == (if b = true then 1 else 0))
    | .int i, .int j => some (i == j)
    | .str a, .str b => some (a == b)
    | .tup xs, .tup ys => (eqL (eqF h n) xs ys).map fun b => b && xs.length == ys.length
    | .ref a, .ref b => if a = b then some true else match lstAt h a, lstAt h b with
      | some xs, some ys => if xs.length = ys.length then eqL (eqF h n) xs ys else some false
      | _, _ => none
    | .ref a, .non => (lstAt h a).map fun _ => false
    | .ref a, .bl _ => (lstAt h a).map fun _ => false
    | .ref a, .int _ => (lstAt h a).map fun _ => false
    | .ref a, .str _ => (lstAt h a).map fun _ => false
    | .ref a, .tup _ => (lstAt h a).map fun _ => false
    | .non, .ref b => (lstAt h b).map fun _ => false
    | .bl _, .ref b => (lstAt h b).map fun _ => false
    | .int _, .ref b => (lstAt h b).map fun _ => false
    | .str _, .ref b => (lstAt h b).map fun _ => false
    | .tup _, .ref b => (lstAt h b).map fun _ => false
    | .rol _, _ => none
    | _, .rol _ => none
    | _, _ => some false
/-- as x == y asks it first: a list is not asked whether it is itself -/
def eqD (h : Hh) (x y : D) : Option Bool := match x, y with
  | .ref a, .ref b => match lstAt h a, lstAt h b with
    | some xs, some ys => if a = b then some true else if xs.length = ys.length then eqL (eqF h 30) xs ys else some false
    | _, _ => none
  | _, _ => eqF h 30 x y

/-! ### < -/
def intsOf : List D → Option (List Int)
  | [] => some []
  | .int i :: r => (intsOf r).map (i :: ·)
  | _ :: _ => none
def lt0 : D → D → Option Bool
  | .int i, .int j => some (decide (i < j))
  | .str a, .str b => some (decide (a.cps.toList < b.cps.toList))
  | .tup xs, .tup ys => match intsOf xs, intsOf ys with
    | some ns, some ms => some (HT.lexLt ns ms)
    | _, _ => none
  | _, _ => none

/-- x in the items: all of them can be asked -/
def memD (h : Hh) (x : D) : List D → Option Bool
  | [] => some false
  | y :: ys => match eqF h 30 y x, memD h x ys with
    | some a, some b => some (a || b)
    | _, _ => none
def findK (k : NestedKey) : List (D × D) → Option D
  | [] => none
  | p :: r => if p.1.key = some k then some p.2 else findK k r
def putK (k : NestedKey) (x v : D) : List (D × D) → List (D × D)
  | [] => [(x, v)]
  | p :: r => if p.1.key = some k then (p.1, v) :: r else p :: putK k x v r
def dropK (k : NestedKey) : List (D × D) → List (D × D)
  | [] => []
  | p :: r => if p.1.key = some k then r else p :: dropK k r
def keyOf (x : D) : Option NestedKey := match x.key with
  | some k => if k.depth ≤ 8 then some k else none
  | none => none
def inD (h : Hh) (x y : D) : Option Bool := match y with
  | .tup ys => memD h x ys
  | .str z => match x with
    | .str a => match a.cps.toList with
      | [c] => some (decide (c ∈ z.cps.toList))
      | _ => none
    | _ => none
  | .ref n => match h[n]? with
    | some (.lst ys) => memD h x ys
    | some (.dct _ kvs) => (keyOf x).map fun k => (findK k kvs).isSome
    | none => none
  | _ => none
def cmpD (o : CmpOp) (x y : D) (h : Hh) : Option Bool := match o with
  | .Eq => eqD h x y
  | .NotEq => (eqD h x y).map not
  | .Lt => lt0 x y
  | .Gt => (match x, y with
    | .int i, .int j => some (decide (j < i))
    | .str a, .str b => some (decide (b.cps.toList < a.cps.toList))
    | _, _ => none)
  | .LtE => (match x, y with
    | .int i, .int j => some (decide (i ≤ j))
    | .str a, .str b => some (!decide (b.cps.toList < a.cps.toList))
    | _, _ => none)
  | .GtE => (match x, y with
    | .int i, .int j => some (decide (j ≤ i))
    | .str a, .str b => some (!decide (a.cps.toList < b.cps.toList))
    | _, _ => none)
  | .In => inD h x y
  | .NotIn => (inD h x y).map not
  | .Is => (match y with | .non => (match x with | .non => some true | _ => some false) | _ => none)
  | .IsNot => (match y with | .non => (match x with | .non => some false | _ => some true) | _ => none)

/-! ### items, slices, stores -/
def idxD (x i : D) (h : Hh) : Option D := match x with
  | .tup xs => (match i with | .int k => atI xs k | _ => none)
  | .rol xs => (match i with | .int k => atI xs k | _ => none)
  | .str z => (match i with | .int k => if z.length ≤ sizeLine then (atI z.cps.toList k).map fun c => .str ⟨#[c]⟩ else none | _ => none)
  | .ref n => (match h[n]? with
    | some (.lst xs) => (match i with | .int k => atI xs k | _ => none)
    | some (.dct _ kvs) => (keyOf i).bind fun k => findK k kvs
    | none => none)
  | _ => none
def cutD {α : Type} (xs : List α) (lo hi : Option Int) : List α := (xs.drop (HT.sIx xs.length 0 lo)).take (HT.sIx xs.length xs.length hi - HT.sIx xs.length 0 lo)
def slcD (x : D) (lo hi : Option Int) : M D := fun h => match x with
  | .tup xs => some (.tup (cutD xs lo hi), h)
  | .rol xs => some (.ref h.length, h ++ [.lst (cutD xs lo hi)])
  | .str z => if z.length ≤ sizeLine then some (.str (cutS z lo hi), h) else none
  | .ref n => (match h[n]? with
    | some (.lst xs) => some (.ref h.length, h ++ [.lst (cutD xs lo hi)])
    | _ => none)
  | _ => none
def setD (x i v : D) (h : Hh) : Option Hh := match x with
  | .ref n => (match h[n]? with
    | some (.lst xs) => (match i with
      | .int k => (ixN xs.length k).map fun j => h.set n (.lst (xs.set j v))
      | _ => none)
    | some (.dct ep kvs) => (keyOf i).bind fun k => if kvs.length < sizeLine then some (h.set n (.dct (if (findK k kvs).isSome = true then ep else ep + 1) (putK k i v kvs))) else none
    | _ => none)
  | _ => none

/-! ### what is walked -/
def listOf (h : Hh) : D → Option (List D)
  | .tup xs => some xs
  | .rol xs => some xs
  | .str x => some (signs x)
  | .ref n => match h[n]? with
    | some (.lst xs) => some xs
    | some (.dct _ kvs) => some (kvs.map (·.1))
    | none => none
  | _ => none
/-- .. of a list or a tuple alone -/
def seqOf (h : Hh) : D → Option (List D)
  | .tup xs => some xs
  | .rol xs => some xs
  | .ref n => match h[n]? with
    | some (.lst xs) => some xs
    | _ => none
  | _ => none
inductive Sv where
  | sta (xs : List D) | lst (n : Nat) | key (n ep len : Nat) | itm (n ep len : Nat) | enu (n : Nat) | zip (a b : Nat)
/-- the i-th turn's item, none where the walk ends -/
def Sv.at (h : Hh) (i : Nat) : Sv → Option (Option D)
  | .sta xs => some xs[i]?
  | .lst n => (lstAt h n).map fun xs => xs[i]?
  | .key n ep len => match h[n]? with
    | some (.dct ep' kvs) => if ep' = ep ∧ kvs.length = len then some (kvs[i]?.map (·.1)) else none
    | _ => none
  | .itm n ep len => match h[n]? with
    | some (.dct ep' kvs) => if ep' = ep ∧ kvs.length = len then some (kvs[i]?.map fun p => .tup [p.1, p.2]) else none
    | _ => none
  | .enu n => (lstAt h n).map fun xs => xs[i]?.map fun x => .tup [.int i, x]
  | .zip a b => match lstAt h a, lstAt h b with
    | some xs, some ys => some (match xs[i]?, ys[i]? with
      | some x, some y => some (.tup [x, y])
      | _, _ => none)
    | _, _ => none
def Sv.len (h : Hh) : Sv → Nat
  | .sta xs => xs.length
  | .lst n => ((lstAt h n).getD []).length
  | .key _ _ len => len
  | .itm _ _ len => len
  | .enu n => ((lstAt h n).getD []).length
  | .zip a _ => ((lstAt h a).getD []).length
def overD (d : D) (h : Hh) : Option Sv := match d with
  | .tup xs => some (.sta xs)
  | .rol xs => some (.sta xs)
  | .str x => some (.sta (signs x))
  | .ref n => (match h[n]? with
    | some (.lst _) => some (.lst n)
    | some (.dct ep kvs) => some (.key n ep kvs.length)
    | none => none)
  | _ => none
def numb (i : Nat) : List D → List D
  | [] => []
  | x :: xs => .tup [.int i, x] :: numb (i + 1) xs
def enumD (d : D) (h : Hh) : Option Sv := match d with
  | .tup xs => some (.sta (numb 0 xs))
  | .str x => some (.sta (numb 0 (signs x)))
  | .ref n => (match h[n]? with
    | some (.lst _) => some (.enu n)
    | _ => none)
  | _ => none
def pairs : List D → List D → List D
  | x :: xs, y :: ys => .tup [x, y] :: pairs xs ys
  | _, _ => []
def zipD (d e : D) (h : Hh) : Option Sv := match d, e with
  | .tup xs, .tup ys => some (.sta (pairs xs ys))
  | .ref a, .ref b => (match lstAt h a, lstAt h b with
    | some _, some _ => some (.zip a b)
    | _, _ => none)
  | _, _ => none
def itemsD (d : D) (h : Hh) : Option Sv := match d with
  | .ref n => (match h[n]? with
    | some (.dct ep kvs) => some (.itm n ep kvs.length)
    | _ => none)
  | _ => none
def intsFrom (lo : Int) : Nat → List D
  | 0 => []
  | n + 1 => .int lo :: intsFrom (lo + 1) n
def rangeD : List D → Option Sv
  | [.int j] => if -(2 ^ 62) ≤ j ∧ j < 2 ^ 62 then some (.sta (intsFrom 0 j.toNat)) else none
  | [.int i, .int j] => if -(2 ^ 62) ≤ i ∧ i < 2 ^ 62 ∧ -(2 ^ 62) ≤ j ∧ j < 2 ^ 62 then some (.sta (intsFrom i (j - i).toNat)) else none
  | _ => none

/-! ### the built-ins -/
inductive Bf where
  | len | int | list | tuple | sorted | repr | dict | all | any
  deriving DecidableEq, Inhabited
inductive Mt where
  | append | pop | popAt | join | strip | index | get2 | clear | count | setdef
  deriving DecidableEq, Inhabited
inductive Ty where
  | int | str | bool | tuple | list | dict
  deriving DecidableEq, Inhabited

mutual
/-- the value as the library's data, its lists and dicts by f -/
def py0 (f : Nat → Option PyData) : D → Option PyData
  | .non => some .none
  | .bl b => some (.bool b)
  | .int i => some (.int i)
  | .str x => some (.str x)
  | .tup xs => (pys0 f xs).map .tuple
  | .rol xs => (pys0 f xs).map .list
  | .ref n => f n
def pys0 (f : Nat → Option PyData) : List D → Option (List PyData)
  | [] => some []
  | x :: xs => match py0 f x, pys0 f xs with
    | some d, some ds => some (d :: ds)
    | _, _ => none
end
def kvs0 (f : Nat → Option PyData) : List (D × D) → Option (List (PyData × PyData))
  | [] => some []
  | p :: r => match py0 f p.1, py0 f p.2, kvs0 f r with
    | some d, some e, some ds => some ((d, e) :: ds)
    | _, _, _ => none
def pyR (h : Hh) : Nat → Nat → Option PyData
  | 0, _ => none
  | k + 1, n => match h[n]? with
    | some (.lst xs) => (pys0 (pyR h k) xs).map .list
    | some (.dct _ kvs) => (kvs0 (pyR h k) kvs).map .dict
    | none => none
def pyD (h : Hh) (d : D) : Option PyData := py0 (pyR h 40) d
def reprD (d : D) (h : Hh) : Option Str := match d with
  | .tup _ => rep0 d h
  | .rol _ => rep0 d h
  | .ref _ => rep0 d h
  | _ => none
where rep0 (d : D) (h : Hh) : Option Str := match pyD h d with
  | some p => if p.showable = true ∧ p.shown.length ≤ sizeLine ∧ p.depth ≤ 60 ∧ p.hasDict = false then some p.shown else none
  | none => none

def insD (lt : D → D → Bool) (x : D) : List D → List D
  | [] => [x]
  | y :: ys => if lt x y = true then x :: y :: ys else y :: insD lt x ys
/-- sorted, equal ones as they stood -/
def sortB (lt : D → D → Bool) : List D → List D
  | [] => []
  | x :: xs => insB lt x (sortB lt xs)
where insB (lt : D → D → Bool) (x : D) : List D → List D
  | [] => [x]
  | y :: ys => if lt y x = true then y :: insB lt x ys else x :: y :: ys
def ltB (x y : D) : Bool := (lt0 x y).getD false
def isI : D → Bool
  | .int _ => true
  | _ => false
def isS : D → Bool
  | .str _ => true
  | _ => false
def isP : D → Bool
  | .tup [.int _, .int _] => true
  | _ => false
def kI : D → Int
  | .int i => i
  | _ => 0
def kS : D → Str
  | .str x => x
  | _ => ⟨#[]⟩
def kP : D → Int × Int
  | .tup [.int i, .int j] => (i, j)
  | _ => (0, 0)
def ltI (x y : D) : Bool := decide (kI x < kI y)
def ltS (x y : D) : Bool := decide ((kS x).cps.toList < (kS y).cps.toList)
def ltPr (x y : D) : Bool := if (kP x).1 = (kP y).1 then decide ((kP x).2 < (kP y).2) else decide ((kP x).1 < (kP y).1)
def sortD (xs : List D) : Option (List D) := if xs.all isI = true then some (sortB ltI xs) else if xs.all isP = true then some (sortB ltPr xs) else none
/-- each but once, in the order of first places -/
def onceD : List D → List D
  | [] => []
  | x :: xs => x :: (onceD xs).filter fun y => decide (y.key ≠ x.key)
def bools : List D → Option (List Bool)
  | [] => some []
  | .bl b :: r => (bools r).map (b :: ·)
  | _ :: _ => none
def strsOf : List D → Option (List Str)
  | [] => some []
  | .str b :: r => (strsOf r).map (b :: ·)
  | _ :: _ => none
def addKvs : List D → List (D × D) → Option (List (D × D))
  | [], acc => some acc
  | .tup [k, v] :: r, acc => (keyOf k).bind fun q => addKvs r (putK q k v acc)
  | _ :: _, _ => none

/-- how often it stands there -/
def cntD (h : Hh) (x : D) : List D → Option Nat
  | [] => some 0
  | y :: ys => match eqF h 30 y x, cntD h x ys with
    | some a, some n => some (if a = true then n + 1 else n)
    | _, _ => none
/-- where it stands first -/
def fstD (h : Hh) (x : D) : List D → Option Nat
  | [] => none
  | y :: ys => match eqF h 30 y x with
    | some true => if (ys.all fun z => (eqF h 30 z x).isSome) = true then some 0 else none
    | some false => (fstD h x ys).map (· + 1)
    | none => none
/-- a list, a dict, a text, a tuple -/
def kindD (h : Hh) : D → Nat
  | .ref n => match h[n]? with
    | some (.lst _) => 1
    | some (.dct _ _) => 2
    | none => 0
  | .str _ => 3
  | .tup _ => 4
  | _ => 0
def opt {α : Type} (h : Hh) : Option α → Option (α × Hh)
  | some b => some (b, h)
  | none => none
def lenD (h : Hh) : D → Option D
  | .str x => if x.length ≤ sizeLine then some (.int x.length) else none
  | .tup ys => some (.int ys.length)
  | .rol ys => some (.int ys.length)
  | .ref n => match h[n]? with
    | some (.lst ys) => some (.int ys.length)
    | some (.dct _ kvs) => some (.int kvs.length)
    | none => none
  | _ => none
def intD : D → Option D
  | .int i => some (.int i)
  | .bl b => some (.int (if b = true then 1 else 0))
  | _ => none
def lstM (x : D) : M D := fun h => (listOf h x).bind fun ys => newL ys h
def tupM (x : D) : M D := fun h => (seqOf h x).bind fun ys => newT ys h
def itmOf (h : Hh) : D → Option (List D)
  | .str _ => none
  | x => listOf h x
def srtM (x : D) : M D := fun h => (itmOf h x).bind fun ys => (sortD ys).bind fun zs => newL zs h
def dicM (x : D) : M D := fun h => (seqOf h x).bind fun ys => (addKvs ys []).map fun kvs => (.ref h.length, h ++ [.dct 0 kvs])
def allD (h : Hh) (f : List Bool → Bool) (x : D) : Option D := (seqOf h x).bind fun ys => (bools ys).map fun bs => .bl (f bs)
def semB (b : Bf) (xs : List D) : M D := match xs with
  | [x] => fun h => match b with
    | .len => opt h (lenD h x)
    | .int => opt h (intD x)
    | .list => lstM x h
    | .tuple => tupM x h
    | .sorted => srtM x h
    | .repr => opt h ((reprD x h).map .str)
    | .dict => dicM x h
    | .all => opt h (allD h (·.all id) x)
    | .any => opt h (allD h (·.any id) x)
  | _ => fun _ => none
def semM (m : Mt) (x : D) (xs : List D) : M D := fun h => match m, x, xs with
  | .append, .ref n, [v] => (match h[n]? with
    | some (.lst ys) => if ys.length < sizeLine then some (.non, h.set n (.lst (ys ++ [v]))) else none
    | _ => none)
  | .popAt, .ref n, [v] => (match h[n]? with
    | some (.lst ys) => (match v with
      | .int i => (ixN ys.length i).bind fun k => ys[k]?.map fun y => (y, h.set n (.lst (ys.eraseIdx k)))
      | _ => none)
    | _ => none)
  | .pop, .ref n, [] => (match h[n]? with
    | some (.lst ys) => ys.getLast?.map fun y => (y, h.set n (.lst ys.dropLast))
    | _ => none)
  | .join, .str s, [d] => (seqOf h d).bind fun ys => (strsOf ys).bind fun zs =>
      if (zs.map (·.length)).sum + zs.length * s.length ≤ sizeLine then some (.str (Txt.join s zs), h) else none
  | .get2, .ref n, [k, v] => (match h[n]? with
    | some (.dct _ kvs) => (keyOf k).map fun q => ((findK q kvs).getD v, h)
    | _ => none)
  | .setdef, .ref n, [k, v] => (match h[n]? with
    | some (.dct ep kvs) => (keyOf k).bind fun q => match findK q kvs with
      | some y => some (y, h)
      | none => if kvs.length < sizeLine then some (v, h.set n (.dct (ep + 1) (kvs ++ [(k, v)]))) else none
    | _ => none)
  | .strip, .str a, [.str b] => if a.length ≤ sizeLine then some (.str (Txt.stripChars a b), h) else none
  | .count, .ref n, [x] => (match h[n]? with
    | some (.lst ys) => (cntD h x ys).map fun k => (.int (k : Nat), h)
    | _ => none)
  | .index, .ref n, [x] => (match h[n]? with
    | some (.lst ys) => (fstD h x ys).map fun k => (.int (k : Nat), h)
    | _ => none)
  | .clear, .ref n, [] => (match h[n]? with
    | some (.lst _) => some (.non, h.set n (.lst []))
    | _ => none)
  | _, _, _ => none
def isiD (h : Hh) (d : D) : Ty → Option Bool
  | .int => some (match d with | .int _ => true | .bl _ => true | _ => false)
  | .bool => some (match d with | .bl _ => true | _ => false)
  | .str => some (match d with | .str _ => true | _ => false)
  | .tuple => some (match d with | .tup _ => true | _ => false)
  | .list => (match d with
    | .rol _ => some true
    | .ref n => (match h[n]? with | some (.lst _) => some true | some (.dct _ _) => some false | none => none)
    | _ => some false)
  | .dict => (match d with
    | .ref n => (match h[n]? with | some (.lst _) => some false | some (.dct _ _) => some true | none => none)
    | _ => some false)
def isisD (h : Hh) (d : D) : List Ty → Option Bool
  | [] => some false
  | t :: r => match isiD h d t, isisD h d r with
    | some a, some b => some (a || b)
    | _, _ => none

/-! ### the little language -/
abbrev Fn := List D → M D
inductive Tg where
  | nm (i : Nat) | tp (is : List Nat)
  deriving DecidableEq, Inhabited
mutual
inductive Ex where
  | var (i : Nat)
  | cst (d : D)
  | gcst (x : Str) (d : D)
  | bin (o : Operator) (a b : Ex)
  | neg (a : Ex)
  | nt (a : Ex)
  | and2 (a b : Ex)
  | or2 (a b : Ex)
  | cmp (o : CmpOp) (a b : Ex)
  | chn (o p : CmpOp) (a b c : Ex)
  | ife (t : Te) (a b : Ex)
  | call (x : Str) (g : Fn) (es : List Ex)
  | blt (b : Bf) (es : List Ex)
  | mth (m : Mt) (o : Ex) (es : List Ex)
  | isi (e : Ex) (ts : List Ty)
  | idx (a i : Ex)
  | slc (a : Ex) (lo hi : List Ex)
  | lst (es : List Ex)
  | tup (es : List Ex)
  | dic (ks vs : List Ex)
  | lc (own : List (Str × Nat)) (tg : Tg) (src : Sr) (cond : List Te) (elt : Ex)
  | lc2 (own : List (Str × Nat)) (vs1 : List Nat) (tg : Tg) (src : Sr) (cond : List Te) (tg1 : Tg) (src1 : Sr) (cond1 : List Te) (elt : Ex)
  | dc (own : List (Str × Nat)) (tg : Tg) (src : Sr) (k v : Ex)
  | sset (e : Ex)
  | lset (e : Ex)
/-- a test -/
inductive Te where
  | val (e : Ex)
  | nt (t : Te)
  | and2 (t u : Te)
  | or2 (t u : Te)
  | cm (o : CmpOp) (a b : Ex)
  | ch (o p : CmpOp) (a b c : Ex)
/-- what is walked -/
inductive Sr where
  | over (e : Ex)
  | rng (es : List Ex)
  | enm (e : Ex)
  | zp (a b : Ex)
  | itms (e : Ex)
end
inductive Sm where
  | asg (t : Tg) (e : Ex)
  | par (is : List Nat) (xs : List Ex)
  | sub (a i e : Ex)
  | aug (i : Nat) (o : Operator) (e : Ex)
  | ret (e : Ex)
  | retN
  | ex (e : Ex)
  | ifs (t : Te) (a b : List Sm)
  | fr (t : Tg) (src : Sr) (b : List Sm)
  | whl (t : Te) (b : List Sm)
  | brk | cnt | pas
inductive Fl where
  | nx (e : List (Option D)) | brk (e : List (Option D)) | cnt (e : List (Option D)) | ret (d : D)
abbrev En := List (Option D)
def wipeE (e : En) : List Nat → En
  | [] => e
  | v :: vs => (wipeE e vs).set v none
def sets : List Nat → List D → En → Option En
  | [], [], e => some e
  | i :: is, d :: ds, e => sets is ds (e.set i (some d))
  | _, _, _ => none
def assignD (t : Tg) (d : D) (e : En) : Option En := match t with
  | .nm i => some (e.set i (some d))
  | .tp is => (match d with
    | .tup ds => sets is ds e
    | _ => none)
def getVar (e : En) (i : Nat) (h : Hh) : Option (D × Hh) := match e[i]? with
  | some (some d) => some (d, h)
  | _ => none
def forI (body : D → En → Hh → Option (Fl × Hh)) (tg : Tg) (sv : Sv) : Nat → Nat → En → Hh → Option (Fl × Hh)
  | 0, _, _, _ => none
  | f + 1, i, e, h => match sv.at h i with
    | none => none
    | some none => some (.nx e, h)
    | some (some x) => match assignD tg x e with
      | none => none
      | some e1 => bindM (body x e1 h) fun r h1 => match r with
        | .nx e2 => forI body tg sv f (i + 1) e2 h1
        | .cnt e2 => forI body tg sv f (i + 1) e2 h1
        | .brk e2 => some (.nx e2, h1)
        | .ret d => some (.ret d, h1)
def whileI (test : En → Hh → Option (Bool × Hh)) (body : En → Hh → Option (Fl × Hh)) : Nat → En → Hh → Option (Fl × Hh)
  | 0, _, _ => none
  | f + 1, e, h => bindM (test e h) fun b h1 => if b = true then bindM (body e h1) fun r h2 => match r with
        | .nx e2 => whileI test body f e2 h2
        | .cnt e2 => whileI test body f e2 h2
        | .brk e2 => some (.nx e2, h2)
        | .ret d => some (.ret d, h2)
      else some (.nx e, h1)
/-- turns of a block, what each leaves behind forgotten from g on -/
def overI (g : Nat) (body : D → Hh → Option Hh) (sv : Sv) : Nat → Nat → Hh → Option Hh
  | 0, _, _ => none
  | f + 1, i, h => match sv.at h i with
    | none => none
    | some none => some h
    | some (some x) => match body x h with
      | none => none
      | some h1 => overI g body sv f (i + 1) (gc g [] h1)
/-- a turn whose item goes to the list at n -/
def appI (n : Nat) (turn : D → Hh → Option (Option D × Hh)) (x : D) (h : Hh) : Option Hh := match turn x h with
  | none => none
  | some (none, h1) => some h1
  | some (some y, h1) => match h1[n]? with
    | some (.lst acc) => if acc.length < sizeLine then some (h1.set n (.lst (acc ++ [y]))) else none
    | _ => none
def turnD (tg : Tg) (e0 : En) (cond : En → Hh → Option (Bool × Hh)) (elt : En → Hh → Option (D × Hh)) (x : D) (h : Hh) : Option (Option D × Hh) :=
  match assignD tg x e0 with
  | none => none
  | some e1 => bindM (cond e1 h) fun b h1 => if b = true then bindM (elt e1 h1) fun y h2 => some (some y, h2) else some (none, h1)
def dkvs : List D → List D → List (D × D) → Option (List (D × D))
  | [], [], acc => some acc
  | k :: ks, v :: vs, acc => (keyOf k).bind fun q => dkvs ks vs (putK q k v acc)
  | _, _, _ => none
mutual
def den : Ex → En → Hh → Option (D × Hh)
  | .var i, e, h => getVar e i h
  | .cst d, _, h => some (d, h)
  | .gcst _ d, _, h => some (d, h)
  | .bin o a b, e, h => bindM (den a e h) fun x h1 => bindM (den b e h1) fun y h2 => binD o x y h2
  | .neg a, e, h => bindM (den a e h) fun x h1 => (match x with | .int i => some (.int (-i), h1) | _ => none)
  | .nt a, e, h => bindM (den a e h) fun x h1 => opt h1 ((isTrueD h1 x).map fun b => .bl (!b))
  | .and2 a b, e, h => bindM (den a e h) fun x h1 => (match isTrueD h1 x with
    | none => none
    | some true => den b e h1
    | some false => some (x, h1))
  | .or2 a b, e, h => bindM (den a e h) fun x h1 => (match isTrueD h1 x with
    | none => none
    | some true => some (x, h1)
    | some false => den b e h1)
  | .cmp o a b, e, h => bindM (den a e h) fun x h1 => bindM (den b e h1) fun y h2 => opt h2 ((cmpD o x y h2).map .bl)
  | .chn o p a b c, e, h => bindM (den a e h) fun x h1 => bindM (den b e h1) fun y h2 => (match cmpD o x y h2 with
    | none => none
    | some false => some (.bl false, h2)
    | some true => bindM (den c e h2) fun z h3 => opt h3 ((cmpD p y z h3).map .bl))
  | .ife t a b, e, h => bindM (denT t e h) fun c h1 => if c = true then den a e h1 else den b e h1
  | .call _ g es, e, h => bindM (dens es e h) fun xs h1 => g xs h1
  | .blt b es, e, h => bindM (dens es e h) fun xs h1 => semB b xs h1
  | .mth m o es, e, h => bindM (den o e h) fun x h1 => bindM (dens es e h1) fun xs h2 => if kindD h2 x = kindD h1 x then semM m x xs h2 else none
  | .isi a ts, e, h => bindM (den a e h) fun x h1 => opt h1 ((isisD h1 x ts).map .bl)
  | .idx a i, e, h => bindM (den a e h) fun x h1 => bindM (den i e h1) fun y h2 => opt h2 (idxD x y h2)
  | .slc a lo hi, e, h => bindM (den a e h) fun x h1 => bindM (dens lo e h1) fun l h2 => bindM (dens hi e h2) fun u h3 =>
      (match l, u with
      | [], [] => slcD x none none h3
      | [.int i], [] => slcD x (some i) none h3
      | [], [.int j] => slcD x none (some j) h3
      | [.int i], [.int j] => slcD x (some i) (some j) h3
      | _, _ => none)
  | .lst es, e, h => bindM (dens es e h) fun xs h1 => newL xs h1
  | .tup es, e, h => bindM (dens es e h) fun xs h1 => newT xs h1
  | .dic [] [], _, h => some (.ref h.length, h ++ [.dct 0 []])
  | .dic ks vs, e, h => none
  | .lc own tg src cond elt, e, h => bindM (denI src e h) fun sv h1 =>
      (match overI (h1.length + 1) (appI h1.length (turnD tg (wipeE e (own.map (·.2))) (denC cond) (den elt))) sv (sv.len h1 + 1) 0 (h1 ++ [.lst []]) with
      | none => none
      | some h2 => some (.ref h1.length, h2))
  | .lc2 own vs1 tg src cond tg1 src1 cond1 elt, e, h => bindM (denI src e h) fun sv h1 =>
      (match overI (h1.length + 1) (fun x h2 => match assignD tg x (wipeE e (own.map (·.2))) with
          | none => none
          | some e1 => match denC cond e1 h2 with
            | none => none
            | some (false, h3) => some h3
            | some (true, h3) => match denI src1 e1 h3 with
              | none => none
              | some (sv1, h4) => overI h4.length (appI h1.length (turnD tg1 (wipeE e1 vs1) (denC cond1) (den elt))) sv1 (sv1.len h4 + 1) 0 h4)
        sv (sv.len h1 + 1) 0 (h1 ++ [.lst []]) with
      | none => none
      | some h2 => some (.ref h1.length, h2))
  | .dc own tg src k v, e, h => bindM (denI src e h) fun sv h1 =>
      (match overI (h1.length + 1) (fun x h2 => match assignD tg x (wipeE e (own.map (·.2))) with
          | none => none
          | some e1 => match den k e1 h2 with
            | none => none
            | some (dk, h3) => match den v e1 h3 with
              | none => none
              | some (dv, h4) => setD (.ref h1.length) dk dv h4)
        sv (sv.len h1 + 1) 0 (h1 ++ [.dct 0 []]) with
      | none => none
      | some h2 => some (.ref h1.length, h2))
  | .sset a, e, h => bindM (den a e h) fun x h1 => (listOf h1 x).bind fun ys => (sortD (onceD ys)).bind fun zs => newL zs h1
  | .lset a, e, h => bindM (den a e h) fun x h1 => (listOf h1 x).bind fun ys => some (.int (onceD ys).length, h1)
def dens : List Ex → En → Hh → Option (List D × Hh)
  | [], _, h => some ([], h)
  | a :: r, e, h => bindM (den a e h) fun x h1 => bindM (dens r e h1) fun xs h2 => some (x :: xs, h2)
/-- as a test -/
def denT : Te → En → Hh → Option (Bool × Hh)
  | .nt a, e, h => bindM (denT a e h) fun b h1 => some (!b, h1)
  | .and2 a b, e, h => bindM (denT a e h) fun c h1 => if c = true then denT b e h1 else some (false, h1)
  | .or2 a b, e, h => bindM (denT a e h) fun c h1 => if c = true then some (true, h1) else denT b e h1
  | .val x, e, h => bindM (den x e h) fun d h1 => opt h1 (isTrueD h1 d)
  | .cm o a b, e, h => bindM (den a e h) fun x h1 => bindM (den b e h1) fun y h2 => opt h2 (cmpD o x y h2)
  | .ch o p a b c, e, h => bindM (den a e h) fun x h1 => bindM (den b e h1) fun y h2 => (match cmpD o x y h2 with
    | none => none
    | some false => some (false, h2)
    | some true => bindM (den c e h2) fun z h3 => opt h3 (cmpD p y z h3))
/-- the tests of a clause -/
def denC : List Te → En → Hh → Option (Bool × Hh)
  | [], _, h => some (true, h)
  | [c], e, h => denT c e h
  | _, _, _ => none
/-- what is walked -/
def denI : Sr → En → Hh → Option (Sv × Hh)
  | .rng es, e, h => bindM (dens es e h) fun xs h1 => opt h1 (rangeD xs)
  | .enm a, e, h => bindM (den a e h) fun x h1 => opt h1 (enumD x h1)
  | .zp a b, e, h => bindM (den a e h) fun x h1 => bindM (den b e h1) fun y h2 => opt h2 (zipD x y h2)
  | .itms a, e, h => bindM (den a e h) fun x h1 => opt h1 (itemsD x h1)
  | .over x, e, h => bindM (den x e h) fun d h1 => opt h1 (overD d h1)
end
/-! ### statements -/
@[irreducible] def wfuel : Nat := 1000000000
def seqI (m k : En → Hh → Option (Fl × Hh)) (e : En) (h : Hh) : Option (Fl × Hh) := bindM (m e h) fun r h1 => match r with
  | .nx e1 => k e1 h1
  | r => some (r, h1)
def augD (o : Operator) (x y : D) : Option D := match o, x, y with
  | .Add, .int i, .int j => some (.int (i + j))
  | .Sub, .int i, .int j => some (.int (i - j))
  | _, _, _ => none
mutual
def denS : Sm → En → Hh → Option (Fl × Hh)
  | .asg t x, e, h => bindM (den x e h) fun d h1 => opt h1 ((assignD t d e).map .nx)
  | .par is xs, e, h => bindM (dens xs e h) fun ds h1 => opt h1 ((sets is ds e).map .nx)
  | .sub a i x, e, h => bindM (den x e h) fun d h1 => bindM (den a e h1) fun y h2 => bindM (den i e h2) fun k h3 => (setD y k d h3).map fun h4 => (.nx e, h4)
  | .aug i o x, e, h => bindM (getVar e i h) fun y h1 => bindM (den x e h1) fun z h2 => opt h2 ((augD o y z).map fun d => .nx (e.set i (some d)))
  | .ret x, e, h => bindM (den x e h) fun d h1 => some (.ret d, h1)
  | .retN, _, h => some (.ret .non, h)
  | .ex x, e, h => bindM (den x e h) fun _ h1 => some (.nx e, h1)
  | .ifs t a b, e, h => bindM (denT t e h) fun c h1 => if c = true then denSs a e h1 else denSs b e h1
  | .fr tg src b, e, h => bindM (denI src e h) fun sv h1 => forI (fun _ => denSs b) tg sv (sv.len h1 + 1) 0 e h1
  | .whl t b, e, h => whileI (denT t) (denSs b) wfuel e h
  | .brk, e, h => some (.brk e, h)
  | .cnt, e, h => some (.cnt e, h)
  | .pas, e, h => some (.nx e, h)
def denSs : List Sm → En → Hh → Option (Fl × Hh)
  | [], e, h => some (.nx e, h)
  | s :: r, e, h => seqI (denS s) (denSs r) e h
end
/-- a def's call: n places, np parameters -/
def runDef (n np : Nat) (body : List Sm) : Fn := fun ds h => if ds.length = np then (match denSs body (ds.map some ++ List.replicate (n - np) none) h with
    | some (.ret d, h') => some (d, gc h.length [d] h')
    | some (.nx _, h') => some (.non, gc h.length [] h')
    | _ => none) else none
theorem x2 : True := trivial
end Z
set_option Elab.async false
set_option linter.all false
set_option maxRecDepth 100000
set_option maxHeartbeats 4000000
namespace Z
open PySem L2

/-- what is wanted of a value and the heap behind it -/
def Fin (w : World) (K : PySem.W.Frag) (R : List Addr) (H : Hp) (d : D) (h : Hh) (Q : VK) : Prop := ∀ R' H' v, Ext K R H R' H' → HRel w K R' h H' → VR K H' R' d v → Q v H'
section
variable {w : World} {K : PySem.W.Frag} {H H' : Hp} {R R' : List Addr} {h h' : Hh} {d : D} {v : V} {Q : VK}
theorem Fin.same (f : Fin w K R H d h Q) (r : HRel w K R h H) (x : VR K H R d v) : Q v H := f R H v Ext.refl r x
theorem Fin.tup {xs : List D} {vs : List V} {p : Addr} (f : Fin w K R H (.tup xs) h Q) (r : HRel w K R h H) (x : VRs K H R xs vs) (hp : H p = none) : Q (.ref p) (upd H p (.tup vs)) :=
  f R _ _ (Ext.new hp) (r.new hp) ⟨p, vs, rfl, SqT.of upd_same, VRs.mono (Ext.new hp) x⟩
theorem HRel.newL {xs : List D} {vs : List V} {p : Addr} (r : HRel w K R h H) (x : VRs K H R xs vs) (hp : H p = none) : HRel w K (R ++ [p]) (h ++ [.lst xs]) (upd H p (.lst vs)) :=
  r.push hp ⟨vs, upd_same, VRs.mono (Ext.more p (Ext.new hp)) x⟩
theorem Fin.lst {xs : List D} {vs : List V} {p : Addr} (f : Fin w K R H (.ref h.length) (h ++ [.lst xs]) Q) (r : HRel w K R h H) (x : VRs K H R xs vs) (hp : H p = none) : Q (.ref p) (upd H p (.lst vs)) :=
  f (R ++ [p]) _ _ (Ext.more p (Ext.new hp)) (r.newL x hp) ⟨p, by rw [← r.len]; simp, rfl⟩
theorem HRel.putL {n : Nat} {p : Addr} {xs : List D} {vs : List V} (r : HRel w K R h H) (e2 : R[n]? = some p) (x : VRs K H R xs vs) : HRel w K R (h.set n (.lst xs)) (upd H p (.lst vs)) :=
  r.put e2 fun ex => ⟨vs, upd_same, VRs.mono ex x⟩
theorem Fin.ext {R1 : List Addr} {H1 : Hp} (f : Fin w K R H d h Q) (e : Ext K R H R1 H1) : Fin w K R1 H1 d h Q := fun R' H' v e' r x => f R' H' v (e.trans e') r x
end

/-- a two-place operation on data -/
def rB (w : World) (K : PySem.W.Frag) (op : D → D → Hh → Option (D × Hh)) : R2 := fun x y H Q => ∃ R h dx dy, HRel w K R h H ∧ VR K H R dx x ∧ VR K H R dy y ∧ ∃ z h', op dx dy h = some (z, h') ∧ Fin w K R H z h' Q
section
variable {X : Cx}
theorem tup_of {w : World} {K : PySem.W.Frag} {H : Hp} {R : List Addr} {h : Hh} {xs : List D} {z : D} {h' : Hh} (e : newT xs h = some (z, h')) : xs.length ≤ sizeLine ∧ z = .tup xs ∧ h' = h := by
  unfold newT at e
  split at e
  · cases e; exact ⟨by assumption, rfl, rfl⟩
  · cases e
theorem lst_of {xs : List D} {h : Hh} {z : D} {h' : Hh} (e : newL xs h = some (z, h')) : xs.length ≤ sizeLine ∧ z = .ref h.length ∧ h' = h ++ [.lst xs] := by
  unfold newL at e
  split at e
  · cases e; exact ⟨by assumption, rfl, rfl⟩
  · cases e
theorem vr_int {K : PySem.W.Frag} {H : Hp} {R : List Addr} {i : Int} {v : V} (x : VR K H R (.int i) v) : v = .int i := x
theorem vr_str {K : PySem.W.Frag} {H : Hp} {R : List Addr} {i : Str} {v : V} (x : VR K H R (.str i) v) : v = .str i := x
theorem vr_bl {K : PySem.W.Frag} {H : Hp} {R : List Addr} {i : Bool} {v : V} (x : VR K H R (.bl i) v) : v = .bl i := x
/-- an operation on two ints -/
theorem op_I {f : Value → Value → Sem Value} {C : Int → Int → Prop} {g : Int → Int → V} (h : OpR X f (rI C g)) : ∀ {op : D → D → Hh → Option (D × Hh)},
    (∀ i j h z h', op (.int i) (.int j) h = some (z, h') → C i j ∧ h' = h ∧ ∀ K H R, VR K H R z (g i j)) →
    ∀ {R hh H i j z h' Q}, HRel X.w X.K R hh H → op (.int i) (.int j) hh = some (z, h') → Fin X.w X.K R H z h' Q → rI C g (.int i) (.int j) H Q := by
  intro op hop R hh H i j z h' Q hr e q
  obtain ⟨c, rfl, y⟩ := hop i j hh z h' e
  exact ⟨i, j, rfl, rfl, c, q.same hr (y _ _ _)⟩
theorem op_bin (o : Operator) : OpR X (binaryOp o) (rB X.w X.K (binD o)) := by
  intro pins s σ H x y v u Q I rx ry hq
  obtain ⟨R, h, dx, dy, hr, vx, vy, z, h', e, q⟩ := hq
  cases o with
  | Add =>
    cases dx <;> cases dy <;> simp only [binD] at e <;> (first | (cases e; done) | skip)
    case int.int i j =>
      cases e
      subst vx; subst vy
      exact op_add pins s σ H _ _ v u Q I rx ry ⟨i, j, rfl, rfl, q.same hr rfl⟩
    case str.str a b =>
      split at e
      · cases e
        rename_i hz
        subst vx; subst vy
        exact op_add_str pins s σ H _ _ v u Q I rx ry ⟨a, b, rfl, rfl, hz, q.same hr rfl⟩
      · cases e
    case tup.tup xs ys =>
      obtain ⟨hz, rfl, rfl⟩ := tup_of (w := X.w) (K := X.K) (H := H) (R := R) e
      obtain ⟨a, vs, rfl, ha, r1⟩ := vx
      obtain ⟨b, us, rfl, hb, r2⟩ := vy
      refine op_catA pins s σ H _ _ v u Q I rx ry ⟨a, b, vs, us, rfl, rfl, ha, hb, ?_, fun z1 => ?_, fun _ z2 => ?_, fun _ _ p hp => ?_⟩
      · rw [r1.len, r2.len, ← List.length_append]; exact hz
      · subst z1
        have : xs = [] := List.eq_nil_of_length_eq_zero (by rw [← r1.len]; rfl)
        subst this
        exact q.same hr ⟨b, us, rfl, hb, r2⟩
      · subst z2
        have : ys = [] := List.eq_nil_of_length_eq_zero (by rw [← r2.len]; rfl)
        subst this
        rw [List.append_nil] at q
        exact q.same hr ⟨a, vs, rfl, ha, r1⟩
      · exact q.tup hr (r1.app r2) hp
    case ref.ref a b =>
      split at e
      · rename_i xs ys e1 e2
        obtain ⟨hz, rfl, rfl⟩ := lst_of e
        obtain ⟨pa, k1, rfl⟩ := vx
        obtain ⟨pb, k2, rfl⟩ := vy
        obtain ⟨vs, h1, r1⟩ := hr.ob a _ pa e1 k1
        obtain ⟨us, h2, r2⟩ := hr.ob b _ pb e2 k2
        exact op_cat pins s σ H _ _ v u Q I rx ry ⟨pa, pb, vs, us, rfl, rfl, h1, h2, by rw [r1.len, r2.len, ← List.length_append]; exact hz, fun p hp => q.lst hr (r1.app r2) hp⟩
      · cases e
  | Sub =>
    cases dx <;> cases dy <;> simp only [binD] at e <;> (first | (cases e; done) | skip)
    cases e
    subst vx; subst vy
    exact op_sub pins s σ H _ _ v u Q I rx ry ⟨_, _, rfl, rfl, q.same hr rfl⟩
  | Mult =>
    cases dx <;> cases dy <;> simp only [binD] at e <;> (first | (cases e; done) | skip)
    case int.int i j =>
      split at e
      · rename_i hz
        cases e
        subst vx; subst vy
        exact op_mulW pins s σ H _ _ v u Q I rx ry ⟨i, j, rfl, rfl, hz, q.same hr rfl⟩
      · cases e
    case ref.int a k =>
      split at e
      · rename_i xs e1
        split at e
        · rename_i hz
          obtain ⟨hl, rfl, rfl⟩ := lst_of e
          obtain ⟨pa, k1, rfl⟩ := vx
          subst vy
          obtain ⟨vs, h1, r1⟩ := hr.ob a _ pa e1 k1
          refine op_rep pins s σ H _ _ v u Q I rx ry ⟨pa, k, vs, rfl, rfl, h1, hz.1, hz.2.1, by rw [r1.len]; exact hz.2.2, fun p hp => ?_⟩
          refine q.lst hr ?_ hp
          have : ∀ n : Nat, VRs X.K H R (List.replicate n xs).flatten (List.replicate n vs).flatten := by
            intro n
            induction n with
            | zero => exact .nil
            | succ n ih => rw [List.replicate_succ, List.replicate_succ, List.flatten_cons, List.flatten_cons]; exact r1.app ih
          exact this _
        · cases e
      · cases e
  | Mod =>
    cases dx <;> cases dy <;> simp only [binD] at e <;> (first | (cases e; done) | skip)
    split at e
    · rename_i i j hz
      cases e
      subst vx; subst vy
      refine op_modN pins s σ H _ _ v u Q I rx ry ⟨i, j, rfl, rfl, (by omega), ?_⟩
      show Q (.int (i.fmod j)) H
      rw [Int.fmod_eq_emod_of_nonneg i (Int.le_of_lt hz)]
      exact q.same hr rfl
    · cases e
  | FloorDiv =>
    cases dx <;> cases dy <;> simp only [binD] at e <;> (first | (cases e; done) | skip)
    split at e
    · rename_i i j hz
      cases e
      subst vx; subst vy
      exact op_fdivW pins s σ H _ _ v u Q I rx ry ⟨i, j, rfl, rfl, hz, q.same hr rfl⟩
    · cases e
  | Pow =>
    cases dx <;> cases dy <;> simp only [binD] at e <;> (first | (cases e; done) | skip)
    split at e
    · rename_i i j hz
      cases e
      subst vx; subst vy
      exact op_pow pins s σ H _ _ v u Q I rx ry ⟨i, j, rfl, rfl, hz, q.same hr rfl⟩
    · cases e
  | LShift =>
    cases dx <;> cases dy <;> simp only [binD] at e <;> (first | (cases e; done) | skip)
    split at e
    · rename_i i j hz
      cases e
      subst vx; subst vy
      exact op_shl pins s σ H _ _ v u Q I rx ry ⟨i, j, rfl, rfl, hz, q.same hr rfl⟩
    · cases e
  | BitAnd =>
    cases dx <;> cases dy <;> simp only [binD] at e <;> (first | (cases e; done) | skip)
    cases e
    subst vx; subst vy
    exact op_and pins s σ H _ _ v u Q I rx ry ⟨_, _, rfl, rfl, q.same hr rfl⟩
  | _ => cases dx <;> cases dy <;> simp only [binD] at e <;> cases e

/-! ### == -/
theorem vals_get {xs : List V} {us : List Value} (r : Vals xs us) {i : Nat} {u : Value} (e : us[i]? = some u) : ∃ x, xs[i]? = some x ∧ RelV x u := by
  cases q : xs[i]? with
  | none => rw [r.none_of q] at e; cases e
  | some x =>
    obtain ⟨w, h1, h2⟩ := r.get q
    rw [e] at h1; cases h1
    exact ⟨x, rfl, h2⟩
theorem eqL_len {f : D → D → Option Bool} : ∀ {xs ys : List D} {b : Bool}, eqL f xs ys = some b → ∃ e : Nat → Bool, b = (List.range (min xs.length ys.length)).all e ∧ ∀ i x y, xs[i]? = some x → ys[i]? = some y → f x y = some (e i)
  | [], ys, b, h => by
    cases ys <;> (simp only [eqL] at h; cases h; exact ⟨fun _ => true, by simp, fun i x y e => by simp at e⟩)
  | x :: xs, [], b, h => by simp only [eqL] at h; cases h; exact ⟨fun _ => true, by simp, fun i x y _ e => by simp at e⟩
  | x :: xs, y :: ys, b, h => by
    simp only [eqL] at h
    split at h
    · rename_i a c e1 e2
      cases h
      obtain ⟨e, rfl, q⟩ := eqL_len e2
      refine ⟨fun i => match i with | 0 => a | i + 1 => e i, ?_, fun i u v z1 z2 => ?_⟩
      · have m : min (x :: xs).length (y :: ys).length = min xs.length ys.length + 1 := by simp only [List.length_cons]; omega
        rw [m, List.range_succ_eq_map, List.all_cons, List.all_map]
        rfl
      · cases i with
        | zero => simp at z1 z2; subst z1; subst z2; exact e1
        | succ i => exact q i u v (by simpa using z1) (by simpa using z2)
    · cases h
section
variable {w : World} {K : PySem.W.Frag}
theorem lstAt_ok {R : List Addr} {h : Hh} {H : Hp} {n : Nat} {xs : List D} (hr : HRel w K R h H) (e : lstAt h n = some xs) {v : V} (x : VR K H R (.ref n) v) : ∃ a vs, v = .ref a ∧ R[n]? = some a ∧ H a = some (.lst vs) ∧ VRs K H R xs vs := by
  obtain ⟨a, k, rfl⟩ := x
  unfold lstAt at e
  split at e
  · rename_i ys q
    cases e
    obtain ⟨vs, h1, h2⟩ := hr.ob n _ a q k
    exact ⟨a, vs, rfl, k, h1, h2⟩
  · cases e
end
theorem relV_inj {v v' : V} {u : Value} (h : RelV v u) (h' : RelV v' u) : v = v' := by
  cases v <;> cases v' <;> simp only [RelV] at h h' <;> first
    | rfl
    | (subst h; cases h'; rfl)
    | (obtain ⟨t, rfl⟩ := h; obtain ⟨t', e⟩ := h'; cases e; rfl)
    | (subst h; cases h'; done)
    | (subst h; obtain ⟨t', e⟩ := h'; cases e; done)
    | (obtain ⟨t, rfl⟩ := h; cases h'; done)
    | (obtain ⟨t, rfl⟩ := h; obtain ⟨t', e⟩ := h'; cases e; done)
theorem vals_inj : ∀ {xs ys : List V} {us : List Value}, Vals xs us → Vals ys us → xs = ys
  | _, _, _, .nil, .nil => rfl
  | _, _, _, .cons a b, .cons c d => by rw [relV_inj a c, vals_inj b d]
theorem isTup_inj {h : Heap} {p : Addr} {a b : List Value} (x : PyProof.Rows.IsTup h p a.toArray) (y : PyProof.Rows.IsTup h p b.toArray) : a = b := by
  obtain ⟨o, h1, _, n, h2⟩ := x
  obtain ⟨o', k1, _, n', k2⟩ := y
  rw [h1] at k1; cases k1
  rw [h2] at k2
  injection k2 with k2 _
  simpa using k2
theorem plainL_inj {h : Heap} {p : Addr} {a b : List Value} (x : PlainL h p a.toArray) (y : PlainL h p b.toArray) : a = b := by
  obtain ⟨o, n, h1, _, _, h2⟩ := x
  obtain ⟨o', n', k1, _, _, k2⟩ := y
  rw [h1] at k1; cases k1
  rw [h2] at k2
  injection k2 with k2 _
  simpa using k2
section
variable {pins : List (Addr × Obj)} {s : Shared} {σ : St} {H : Hp} {R : List Addr} {h : Hh}
mutual
/-- one value is one datum -/
theorem vr_inj (I : L2.Inv X pins σ H s) (hr : HRel X.w X.K R h H) : ∀ (x y : D) (v : V), VR X.K H R x v → VR X.K H R y v → x = y
  | .non, y, v, rx, ry => by
    subst rx
    cases y <;> first | rfl | (cases ry; done) | (obtain ⟨a, vs, e, _⟩ := ry; cases e; done) | (obtain ⟨a, _, e⟩ := ry; cases e; done)
  | .bl b, y, v, rx, ry => by
    subst rx
    cases y <;> first | (cases ry; rfl) | (cases ry; done) | (obtain ⟨a, vs, e, _⟩ := ry; cases e; done) | (obtain ⟨a, _, e⟩ := ry; cases e; done)
  | .int b, y, v, rx, ry => by
    subst rx
    cases y <;> first | (cases ry; rfl) | (cases ry; done) | (obtain ⟨a, vs, e, _⟩ := ry; cases e; done) | (obtain ⟨a, _, e⟩ := ry; cases e; done)
  | .str b, y, v, rx, ry => by
    subst rx
    cases y <;> first | (cases ry; rfl) | (cases ry; done) | (obtain ⟨a, vs, e, _⟩ := ry; cases e; done) | (obtain ⟨a, _, e⟩ := ry; cases e; done)
  | .tup xs, y, v, rx, ry => by
    obtain ⟨p, vs, rfl, ht, hx⟩ := rx
    obtain ⟨its, rv, pt, _⟩ := I.tuple ht
    cases y with
    | non => cases ry
    | bl => cases ry
    | int => cases ry
    | str => cases ry
    | tup ys =>
      obtain ⟨p2, vs2, e2, ht2, hy⟩ := ry
      cases e2
      obtain ⟨its2, rv2, pt2, _⟩ := I.tuple ht2
      have e3 := isTup_inj pt pt2
      subst e3
      have e4 := vals_inj rv rv2
      subst e4
      rw [vrs_inj I hr xs ys vs hx hy]
    | rol ys =>
      exfalso
      obtain ⟨p2, vs2, e2, ht2, hy⟩ := ry
      cases e2
      obtain ⟨its2, rv2, ⟨o, n, h1, h2, _⟩, _⟩ := I.list ht2.l
      obtain ⟨o', k1, k2, _⟩ := pt
      rw [h1] at k1; cases k1
      rw [h2] at k2; exact absurd k2 (by simp)
    | ref n =>
      exfalso
      obtain ⟨p2, k, e2⟩ := ry
      cases e2
      obtain ⟨u, q, n1, n2⟩ := hr.lives k
      rcases ht with (ht | ⟨t, ht⟩) | ⟨o, i2, n, h1, _⟩
      · rw [ht] at q; cases q; exact n1 _ rfl
      · rw [ht] at q; cases q; exact n2 _ _ rfl
      · have z := (I.bs p o (I.ok.mod.kin p o h1)).2
        rw [z] at q; cases q
  | .rol xs, y, v, rx, ry => by
    obtain ⟨p, vs, rfl, ht, hx⟩ := rx
    obtain ⟨its, rv, pt, _⟩ := I.list ht.l
    cases y with
    | non => cases ry
    | bl => cases ry
    | int => cases ry
    | str => cases ry
    | rol ys =>
      obtain ⟨p2, vs2, e2, ht2, hy⟩ := ry
      cases e2
      obtain ⟨its2, rv2, pt2, _⟩ := I.list ht2.l
      have e3 := plainL_inj pt pt2
      subst e3
      have e4 := vals_inj rv rv2
      subst e4
      rw [vrs_inj I hr xs ys vs hx hy]
    | tup ys =>
      exfalso
      obtain ⟨p2, vs2, e2, ht2, hy⟩ := ry
      cases e2
      obtain ⟨its2, rv2, ⟨o', k1, k2, _⟩, _⟩ := I.tuple ht2
      obtain ⟨o, n, h1, h2, _⟩ := pt
      rw [h1] at k1; cases k1
      rw [h2] at k2; exact absurd k2 (by simp)
    | ref n =>
      exfalso
      obtain ⟨p2, k, e2⟩ := ry
      cases e2
      obtain ⟨u, q, n1, n2⟩ := hr.lives k
      rcases ht with ⟨t, ht⟩ | ⟨o, i2, n, h1, _⟩
      · rw [ht] at q; cases q; exact n2 _ _ rfl
      · have z := (I.bs p o (I.ok.mod.kin p o h1)).2
        rw [z] at q; cases q
  | .ref n, y, v, rx, ry => by
    obtain ⟨p, k, rfl⟩ := rx
    cases y with
    | non => cases ry
    | bl => cases ry
    | int => cases ry
    | str => cases ry
    | tup ys =>
      exfalso
      obtain ⟨p2, vs, e2, ht, _⟩ := ry
      cases e2
      obtain ⟨u, q, n1, n2⟩ := hr.lives k
      rcases ht with (ht | ⟨t, ht⟩) | ⟨o, i2, n, h1, _⟩
      · rw [ht] at q; cases q; exact n1 _ rfl
      · rw [ht] at q; cases q; exact n2 _ _ rfl
      · have z := (I.bs p o (I.ok.mod.kin p o h1)).2
        rw [z] at q; cases q
    | rol ys =>
      exfalso
      obtain ⟨p2, vs, e2, ht, _⟩ := ry
      cases e2
      obtain ⟨u, q, n1, n2⟩ := hr.lives k
      rcases ht with ⟨t, ht⟩ | ⟨o, i2, n, h1, _⟩
      · rw [ht] at q; cases q; exact n2 _ _ rfl
      · have z := (I.bs p o (I.ok.mod.kin p o h1)).2
        rw [z] at q; cases q
    | ref m =>
      obtain ⟨p2, k2, e2⟩ := ry
      cases e2
      rw [(List.getElem?_inj (List.getElem?_eq_some_iff.mp k).1 hr.nd).mp (k.trans k2.symm)]
theorem vrs_inj (I : L2.Inv X pins σ H s) (hr : HRel X.w X.K R h H) : ∀ (xs ys : List D) (vs : List V), VRs X.K H R xs vs → VRs X.K H R ys vs → xs = ys
  | [], ys, vs, hx, hy => by
    rw [show vs = [] from hx] at hy
    cases ys with
    | nil => rfl
    | cons y ys => obtain ⟨v, r, e, _⟩ := hy; cases e
  | x :: xs, ys, vs, hx, hy => by
    obtain ⟨v, r, rfl, h1, h2⟩ := hx
    cases ys with
    | nil => cases hy
    | cons y ys =>
      obtain ⟨v2, r2, e, k1, k2⟩ := hy
      cases e
      rw [vr_inj I hr x y v h1 k1, vrs_inj I hr xs ys r h2 k2]
end
end
theorem eqL_self {f : D → D → Option Bool} : ∀ {xs : List D} {b : Bool}, eqL f xs xs = some b → (∀ x ∈ xs, ∀ c, f x x = some c → c = true) → b = true
  | [], b, h, _ => by simp only [eqL] at h; cases h; rfl
  | x :: xs, b, h, g => by
    simp only [eqL] at h
    split at h
    · rename_i a c e1 e2
      cases h
      rw [g x List.mem_cons_self a e1, eqL_self e2 fun y hy => g y (List.mem_cons_of_mem _ hy)]; rfl
    · cases h
theorem eqF_self {h : Hh} : ∀ (n : Nat) (x : D) (b : Bool), eqF h n x x = some b → b = true
  | 0, _, _, e => by simp [eqF] at e
  | n + 1, x, b, e => by
    cases x with
    | non => simp only [eqF] at e; cases e; rfl
    | bl a => simp only [eqF] at e; cases e; simp
    | int a => simp only [eqF] at e; cases e; simp
    | str a => simp only [eqF] at e; cases e; simp
    | rol a => simp only [eqF] at e; cases e
    | ref a => simp only [eqF] at e; rw [if_pos trivial] at e; cases e; rfl
    | tup xs =>
      simp only [eqF] at e
      cases q : eqL (eqF h n) xs xs with
      | none => rw [q] at e; cases e
      | some c =>
        rw [q] at e; cases e
        show (c && xs.length == xs.length) = true
        rw [eqL_self q fun y _ c e => eqF_self n y c e]; simp
open SeqAt in
theorem eqF_ok {pins : List (Addr × Obj)} {s : Shared} {σ : St} {H : Hp} (I : L2.Inv X pins σ H s) {R : List Addr} {h : Hh} (hr : HRel X.w X.K R h H) :
    ∀ (n : Nat) (x y : D) (b : Bool) (A : Around) (vx vy : V) (u1 u2 : Value), eqF h n x y = some b → VR X.K H R x vx → VR X.K H R y vy → RelV vx u1 → RelV vy u2 → A.units + n < cLine → EqAt A s u1 u2 b
  | 0, _, _, _, _, _, _, _, _, e, _, _, _, _, _ => by simp [eqF] at e
  | n + 1, x, y, b, A, vx, vy, u1, u2, e, rx, ry, r1, r2, hu => by
    have hA : A.units < cLine := by omega
    have items : ∀ {xs ys : List D} {vs us : List V} {its its2 : List Value} {c : Bool}, eqL (eqF h n) xs ys = some c → VRs X.K H R xs vs → VRs X.K H R ys us → Vals vs its → Vals us its2 →
        ∃ e : Nat → Bool, c = (List.range (min xs.length ys.length)).all e ∧ ∀ j (h1 : j < its.toArray.size) (h2 : j < its2.toArray.size), EqAt A.in1 s its.toArray[j] its2.toArray[j] (e j) := by
      intro xs ys vs us its its2 c q a1 a2 b1 b2
      obtain ⟨e, rfl, z⟩ := eqL_len q
      refine ⟨e, rfl, fun j h1 h2 => ?_⟩
      have h1' : j < its.length := by simpa using h1
      have h2' : j < its2.length := by simpa using h2
      obtain ⟨v1, k1, l1⟩ := vals_get b1 (List.getElem?_eq_getElem h1')
      obtain ⟨v2, k2, l2⟩ := vals_get b2 (List.getElem?_eq_getElem h2')
      obtain ⟨d1, m1, n1⟩ := a1.get' k1
      obtain ⟨d2, m2, n2⟩ := a2.get' k2
      have := eqF_ok I hr n d1 d2 (e j) A.in1 v1 v2 _ _ (z j d1 d2 m1 m2) n1 n2 l1 l2 (by show A.units + 1 + n < cLine; omega)
      simpa using this
    have lst : ∀ {a : Nat} {c : Bool} {v : V} {u : Value}, (lstAt h a).map (fun _ => false) = some c → VR X.K H R (.ref a) v → RelV v u → c = false ∧ ∃ l its, u = .ref l ∧ s.heap.IsList l its := by
      intro a c v u q z r
      cases q1 : lstAt h a with
      | none => rw [q1] at q; cases q
      | some xs =>
        rw [q1] at q; cases q
        obtain ⟨l, vs, rfl, _, h1, _⟩ := lstAt_ok hr q1 z
        obtain ⟨its, rv, p, _⟩ := I.list (SqL.of h1)
        exact ⟨rfl, l, _, r, p.isList⟩
    cases x with
    | non =>
      subst rx; cases r1
      cases y with
      | non => subst ry; cases r2; simp only [eqF] at e; cases e; exact .same _
      | bl c => subst ry; cases r2; simp only [eqF] at e; cases e; exact .none_bool _
      | int c => subst ry; obtain ⟨t2, rfl⟩ := r2; simp only [eqF] at e; cases e; exact .none_int _ _
      | str c => subst ry; obtain ⟨t2, rfl⟩ := r2; simp only [eqF] at e; cases e; exact .none_str _ _
      | tup c =>
        obtain ⟨p, vs, rfl, ht, _⟩ := ry
        cases r2
        obtain ⟨its, rv, ht, _⟩ := I.tuple ht
        simp only [eqF] at e; cases e; exact .none_tuple ht hA
      | rol c => simp only [eqF] at e; cases e
      | ref c =>
        simp only [eqF] at e
        obtain ⟨rfl, l, its, rfl, hl⟩ := lst e ry r2
        exact .none_list hl hA
    | bl a =>
      subst rx; cases r1
      cases y with
      | non => subst ry; cases r2; simp only [eqF] at e; cases e; exact .bool_none _
      | bl c => subst ry; cases r2; simp only [eqF] at e; cases e; exact .bool_bool _ _
      | int c => subst ry; obtain ⟨t2, rfl⟩ := r2; simp only [eqF] at e; cases e; exact .bool_int _ _ _
      | str c => subst ry; obtain ⟨t2, rfl⟩ := r2; simp only [eqF] at e; cases e; exact .bool_str _ _ _
      | tup c =>
        obtain ⟨p, vs, rfl, ht, _⟩ := ry
        cases r2
        obtain ⟨its, rv, ht, _⟩ := I.tuple ht
        simp only [eqF] at e; cases e; exact .bool_tuple _ ht hA
      | rol c => simp only [eqF] at e; cases e
      | ref c =>
        simp only [eqF] at e
        obtain ⟨rfl, l, its, rfl, hl⟩ := lst e ry r2
        exact .bool_list _ hl hA
    | int a =>
      subst rx; obtain ⟨t1, rfl⟩ := r1
      cases y with
      | non => subst ry; cases r2; simp only [eqF] at e; cases e; exact .int_none _ _
      | bl c => subst ry; cases r2; simp only [eqF] at e; cases e; exact .int_bool _ _ _
      | int c => subst ry; obtain ⟨t2, rfl⟩ := r2; simp only [eqF] at e; cases e; exact .int_int _ _ _ _
      | str c => subst ry; obtain ⟨t2, rfl⟩ := r2; simp only [eqF] at e; cases e; exact .int_str _ _ _ _
      | tup c =>
        obtain ⟨p, vs, rfl, ht, _⟩ := ry
        cases r2
        obtain ⟨its, rv, ht, _⟩ := I.tuple ht
        simp only [eqF] at e; cases e; exact .int_tuple _ _ ht hA
      | rol c => simp only [eqF] at e; cases e
      | ref c =>
        simp only [eqF] at e
        obtain ⟨rfl, l, its, rfl, hl⟩ := lst e ry r2
        exact .int_list _ _ hl hA
    | str a =>
      subst rx; obtain ⟨t1, rfl⟩ := r1
      cases y with
      | non => subst ry; cases r2; simp only [eqF] at e; cases e; exact .str_none _ _
      | bl c => subst ry; cases r2; simp only [eqF] at e; cases e; exact .str_bool _ _ _
      | int c => subst ry; obtain ⟨t2, rfl⟩ := r2; simp only [eqF] at e; cases e; exact .str_int _ _ _ _
      | str c => subst ry; obtain ⟨t2, rfl⟩ := r2; simp only [eqF] at e; cases e; exact .str_str _ _ _ _
      | tup c =>
        obtain ⟨p, vs, rfl, ht, _⟩ := ry
        cases r2
        obtain ⟨its, rv, ht, _⟩ := I.tuple ht
        simp only [eqF] at e; cases e; exact .str_tuple _ _ ht hA
      | rol c => simp only [eqF] at e; cases e
      | ref c =>
        simp only [eqF] at e
        obtain ⟨rfl, l, its, rfl, hl⟩ := lst e ry r2
        exact .str_list _ _ hl hA
    | rol a => cases y <;> (simp only [eqF] at e; cases e)
    | tup a =>
      obtain ⟨p, vs, rfl, ht0, hx⟩ := rx
      cases r1
      obtain ⟨its, rv, ht, hz⟩ := I.tuple ht0
      cases y with
      | non => subst ry; cases r2; simp only [eqF] at e; cases e; exact .tuple_none ht hA
      | bl c => subst ry; cases r2; simp only [eqF] at e; cases e; exact .tuple_bool _ ht hA
      | int c => subst ry; obtain ⟨t2, rfl⟩ := r2; simp only [eqF] at e; cases e; exact .tuple_int _ _ ht hA
      | str c => subst ry; obtain ⟨t2, rfl⟩ := r2; simp only [eqF] at e; cases e; exact .tuple_str _ _ ht hA
      | rol c => simp only [eqF] at e; cases e
      | tup c =>
        obtain ⟨p2, vs2, rfl, ht2, hy⟩ := ry
        cases r2
        obtain ⟨its2, rv2, pt2, hz2⟩ := I.tuple ht2
        simp only [eqF] at e
        cases q : eqL (eqF h n) a c with
        | none => rw [q] at e; cases e
        | some c0 =>
          rw [q] at e
          cases e
          by_cases hp : p = p2
          · subst hp
            have e5 : D.tup a = D.tup c := vr_inj I hr _ _ (.ref p) ⟨p, vs, rfl, ht0, hx⟩ ⟨p, vs2, rfl, ht2, hy⟩
            cases e5
            have hb : (fun b => b && a.length == a.length) c0 = true := eqF_self (h := h) (n + 1) (.tup a) _ (by simp only [eqF, q]; rfl)
            rw [hb]
            exact .same _
          · obtain ⟨e, rfl, z⟩ := items q hx hy rv rv2
            have n1 : its.toArray.size = a.length := by rw [List.size_toArray, ← rv.length, hx.len]
            have n2 : its2.toArray.size = c.length := by rw [List.size_toArray, ← rv2.length, hy.len]
            have k := RcAt.tuples ht pt2 hA z
            rw [n1, n2] at k
            exact .of_refs hp k
      | ref c =>
        simp only [eqF] at e
        obtain ⟨rfl, l, its, rfl, hl⟩ := lst e ry r2
        exact .tuple_list ht hl hA
    | ref a =>
      cases y with
      | ref c =>
        simp only [eqF] at e
        split at e
        · rename_i hac
          subst hac
          cases e
          obtain ⟨p, k1, rfl⟩ := rx
          obtain ⟨p2, k2, rfl⟩ := ry
          rw [k1] at k2; cases k2
          cases r1; cases r2
          exact .same _
        · rename_i hac
          split at e
          · rename_i xs ys q1 q2
            obtain ⟨p, vs, rfl, k1, h1, hx⟩ := lstAt_ok hr q1 rx
            obtain ⟨p2, vs2, rfl, k2, h2, hy⟩ := lstAt_ok hr q2 ry
            cases r1; cases r2
            obtain ⟨its, rv, pt, hz⟩ := I.list (SqL.of h1)
            obtain ⟨its2, rv2, pt2, hz2⟩ := I.list (SqL.of h2)
            have n1 : its.toArray.size = xs.length := by rw [List.size_toArray, ← rv.length, hx.len]
            have n2 : its2.toArray.size = ys.length := by rw [List.size_toArray, ← rv2.length, hy.len]
            have hp : p ≠ p2 := fun ep => by
              subst ep
              exact hac ((List.getElem?_inj (List.getElem?_eq_some_iff.mp k1).1 hr.nd).mp (k1.trans k2.symm))
            split at e
            · rename_i hl
              obtain ⟨e, rfl, z⟩ := items e hx hy rv rv2
              have k := RcAt.lists pt.isList pt2.isList (by rw [n1, n2, hl]) hA z
              have m : min xs.length ys.length = its.toArray.size := by rw [n1]; omega
              rw [m]
              exact .of_refs hp k
            · rename_i hl
              cases e
              exact .of_refs hp (.lists_lengths pt.isList pt2.isList (by rw [n1, n2]; simpa using hl) hA)
          · cases e
      | rol c => simp only [eqF] at e; cases e
      | non =>
        simp only [eqF] at e
        obtain ⟨rfl, l, its, rfl, hl⟩ := lst e rx r1
        subst ry; cases r2; exact .list_none hl hA
      | bl c =>
        simp only [eqF] at e
        obtain ⟨rfl, l, its, rfl, hl⟩ := lst e rx r1
        subst ry; cases r2; exact .list_bool _ hl hA
      | int c =>
        simp only [eqF] at e
        obtain ⟨rfl, l, its, rfl, hl⟩ := lst e rx r1
        subst ry; obtain ⟨t2, rfl⟩ := r2; exact .list_int _ _ hl hA
      | str c =>
        simp only [eqF] at e
        obtain ⟨rfl, l, its, rfl, hl⟩ := lst e rx r1
        subst ry; obtain ⟨t2, rfl⟩ := r2; exact .list_str _ _ hl hA
      | tup c =>
        simp only [eqF] at e
        obtain ⟨rfl, l, its, rfl, hl⟩ := lst e rx r1
        obtain ⟨p2, vs2, rfl, ht2, hy⟩ := ry
        cases r2
        obtain ⟨its2, rv2, ht2, hz2⟩ := I.tuple ht2
        exact .list_tuple hl ht2 hA
open SeqAt in
theorem eqD_ok0 {pins : List (Addr × Obj)} {s : Shared} {σ : St} {H : Hp} (I : L2.Inv X pins σ H s) {R : List Addr} {h : Hh} (hr : HRel X.w X.K R h H)
    {n : Nat} {x y : D} {b : Bool} {A : Around} {vx vy : V} {u1 u2 : Value} (e : eqF h (n + 1) x y = some b) (rx : VR X.K H R x vx) (ry : VR X.K H R y vy) (r1 : RelV vx u1) (r2 : RelV vy u2) (hu : A.units + (n + 1) < cLine)
    (nr : ∀ a c : Nat, ¬ (x = .ref a ∧ y = .ref c)) : RcAt A s u1 u2 b := by
    have hA : A.units < cLine := by omega
    have items : ∀ {xs ys : List D} {vs us : List V} {its its2 : List Value} {c : Bool}, eqL (eqF h n) xs ys = some c → VRs X.K H R xs vs → VRs X.K H R ys us → Vals vs its → Vals us its2 →
        ∃ e : Nat → Bool, c = (List.range (min xs.length ys.length)).all e ∧ ∀ j (h1 : j < its.toArray.size) (h2 : j < its2.toArray.size), EqAt A.in1 s its.toArray[j] its2.toArray[j] (e j) := by
      intro xs ys vs us its its2 c q a1 a2 b1 b2
      obtain ⟨e, rfl, z⟩ := eqL_len q
      refine ⟨e, rfl, fun j h1 h2 => ?_⟩
      have h1' : j < its.length := by simpa using h1
      have h2' : j < its2.length := by simpa using h2
      obtain ⟨v1, k1, l1⟩ := vals_get b1 (List.getElem?_eq_getElem h1')
      obtain ⟨v2, k2, l2⟩ := vals_get b2 (List.getElem?_eq_getElem h2')
      obtain ⟨d1, m1, n1⟩ := a1.get' k1
      obtain ⟨d2, m2, n2⟩ := a2.get' k2
      have := eqF_ok I hr n d1 d2 (e j) A.in1 v1 v2 _ _ (z j d1 d2 m1 m2) n1 n2 l1 l2 (by show A.units + 1 + n < cLine; omega)
      simpa using this
    have lst : ∀ {a : Nat} {c : Bool} {v : V} {u : Value}, (lstAt h a).map (fun _ => false) = some c → VR X.K H R (.ref a) v → RelV v u → c = false ∧ ∃ l its, u = .ref l ∧ s.heap.IsList l its := by
      intro a c v u q z r
      cases q1 : lstAt h a with
      | none => rw [q1] at q; cases q
      | some xs =>
        rw [q1] at q; cases q
        obtain ⟨l, vs, rfl, _, h1, _⟩ := lstAt_ok hr q1 z
        obtain ⟨its, rv, p, _⟩ := I.list (SqL.of h1)
        exact ⟨rfl, l, _, r, p.isList⟩
    cases x with
    | non =>
      subst rx; cases r1
      cases y with
      | non => subst ry; cases r2; simp only [eqF] at e; cases e; exact .none_none
      | bl c => subst ry; cases r2; simp only [eqF] at e; cases e; exact .none_bool _
      | int c => subst ry; obtain ⟨t2, rfl⟩ := r2; simp only [eqF] at e; cases e; exact .none_int _ _
      | str c => subst ry; obtain ⟨t2, rfl⟩ := r2; simp only [eqF] at e; cases e; exact .none_str _ _
      | tup c =>
        obtain ⟨p, vs, rfl, ht, _⟩ := ry
        cases r2
        obtain ⟨its, rv, ht, _⟩ := I.tuple ht
        simp only [eqF] at e; cases e; exact .none_tuple ht hA
      | rol c => simp only [eqF] at e; cases e
      | ref c =>
        simp only [eqF] at e
        obtain ⟨rfl, l, its, rfl, hl⟩ := lst e ry r2
        exact .none_list hl hA
    | bl a =>
      subst rx; cases r1
      cases y with
      | non => subst ry; cases r2; simp only [eqF] at e; cases e; exact .bool_none _
      | bl c => subst ry; cases r2; simp only [eqF] at e; cases e; exact .bool_bool _ _
      | int c => subst ry; obtain ⟨t2, rfl⟩ := r2; simp only [eqF] at e; cases e; exact .bool_int _ _ _
      | str c => subst ry; obtain ⟨t2, rfl⟩ := r2; simp only [eqF] at e; cases e; exact .bool_str _ _ _
      | tup c =>
        obtain ⟨p, vs, rfl, ht, _⟩ := ry
        cases r2
        obtain ⟨its, rv, ht, _⟩ := I.tuple ht
        simp only [eqF] at e; cases e; exact .bool_tuple _ ht hA
      | rol c => simp only [eqF] at e; cases e
      | ref c =>
        simp only [eqF] at e
        obtain ⟨rfl, l, its, rfl, hl⟩ := lst e ry r2
        exact .bool_list _ hl hA
    | int a =>
      subst rx; obtain ⟨t1, rfl⟩ := r1
      cases y with
      | non => subst ry; cases r2; simp only [eqF] at e; cases e; exact .int_none _ _
      | bl c => subst ry; cases r2; simp only [eqF] at e; cases e; exact .int_bool _ _ _
      | int c => subst ry; obtain ⟨t2, rfl⟩ := r2; simp only [eqF] at e; cases e; exact .int_int _ _ _ _
      | str c => subst ry; obtain ⟨t2, rfl⟩ := r2; simp only [eqF] at e; cases e; exact .int_str _ _ _ _
      | tup c =>
        obtain ⟨p, vs, rfl, ht, _⟩ := ry
        cases r2
        obtain ⟨its, rv, ht, _⟩ := I.tuple ht
        simp only [eqF] at e; cases e; exact .int_tuple _ _ ht hA
      | rol c => simp only [eqF] at e; cases e
      | ref c =>
        simp only [eqF] at e
        obtain ⟨rfl, l, its, rfl, hl⟩ := lst e ry r2
        exact .int_list _ _ hl hA
    | str a =>
      subst rx; obtain ⟨t1, rfl⟩ := r1
      cases y with
      | non => subst ry; cases r2; simp only [eqF] at e; cases e; exact .str_none _ _
      | bl c => subst ry; cases r2; simp only [eqF] at e; cases e; exact .str_bool _ _ _
      | int c => subst ry; obtain ⟨t2, rfl⟩ := r2; simp only [eqF] at e; cases e; exact .str_int _ _ _ _
      | str c => subst ry; obtain ⟨t2, rfl⟩ := r2; simp only [eqF] at e; cases e; exact .str_str _ _ _ _
      | tup c =>
        obtain ⟨p, vs, rfl, ht, _⟩ := ry
        cases r2
        obtain ⟨its, rv, ht, _⟩ := I.tuple ht
        simp only [eqF] at e; cases e; exact .str_tuple _ _ ht hA
      | rol c => simp only [eqF] at e; cases e
      | ref c =>
        simp only [eqF] at e
        obtain ⟨rfl, l, its, rfl, hl⟩ := lst e ry r2
        exact .str_list _ _ hl hA
    | rol a => cases y <;> (simp only [eqF] at e; cases e)
    | tup a =>
      obtain ⟨p, vs, rfl, ht0, hx⟩ := rx
      cases r1
      obtain ⟨its, rv, ht, hz⟩ := I.tuple ht0
      cases y with
      | non => subst ry; cases r2; simp only [eqF] at e; cases e; exact .tuple_none ht hA
      | bl c => subst ry; cases r2; simp only [eqF] at e; cases e; exact .tuple_bool _ ht hA
      | int c => subst ry; obtain ⟨t2, rfl⟩ := r2; simp only [eqF] at e; cases e; exact .tuple_int _ _ ht hA
      | str c => subst ry; obtain ⟨t2, rfl⟩ := r2; simp only [eqF] at e; cases e; exact .tuple_str _ _ ht hA
      | rol c => simp only [eqF] at e; cases e
      | tup c =>
        obtain ⟨p2, vs2, rfl, ht2, hy⟩ := ry
        cases r2
        obtain ⟨its2, rv2, pt2, hz2⟩ := I.tuple ht2
        simp only [eqF] at e
        cases q : eqL (eqF h n) a c with
        | none => rw [q] at e; cases e
        | some c0 =>
          rw [q] at e
          cases e
          obtain ⟨e, rfl, z⟩ := items q hx hy rv rv2
          have n1 : its.toArray.size = a.length := by rw [List.size_toArray, ← rv.length, hx.len]
          have n2 : its2.toArray.size = c.length := by rw [List.size_toArray, ← rv2.length, hy.len]
          have k := RcAt.tuples ht pt2 hA z
          rw [n1, n2] at k
          exact k
      | ref c =>
        simp only [eqF] at e
        obtain ⟨rfl, l, its, rfl, hl⟩ := lst e ry r2
        exact .tuple_list ht hl hA
    | ref a =>
      cases y with
      | ref c => exact absurd ⟨rfl, rfl⟩ (nr a c)
      | rol c => simp only [eqF] at e; cases e
      | non =>
        simp only [eqF] at e
        obtain ⟨rfl, l, its, rfl, hl⟩ := lst e rx r1
        subst ry; cases r2; exact .list_none hl hA
      | bl c =>
        simp only [eqF] at e
        obtain ⟨rfl, l, its, rfl, hl⟩ := lst e rx r1
        subst ry; cases r2; exact .list_bool _ hl hA
      | int c =>
        simp only [eqF] at e
        obtain ⟨rfl, l, its, rfl, hl⟩ := lst e rx r1
        subst ry; obtain ⟨t2, rfl⟩ := r2; exact .list_int _ _ hl hA
      | str c =>
        simp only [eqF] at e
        obtain ⟨rfl, l, its, rfl, hl⟩ := lst e rx r1
        subst ry; obtain ⟨t2, rfl⟩ := r2; exact .list_str _ _ hl hA
      | tup c =>
        simp only [eqF] at e
        obtain ⟨rfl, l, its, rfl, hl⟩ := lst e rx r1
        obtain ⟨p2, vs2, rfl, ht2, hy⟩ := ry
        cases r2
        obtain ⟨its2, rv2, ht2, hz2⟩ := I.tuple ht2
        exact .list_tuple hl ht2 hA
open SeqAt in
theorem eqD_ok {pins : List (Addr × Obj)} {s : Shared} {σ : St} {H : Hp} (I : L2.Inv X pins σ H s) {R : List Addr} {h : Hh} (hr : HRel X.w X.K R h H)
    {x y : D} {b : Bool} {A : Around} {vx vy : V} {u1 u2 : Value} (e : eqD h x y = some b) (rx : VR X.K H R x vx) (ry : VR X.K H R y vy) (r1 : RelV vx u1) (r2 : RelV vy u2) (hu : A.units + 31 < cLine) : RcAt A s u1 u2 b := by
  by_cases q : ∃ a c, x = .ref a ∧ y = .ref c
  · obtain ⟨a, c, rfl, rfl⟩ := q
    have hA : A.units < cLine := by omega
    simp only [eqD] at e
    split at e
    · rename_i xs ys q1 q2
      obtain ⟨p, vs, rfl, k1, h1, hx⟩ := lstAt_ok hr q1 rx
      obtain ⟨p2, vs2, rfl, k2, h2, hy⟩ := lstAt_ok hr q2 ry
      cases r1; cases r2
      obtain ⟨its, rv, pt, hz⟩ := I.list (SqL.of h1)
      obtain ⟨its2, rv2, pt2, hz2⟩ := I.list (SqL.of h2)
      split at e
      · rename_i hac
        subst hac
        cases e
        rw [k1] at k2; cases k2
        have k := RcAt.lists (e := fun _ => true) pt.isList pt.isList rfl hA (fun j _ _ => EqAt.same _)
        rw [show ((List.range its.toArray.size).all fun _ => true) = true from List.all_eq_true.mpr fun _ _ => rfl] at k
        exact k
      · have n1 : its.toArray.size = xs.length := by rw [List.size_toArray, ← rv.length, hx.len]
        have n2 : its2.toArray.size = ys.length := by rw [List.size_toArray, ← rv2.length, hy.len]
        split at e
        · rename_i hl
          obtain ⟨f, rfl, z⟩ := eqL_len e
          have k := RcAt.lists (e := f) pt.isList pt2.isList (by rw [n1, n2, hl]) hA fun j h1 h2 => by
            have h1' : j < its.length := by simpa using h1
            have h2' : j < its2.length := by simpa using h2
            obtain ⟨v1, k1, l1⟩ := vals_get rv (List.getElem?_eq_getElem h1')
            obtain ⟨v2, k2, l2⟩ := vals_get rv2 (List.getElem?_eq_getElem h2')
            obtain ⟨d1, m1, n1⟩ := hx.get' k1
            obtain ⟨d2, m2, n2⟩ := hy.get' k2
            have := eqF_ok I hr 30 d1 d2 (f j) A.in1 v1 v2 _ _ (z j d1 d2 m1 m2) n1 n2 l1 l2 (by show A.units + 1 + 30 < cLine; omega)
            simpa using this
          have m : min xs.length ys.length = its.toArray.size := by rw [n1]; omega
          rw [m]
          exact k
        · rename_i hl
          cases e
          exact .lists_lengths pt.isList pt2.isList (by rw [n1, n2]; simpa using hl) hA
    · cases e
  · refine eqD_ok0 I hr (n := 29) ?_ rx ry r1 r2 (by omega) fun a c z => q ⟨a, c, z⟩
    unfold eqD at e
    split at e
    · exact absurd ⟨_, _, rfl, rfl⟩ q
    · exact e
open SeqAt in
theorem neD_ok0 {pins : List (Addr × Obj)} {s : Shared} {σ : St} {H : Hp} (I : L2.Inv X pins σ H s) {R : List Addr} {h : Hh} (hr : HRel X.w X.K R h H)
    {n : Nat} {x y : D} {b : Bool} {A : Around} {vx vy : V} {u1 u2 : Value} (e : eqF h (n + 1) x y = some b) (rx : VR X.K H R x vx) (ry : VR X.K H R y vy) (r1 : RelV vx u1) (r2 : RelV vy u2) (hu : A.units + (n + 1) < cLine)
    (nr : ∀ a c : Nat, ¬ (x = .ref a ∧ y = .ref c)) : RcNeAt A s u1 u2 (!b) := by
    have hA : A.units < cLine := by omega
    have items : ∀ {xs ys : List D} {vs us : List V} {its its2 : List Value} {c : Bool}, eqL (eqF h n) xs ys = some c → VRs X.K H R xs vs → VRs X.K H R ys us → Vals vs its → Vals us its2 →
        ∃ e : Nat → Bool, c = (List.range (min xs.length ys.length)).all e ∧ ∀ j (h1 : j < its.toArray.size) (h2 : j < its2.toArray.size), EqAt A.in1 s its.toArray[j] its2.toArray[j] (e j) := by
      intro xs ys vs us its its2 c q a1 a2 b1 b2
      obtain ⟨e, rfl, z⟩ := eqL_len q
      refine ⟨e, rfl, fun j h1 h2 => ?_⟩
      have h1' : j < its.length := by simpa using h1
      have h2' : j < its2.length := by simpa using h2
      obtain ⟨v1, k1, l1⟩ := vals_get b1 (List.getElem?_eq_getElem h1')
      obtain ⟨v2, k2, l2⟩ := vals_get b2 (List.getElem?_eq_getElem h2')
      obtain ⟨d1, m1, n1⟩ := a1.get' k1
      obtain ⟨d2, m2, n2⟩ := a2.get' k2
      have := eqF_ok I hr n d1 d2 (e j) A.in1 v1 v2 _ _ (z j d1 d2 m1 m2) n1 n2 l1 l2 (by show A.units + 1 + n < cLine; omega)
      simpa using this
    have lst : ∀ {a : Nat} {c : Bool} {v : V} {u : Value}, (lstAt h a).map (fun _ => false) = some c → VR X.K H R (.ref a) v → RelV v u → c = false ∧ ∃ l its, u = .ref l ∧ s.heap.IsList l its := by
      intro a c v u q z r
      cases q1 : lstAt h a with
      | none => rw [q1] at q; cases q
      | some xs =>
        rw [q1] at q; cases q
        obtain ⟨l, vs, rfl, _, h1, _⟩ := lstAt_ok hr q1 z
        obtain ⟨its, rv, p, _⟩ := I.list (SqL.of h1)
        exact ⟨rfl, l, _, r, p.isList⟩
    cases x with
    | non =>
      subst rx; cases r1
      cases y with
      | non => subst ry; cases r2; simp only [eqF] at e; cases e; exact .none_none
      | bl c => subst ry; cases r2; simp only [eqF] at e; cases e; exact .none_bool _
      | int c => subst ry; obtain ⟨t2, rfl⟩ := r2; simp only [eqF] at e; cases e; exact .none_int _ _
      | str c => subst ry; obtain ⟨t2, rfl⟩ := r2; simp only [eqF] at e; cases e; exact .none_str _ _
      | tup c =>
        obtain ⟨p, vs, rfl, ht, _⟩ := ry
        cases r2
        obtain ⟨its, rv, ht, _⟩ := I.tuple ht
        simp only [eqF] at e; cases e; exact .none_tuple ht hA
      | rol c => simp only [eqF] at e; cases e
      | ref c =>
        simp only [eqF] at e
        obtain ⟨rfl, l, its, rfl, hl⟩ := lst e ry r2
        exact .none_list hl hA
    | bl a =>
      subst rx; cases r1
      cases y with
      | non => subst ry; cases r2; simp only [eqF] at e; cases e; exact .bool_none _
      | bl c => subst ry; cases r2; simp only [eqF] at e; cases e; exact .bool_bool _ _
      | int c => subst ry; obtain ⟨t2, rfl⟩ := r2; simp only [eqF] at e; cases e; exact .bool_int _ _ _
      | str c => subst ry; obtain ⟨t2, rfl⟩ := r2; simp only [eqF] at e; cases e; exact .bool_str _ _ _
      | tup c =>
        obtain ⟨p, vs, rfl, ht, _⟩ := ry
        cases r2
        obtain ⟨its, rv, ht, _⟩ := I.tuple ht
        simp only [eqF] at e; cases e; exact .bool_tuple _ ht hA
      | rol c => simp only [eqF] at e; cases e
      | ref c =>
        simp only [eqF] at e
        obtain ⟨rfl, l, its, rfl, hl⟩ := lst e ry r2
        exact .bool_list _ hl hA
    | int a =>
      subst rx; obtain ⟨t1, rfl⟩ := r1
      cases y with
      | non => subst ry; cases r2; simp only [eqF] at e; cases e; exact .int_none _ _
      | bl c => subst ry; cases r2; simp only [eqF] at e; cases e; exact .int_bool _ _ _
      | int c => subst ry; obtain ⟨t2, rfl⟩ := r2; simp only [eqF] at e; cases e; exact .int_int _ _ _ _
      | str c => subst ry; obtain ⟨t2, rfl⟩ := r2; simp only [eqF] at e; cases e; exact .int_str _ _ _ _
      | tup c =>
        obtain ⟨p, vs, rfl, ht, _⟩ := ry
        cases r2
        obtain ⟨its, rv, ht, _⟩ := I.tuple ht
        simp only [eqF] at e; cases e; exact .int_tuple _ _ ht hA
      | rol c => simp only [eqF] at e; cases e
      | ref c =>
        simp only [eqF] at e
        obtain ⟨rfl, l, its, rfl, hl⟩ := lst e ry r2
        exact .int_list _ _ hl hA
    | str a =>
      subst rx; obtain ⟨t1, rfl⟩ := r1
      cases y with
      | non => subst ry; cases r2; simp only [eqF] at e; cases e; exact .str_none _ _
      | bl c => subst ry; cases r2; simp only [eqF] at e; cases e; exact .str_bool _ _ _
      | int c => subst ry; obtain ⟨t2, rfl⟩ := r2; simp only [eqF] at e; cases e; exact .str_int _ _ _ _
      | str c => subst ry; obtain ⟨t2, rfl⟩ := r2; simp only [eqF] at e; cases e; exact .str_str _ _ _ _
      | tup c =>
        obtain ⟨p, vs, rfl, ht, _⟩ := ry
        cases r2
        obtain ⟨its, rv, ht, _⟩ := I.tuple ht
        simp only [eqF] at e; cases e; exact .str_tuple _ _ ht hA
      | rol c => simp only [eqF] at e; cases e
      | ref c =>
        simp only [eqF] at e
        obtain ⟨rfl, l, its, rfl, hl⟩ := lst e ry r2
        exact .str_list _ _ hl hA
    | rol a => cases y <;> (simp only [eqF] at e; cases e)
    | tup a =>
      obtain ⟨p, vs, rfl, ht0, hx⟩ := rx
      cases r1
      obtain ⟨its, rv, ht, hz⟩ := I.tuple ht0
      cases y with
      | non => subst ry; cases r2; simp only [eqF] at e; cases e; exact .tuple_none ht hA
      | bl c => subst ry; cases r2; simp only [eqF] at e; cases e; exact .tuple_bool _ ht hA
      | int c => subst ry; obtain ⟨t2, rfl⟩ := r2; simp only [eqF] at e; cases e; exact .tuple_int _ _ ht hA
      | str c => subst ry; obtain ⟨t2, rfl⟩ := r2; simp only [eqF] at e; cases e; exact .tuple_str _ _ ht hA
      | rol c => simp only [eqF] at e; cases e
      | tup c =>
        obtain ⟨p2, vs2, rfl, ht2, hy⟩ := ry
        cases r2
        obtain ⟨its2, rv2, pt2, hz2⟩ := I.tuple ht2
        simp only [eqF] at e
        cases q : eqL (eqF h n) a c with
        | none => rw [q] at e; cases e
        | some c0 =>
          rw [q] at e
          cases e
          obtain ⟨e, rfl, z⟩ := items q hx hy rv rv2
          have n1 : its.toArray.size = a.length := by rw [List.size_toArray, ← rv.length, hx.len]
          have n2 : its2.toArray.size = c.length := by rw [List.size_toArray, ← rv2.length, hy.len]
          have k := RcNeAt.tuples ht pt2 hA z
          rw [n1, n2] at k
          exact k
      | ref c =>
        simp only [eqF] at e
        obtain ⟨rfl, l, its, rfl, hl⟩ := lst e ry r2
        exact .tuple_list ht hl hA
    | ref a =>
      cases y with
      | ref c => exact absurd ⟨rfl, rfl⟩ (nr a c)
      | rol c => simp only [eqF] at e; cases e
      | non =>
        simp only [eqF] at e
        obtain ⟨rfl, l, its, rfl, hl⟩ := lst e rx r1
        subst ry; cases r2; exact .list_none hl hA
      | bl c =>
        simp only [eqF] at e
        obtain ⟨rfl, l, its, rfl, hl⟩ := lst e rx r1
        subst ry; cases r2; exact .list_bool _ hl hA
      | int c =>
        simp only [eqF] at e
        obtain ⟨rfl, l, its, rfl, hl⟩ := lst e rx r1
        subst ry; obtain ⟨t2, rfl⟩ := r2; exact .list_int _ _ hl hA
      | str c =>
        simp only [eqF] at e
        obtain ⟨rfl, l, its, rfl, hl⟩ := lst e rx r1
        subst ry; obtain ⟨t2, rfl⟩ := r2; exact .list_str _ _ hl hA
      | tup c =>
        simp only [eqF] at e
        obtain ⟨rfl, l, its, rfl, hl⟩ := lst e rx r1
        obtain ⟨p2, vs2, rfl, ht2, hy⟩ := ry
        cases r2
        obtain ⟨its2, rv2, ht2, hz2⟩ := I.tuple ht2
        exact .list_tuple hl ht2 hA
open SeqAt in
theorem neD_ok {pins : List (Addr × Obj)} {s : Shared} {σ : St} {H : Hp} (I : L2.Inv X pins σ H s) {R : List Addr} {h : Hh} (hr : HRel X.w X.K R h H)
    {x y : D} {b : Bool} {A : Around} {vx vy : V} {u1 u2 : Value} (e : eqD h x y = some b) (rx : VR X.K H R x vx) (ry : VR X.K H R y vy) (r1 : RelV vx u1) (r2 : RelV vy u2) (hu : A.units + 31 < cLine) : RcNeAt A s u1 u2 (!b) := by
  by_cases q : ∃ a c, x = .ref a ∧ y = .ref c
  · obtain ⟨a, c, rfl, rfl⟩ := q
    have hA : A.units < cLine := by omega
    simp only [eqD] at e
    split at e
    · rename_i xs ys q1 q2
      obtain ⟨p, vs, rfl, k1, h1, hx⟩ := lstAt_ok hr q1 rx
      obtain ⟨p2, vs2, rfl, k2, h2, hy⟩ := lstAt_ok hr q2 ry
      cases r1; cases r2
      obtain ⟨its, rv, pt, hz⟩ := I.list (SqL.of h1)
      obtain ⟨its2, rv2, pt2, hz2⟩ := I.list (SqL.of h2)
      split at e
      · rename_i hac
        subst hac
        cases e
        rw [k1] at k2; cases k2
        have k := RcNeAt.lists (e := fun _ => true) pt.isList pt.isList rfl hA (fun j _ _ => EqAt.same _)
        rw [show ((List.range its.toArray.size).all fun _ => true) = true from List.all_eq_true.mpr fun _ _ => rfl] at k
        exact k
      · have n1 : its.toArray.size = xs.length := by rw [List.size_toArray, ← rv.length, hx.len]
        have n2 : its2.toArray.size = ys.length := by rw [List.size_toArray, ← rv2.length, hy.len]
        split at e
        · rename_i hl
          obtain ⟨f, rfl, z⟩ := eqL_len e
          have k := RcNeAt.lists (e := f) pt.isList pt2.isList (by rw [n1, n2, hl]) hA fun j h1 h2 => by
            have h1' : j < its.length := by simpa using h1
            have h2' : j < its2.length := by simpa using h2
            obtain ⟨v1, k1, l1⟩ := vals_get rv (List.getElem?_eq_getElem h1')
            obtain ⟨v2, k2, l2⟩ := vals_get rv2 (List.getElem?_eq_getElem h2')
            obtain ⟨d1, m1, n1⟩ := hx.get' k1
            obtain ⟨d2, m2, n2⟩ := hy.get' k2
            have := eqF_ok I hr 30 d1 d2 (f j) A.in1 v1 v2 _ _ (z j d1 d2 m1 m2) n1 n2 l1 l2 (by show A.units + 1 + 30 < cLine; omega)
            simpa using this
          have m : min xs.length ys.length = its.toArray.size := by rw [n1]; omega
          rw [m]
          exact k
        · rename_i hl
          cases e
          exact .lists_lengths pt.isList pt2.isList (by rw [n1, n2]; simpa using hl) hA
    · cases e
  · refine neD_ok0 I hr (n := 29) ?_ rx ry r1 r2 (by omega) fun a c z => q ⟨a, c, z⟩
    unfold eqD at e
    split at e
    · exact absurd ⟨_, _, rfl, rfl⟩ q
    · exact e
end
end Z
set_option Elab.async false
set_option linter.all false
set_option maxRecDepth 100000
set_option maxHeartbeats 4000000
/-! dicts at the model's own level, whatever keys of NestedKey stand in them together -/
namespace Z
open PySem

abbrev XE := NestedKey × Value × Value
def ent (w : World) (x : XE) : DictEntry := ⟨x.1.hash w, x.2.1, x.2.2⟩
structure DAt (w : World) (h : Heap) (d : Addr) (o : Obj) (es : Array DictEntry) (ep : Nat) (xs : List XE) : Prop where
  at_ : h.get? d = some o
  exact : o.ExactDict
  data : o.data = .dict es ep
  ents : es.toList = xs.map (ent w)
  keys : ∀ x ∈ xs, NestedIs h x.1 x.2.1 ∧ x.1.depth ≤ 8
  nd : (xs.map (·.1)).Nodup
def ixK (k : NestedKey) (xs : List XE) : Option Nat := xs.findIdx? fun x => decide (x.1 = k)

section
variable {prog : Program} {w : World} {A : Around} {E : Value → Shared → Prop} {s : Shared} {d : Addr} {o : Obj} {es : Array DictEntry} {ep : Nat} {xs : List XE} {k : NestedKey} {key : Value}
theorem DAt.entry (D : DAt w s.heap d o es ep xs) (j : Nat) : es[j]? = (xs[j]?).map (ent w) := by
  rw [← Array.getElem?_toList, D.ents, List.getElem?_map]
theorem DAt.size (D : DAt w s.heap d o es ep xs) : es.size = xs.length := by
  rw [← Array.length_toList, D.ents, List.length_map]
theorem ixK_some {j : Nat} (h : ixK k xs = some j) : ∃ p, xs[j]? = some (k, p) := by
  unfold ixK at h
  rw [List.findIdx?_eq_some_iff_getElem] at h
  obtain ⟨hj, e, _⟩ := h
  refine ⟨xs[j].2, ?_⟩
  rw [List.getElem?_eq_getElem hj]
  exact congrArg some (Prod.ext (of_decide_eq_true e) rfl)
theorem ixK_of (nd : (xs.map (·.1)).Nodup) {j : Nat} {p : Value × Value} (h : xs[j]? = some (k, p)) : ixK k xs = some j := by
  obtain ⟨hj, e⟩ := List.getElem?_eq_some_iff.mp h
  unfold ixK
  rw [List.findIdx?_eq_some_iff_getElem]
  refine ⟨hj, by rw [e]; simp, fun i hi => ?_⟩
  have hi' : i < xs.length := by omega
  simp only [decide_eq_true_eq]
  intro z
  have e1 : (xs.map (·.1))[i]? = some k := by rw [List.getElem?_map, List.getElem?_eq_getElem hi', Option.map_some, z]
  have e2 : (xs.map (·.1))[j]? = some k := by rw [List.getElem?_map, h]; rfl
  have := (List.getElem?_inj (by rw [List.length_map]; exact hi') nd).mp (e1.trans e2.symm)
  omega
theorem ixK_none (h : ∀ (j : Nat) (p : Value × Value), xs[j]? ≠ some (k, p)) : ixK k xs = none := by
  unfold ixK
  rw [List.findIdx?_eq_none_iff]
  intro x hx
  obtain ⟨j, hj⟩ := List.mem_iff_getElem?.mp hx
  cases z : decide (x.1 = k) with
  | false => rfl
  | true =>
    have e : x.1 = k := of_decide_eq_true z
    exact absurd (by rw [hj, ← e]) (h j x.2)
theorem findIdx_same {α : Type} {p q : α → Bool} : ∀ {l : List α}, (∀ a ∈ l, p a = q a) → l.findIdx? p = l.findIdx? q
  | [], _ => rfl
  | a :: l, h => by
    rw [List.findIdx?_cons, List.findIdx?_cons, h a List.mem_cons_self, findIdx_same fun b hb => h b (List.mem_cons_of_mem _ hb)]
/-- asked of the entries with the key's hash, one after the other -/
theorem walkPlain (hu : A.units + 8 < cLine) (D : DAt w s.heap d o es ep xs) (hk : NestedIs s.heap k key) (hd8 : k.depth ≤ 8) {Q : Option Nat → Shared → Prop} (h : Q (ixK k xs) s) :
    wpAny (model prog w) A (dictWalkPlain d key (k.hash w) es (placesWithHash es.size (fun i => es[i]?.map (·.hash)) (k.hash w))) Q E s := by
  have has : ∀ (j : Nat) (p : Value × Value), xs[j]? = some (k, p) → ((es[j]?.map (·.hash)) == some (k.hash w)) = true := by
    intro j p hj
    rw [D.entry j, hj]
    simp [ent]
  refine wpAny_bind ?_
  refine wpAny_forIn_list _ (fun left b s' => s' = s ∧ b = (none, ()) ∧ ∃ i, left = (List.range' i (es.size - i)).filter (fun i => (es[i]?.map (·.hash)) == some (k.hash w)) ∧ i ≤ es.size ∧ ∀ j p, j < i → xs[j]? ≠ some (k, p)) _ ?_ ?_ _ _
    ⟨rfl, rfl, 0, by rw [placesWithHash, List.range_eq_range', Nat.sub_zero], Nat.zero_le _, fun _ _ h => absurd h (Nat.not_lt_zero _)⟩
  · rintro x left b s' ⟨rfl, rfl, i, hr, hi, hno⟩
    obtain ⟨hix, hxn, hpx, hskip, hrest⟩ := filter_range'_cons _ _ _ _ _ hr.symm
    have hlt : x < es.size := by omega
    obtain ⟨⟨k2, v2, y2⟩, hx2⟩ : ∃ y, xs[x]? = some y := ⟨xs[x]'(by rw [← D.size]; exact hlt), List.getElem?_eq_getElem _⟩
    have ex : es[x]? = some ⟨k2.hash w, v2, y2⟩ := by rw [D.entry x, hx2]; rfl
    obtain ⟨is2, dp2⟩ := D.keys _ (List.mem_of_getElem? hx2)
    have before : ∀ j p, j < x → xs[j]? ≠ some (k, p) := fun j p hj e => by
      rcases Nat.lt_or_ge j i with z | z
      · exact hno j p z e
      · have := hskip j z hj
        rw [has j p e] at this; cases this
    have next : ¬ k2 = k → ∃ i, left = (List.range' i (es.size - i)).filter (fun i => (es[i]?.map (·.hash)) == some (k.hash w)) ∧ i ≤ es.size ∧ ∀ j p, j < i → xs[j]? ≠ some (k, p) := fun ne =>
      ⟨x + 1, by rw [hrest]; congr 2; omega, hlt, fun j p hj e => by
        rcases Nat.lt_or_ge j x with z | z
        · exact before j p z e
        · have : j = x := by omega
          subst this
          rw [hx2] at e
          exact ne (congrArg (·.1) (Option.some.inj e))⟩
    rw [ex]
    dsimp only
    by_cases hh : (k2.hash w == k.hash w) = true
    · rw [if_pos hh]
      refine wpAny_bind (wpAny_dictEpoch D.at_ D.data (wpAny_bind (eqAt_key k2 k A s' v2 _ is2 hk (by omega) _ _ _ _ (wpAny_bind (wpAny_dictEpoch D.at_ D.data ?_)))))
      rw [if_neg (show ¬ ((ep != ep) = true) by simp)]
      rw [← NestedKey.decide_eq]
      by_cases hkk : k2 = k
      · rw [decide_eq_true hkk]
        subst hkk
        rw [ixK_of D.nd hx2] at h
        exact wpAny_bind (wpAny_rule (wpAny_pure (wpAny_pure h)))
      · rw [decide_eq_false hkk]
        exact wpAny_bind (wpAny_rule (wpAny_pure ⟨rfl, rfl, next hkk⟩))
    · rw [if_neg hh]
      refine wpAny_pure ⟨rfl, rfl, next ?_⟩
      intro e
      rw [e] at hh; simp at hh
  · rintro b s' ⟨rfl, rfl, i, hr, hi, hno⟩
    have : ixK k xs = none := ixK_none fun j p e => by
      rcases Nat.lt_or_ge j i with z | z
      · exact hno j p z e
      · have hj : j < es.size := by rw [D.size]; exact (List.getElem?_eq_some_iff.mp e).1
        have := List.filter_eq_nil_iff.mp hr.symm j (List.mem_range'_1.mpr ⟨z, by omega⟩)
        rw [has j p e] at this
        exact absurd rfl this
    rw [this] at h
    exact wpAny_pure h
theorem quietTells (D : DAt w s.heap d o es ep xs) (hk : NestedIs s.heap k key) (hd8 : k.depth ≤ 8) {stored : List Value} (hst : ∀ v ∈ stored, ∃ k', NestedIs s.heap k' v ∧ k'.depth ≤ 8) {Q : Bool → Shared → Prop} (h : Q false s) :
    wpAny (model prog w) A (tableMayTell key stored) Q E s := by
  unfold tableMayTell
  split
  · exact wpAny_pure h
  · refine wpAny_bind (quiet_key (prog := prog) (w := w) k key 8 s hk hd8 A E _ ?_)
    simp only [Bool.not_true, Bool.false_eq_true, if_false]
    refine wpAny_bind ?_
    refine wpAny_forIn_list _ (fun left r s' => s' = s ∧ r = (none, ()) ∧ ∀ v ∈ left, ∃ k', NestedIs s.heap k' v ∧ k'.depth ≤ 8) _ ?_ ?_ _ _ ⟨rfl, rfl, hst⟩
    · rintro x left r s' ⟨rfl, rfl, hr⟩
      obtain ⟨k', hb, hd'⟩ := hr x List.mem_cons_self
      refine wpAny_bind (quiet_key (prog := prog) (w := w) k' x 8 s' hb hd' A E _ ?_)
      simp only [Bool.not_true, Bool.false_eq_true, if_false]
      exact wpAny_pure ⟨rfl, rfl, fun v hv => hr v (List.mem_cons_of_mem _ hv)⟩
    · rintro r s' ⟨rfl, rfl, _⟩
      exact wpAny_pure h
theorem find_ok (hu : A.units + 8 < cLine) (D : DAt w s.heap d o es ep xs) (hk : NestedIs s.heap k key) (hd8 : k.depth ≤ 8) {Q : Option Nat → Shared → Prop} (h : Q (ixK k xs) s) :
    wpAny (model prog w) A (dictFind d key (k.hash w)) Q E s := by
  have hmem : ∀ e ∈ es, ∃ x ∈ xs, e = ent w x := by
    intro e hin
    have : e ∈ xs.map (ent w) := D.ents ▸ Array.mem_toList_iff.mpr hin
    obtain ⟨x, hx, rfl⟩ := List.mem_map.mp this
    exact ⟨x, hx, rfl⟩
  have hst : ∀ v ∈ (placesWithHash es.size (fun i => es[i]?.map (·.hash)) (k.hash w)).filterMap (fun i => es[i]?.map (·.key)), ∃ k', NestedIs s.heap k' v ∧ k'.depth ≤ 8 := by
    intro v hv
    obtain ⟨i, _, hi⟩ := List.mem_filterMap.mp hv
    cases hei : es[i]? with
    | none => rw [hei] at hi; cases hi
    | some e =>
      rw [hei] at hi
      obtain rfl : e.key = v := by simpa using hi
      obtain ⟨x, hx, rfl⟩ := hmem e (Array.mem_of_getElem? hei)
      exact ⟨x.1, D.keys x hx⟩
  have hany : ∀ a, key = .ref a → ¬ (es.any fun e => e.key == key && e.hash != k.hash w) = true := by
    intro a ha
    rw [← Array.any_toList, List.any_eq_true]
    rintro ⟨e, hin, hc⟩
    obtain ⟨x, hx, rfl⟩ := hmem e (Array.mem_toList_iff.mp hin)
    simp only [ent, Bool.and_eq_true, beq_iff_eq, bne_iff_ne, ne_eq] at hc
    obtain ⟨hxa, hne⟩ := hc
    have := (D.keys x hx).1
    rw [hxa] at this
    exact hne (by rw [NestedIs.inj _ _ _ this hk])
  have plain := walkPlain (prog := prog) (E := E) hu D hk hd8 h
  have general : ∀ a, key = .ref a → wpAny (model prog w) A (dictFind d key (k.hash w)) Q E s := by
    intro a ha
    subst ha
    unfold dictFind
    refine wpAny_holding ?_
    refine wpAny_bind (wpAny_dictEntries D.at_ D.data ?_)
    dsimp only
    rw [if_neg (show ¬ ((Value.ref a :: (placesWithHash es.size (fun i => es[i]?.map (·.hash)) (k.hash w)).filterMap (fun i => es[i]?.map (·.key))).all carriedByValue) = true by simp [carriedByValue])]
    rw [if_neg (hany a rfl)]
    by_cases hone : (((placesWithHash es.size (fun i => es[i]?.map (·.hash)) (k.hash w)).filterMap (fun i => es[i]?.map (·.key))) == [Value.ref a]) = true
    · rw [if_pos hone]
      refine wpAny_bind (wpAny_pure ?_)
      rw [if_neg (by simp)]
      have has : ∀ (j : Nat) (p : Value × Value), xs[j]? = some (k, p) → ((es[j]?.map (·.hash)) == some (k.hash w)) = true := by
        intro j p hj
        rw [D.entry j, hj]
        simp [ent]
      refine wpAny_bind ?_
      refine wpAny_forIn_list _ (fun left b s' => s' = s ∧ ∃ i hit, b = (none, hit) ∧ left = (List.range' i (es.size - i)).filter (fun i => (es[i]?.map (·.hash)) == some (k.hash w)) ∧ i ≤ es.size ∧
          ((hit = none ∧ ∀ j p, j < i → xs[j]? ≠ some (k, p)) ∨ ∃ j p, hit = some j ∧ j < i ∧ xs[j]? = some (k, p))) _ ?_ ?_ _ _
        ⟨rfl, 0, none, rfl, by rw [placesWithHash, List.range_eq_range', Nat.sub_zero], Nat.zero_le _, .inl ⟨rfl, fun _ _ h => absurd h (Nat.not_lt_zero _)⟩⟩
      · rintro x left b s' ⟨rfl, i, hit, rfl, hr, hi, hH⟩
        obtain ⟨hix, hxn, hpx, hskip, hrest⟩ := filter_range'_cons _ _ _ _ _ hr.symm
        have hlt : x < es.size := by omega
        have hrest' : left = (List.range' (x + 1) (es.size - (x + 1))).filter (fun i => (es[i]?.map (·.hash)) == some (k.hash w)) := by rw [hrest]; congr 2; omega
        obtain ⟨⟨k2, v2, y2⟩, hx2⟩ : ∃ y, xs[x]? = some y := ⟨xs[x]'(by rw [← D.size]; exact hlt), List.getElem?_eq_getElem _⟩
        have ex : es[x]? = some ⟨k2.hash w, v2, y2⟩ := by rw [D.entry x, hx2]; rfl
        obtain ⟨is2, dp2⟩ := D.keys _ (List.mem_of_getElem? hx2)
        have hHx : (hit = none ∧ ∀ j p, j < x → xs[j]? ≠ some (k, p)) ∨ ∃ j p, hit = some j ∧ j < x ∧ xs[j]? = some (k, p) := by
          rcases hH with ⟨h0, hno⟩ | ⟨j, p, h1, hji, hj⟩
          · refine .inl ⟨h0, fun j p hj e => ?_⟩
            rcases Nat.lt_or_ge j i with z | z
            · exact hno j p z e
            · have := hskip j z hj
              rw [has j p e] at this; cases this
          · exact .inr ⟨j, p, h1, by omega, hj⟩
        have next : ¬ k2 = k → ((hit = none ∧ ∀ j p, j < x + 1 → xs[j]? ≠ some (k, p)) ∨ ∃ j p, hit = some j ∧ j < x + 1 ∧ xs[j]? = some (k, p)) := fun ne => by
          rcases hHx with ⟨h0, hno⟩ | ⟨j, p, h1, hjx, hj⟩
          · refine .inl ⟨h0, fun j p hj e => ?_⟩
            rcases Nat.lt_or_ge j x with z | z
            · exact hno j p z e
            · have : j = x := by omega
              subst this
              rw [hx2] at e
              exact ne (congrArg (·.1) (Option.some.inj e))
          · exact .inr ⟨j, p, h1, by omega, hj⟩
        rw [ex]
        dsimp only
        by_cases hh : (k2.hash w == k.hash w) = true
        · rw [if_pos hh]
          refine wpAny_bind (wpAny_dictEpoch D.at_ D.data (wpAny_bind (eqAt_key k2 k A s' v2 _ is2 hk (by omega) _ _ _ _ (wpAny_bind (wpAny_dictEpoch D.at_ D.data ?_)))))
          rw [if_neg (show ¬ ((ep != ep) = true) by simp)]
          rw [← NestedKey.decide_eq]
          by_cases hkk : k2 = k
          · rw [decide_eq_true hkk]
            subst hkk
            rcases hHx with ⟨rfl, _⟩ | ⟨j, p, _, hjx, hj⟩
            · simp only [Option.isSome_none, Bool.false_eq_true, if_false, if_true]
              refine wpAny_bind (wpAny_rule ?_)
              split
              · rw [ixK_of D.nd hx2] at h
                exact wpAny_pure (wpAny_pure h)
              · exact wpAny_pure ⟨rfl, x + 1, some x, rfl, hrest', hlt, .inr ⟨x, _, rfl, Nat.lt_succ_self x, hx2⟩⟩
            · have e1 := ixK_of D.nd hj
              rw [ixK_of D.nd hx2] at e1
              injection e1 with e1
              omega
          · rw [decide_eq_false hkk]
            simp only [Bool.false_eq_true, if_false, Bool.false_and]
            exact wpAny_bind (wpAny_rule (wpAny_pure ⟨rfl, x + 1, hit, rfl, hrest', hlt, next hkk⟩))
        · rw [if_neg hh]
          refine wpAny_pure ⟨rfl, x + 1, hit, rfl, hrest', hlt, next ?_⟩
          intro e
          rw [e] at hh; simp at hh
      · rintro b s' ⟨rfl, i, hit, rfl, hr, hi, hH⟩
        rcases hH with ⟨rfl, hno⟩ | ⟨j, p, rfl, _, hj⟩
        · have : ixK k xs = none := ixK_none fun j p e => by
            rcases Nat.lt_or_ge j i with z | z
            · exact hno j p z e
            · have hj : j < es.size := by rw [D.size]; exact (List.getElem?_eq_some_iff.mp e).1
              have := List.filter_eq_nil_iff.mp hr.symm j (List.mem_range'_1.mpr ⟨z, by omega⟩)
              rw [has j p e] at this
              exact absurd rfl this
          rw [this] at h
          exact wpAny_pure h
        · rw [ixK_of D.nd hj] at h
          exact wpAny_pure h
    · rw [if_neg hone]
      refine wpAny_bind (quietTells D hk hd8 hst ?_)
      rw [if_neg (by simp)]
      have has : ∀ (j : Nat) (p : Value × Value), xs[j]? = some (k, p) → ((es[j]?.map (·.hash)) == some (k.hash w)) = true := by
        intro j p hj
        rw [D.entry j, hj]
        simp [ent]
      refine wpAny_bind ?_
      refine wpAny_forIn_list _ (fun left b s' => s' = s ∧ ∃ i hit, b = (none, hit) ∧ left = (List.range' i (es.size - i)).filter (fun i => (es[i]?.map (·.hash)) == some (k.hash w)) ∧ i ≤ es.size ∧
          ((hit = none ∧ ∀ j p, j < i → xs[j]? ≠ some (k, p)) ∨ ∃ j p, hit = some j ∧ j < i ∧ xs[j]? = some (k, p))) _ ?_ ?_ _ _
        ⟨rfl, 0, none, rfl, by rw [placesWithHash, List.range_eq_range', Nat.sub_zero], Nat.zero_le _, .inl ⟨rfl, fun _ _ h => absurd h (Nat.not_lt_zero _)⟩⟩
      · rintro x left b s' ⟨rfl, i, hit, rfl, hr, hi, hH⟩
        obtain ⟨hix, hxn, hpx, hskip, hrest⟩ := filter_range'_cons _ _ _ _ _ hr.symm
        have hlt : x < es.size := by omega
        have hrest' : left = (List.range' (x + 1) (es.size - (x + 1))).filter (fun i => (es[i]?.map (·.hash)) == some (k.hash w)) := by rw [hrest]; congr 2; omega
        obtain ⟨⟨k2, v2, y2⟩, hx2⟩ : ∃ y, xs[x]? = some y := ⟨xs[x]'(by rw [← D.size]; exact hlt), List.getElem?_eq_getElem _⟩
        have ex : es[x]? = some ⟨k2.hash w, v2, y2⟩ := by rw [D.entry x, hx2]; rfl
        obtain ⟨is2, dp2⟩ := D.keys _ (List.mem_of_getElem? hx2)
        have hHx : (hit = none ∧ ∀ j p, j < x → xs[j]? ≠ some (k, p)) ∨ ∃ j p, hit = some j ∧ j < x ∧ xs[j]? = some (k, p) := by
          rcases hH with ⟨h0, hno⟩ | ⟨j, p, h1, hji, hj⟩
          · refine .inl ⟨h0, fun j p hj e => ?_⟩
            rcases Nat.lt_or_ge j i with z | z
            · exact hno j p z e
            · have := hskip j z hj
              rw [has j p e] at this; cases this
          · exact .inr ⟨j, p, h1, by omega, hj⟩
        have next : ¬ k2 = k → ((hit = none ∧ ∀ j p, j < x + 1 → xs[j]? ≠ some (k, p)) ∨ ∃ j p, hit = some j ∧ j < x + 1 ∧ xs[j]? = some (k, p)) := fun ne => by
          rcases hHx with ⟨h0, hno⟩ | ⟨j, p, h1, hjx, hj⟩
          · refine .inl ⟨h0, fun j p hj e => ?_⟩
            rcases Nat.lt_or_ge j x with z | z
            · exact hno j p z e
            · have : j = x := by omega
              subst this
              rw [hx2] at e
              exact ne (congrArg (·.1) (Option.some.inj e))
          · exact .inr ⟨j, p, h1, by omega, hj⟩
        rw [ex]
        dsimp only
        by_cases hh : (k2.hash w == k.hash w) = true
        · rw [if_pos hh]
          refine wpAny_bind (wpAny_dictEpoch D.at_ D.data (wpAny_bind (eqAt_key k2 k A s' v2 _ is2 hk (by omega) _ _ _ _ (wpAny_bind (wpAny_dictEpoch D.at_ D.data ?_)))))
          rw [if_neg (show ¬ ((ep != ep) = true) by simp)]
          rw [← NestedKey.decide_eq]
          by_cases hkk : k2 = k
          · rw [decide_eq_true hkk]
            subst hkk
            rcases hHx with ⟨rfl, _⟩ | ⟨j, p, _, hjx, hj⟩
            · simp only [Option.isSome_none, Bool.false_eq_true, if_false, if_true]
              refine wpAny_bind (wpAny_rule ?_)
              split
              · rw [ixK_of D.nd hx2] at h
                exact wpAny_pure (wpAny_pure h)
              · exact wpAny_pure ⟨rfl, x + 1, some x, rfl, hrest', hlt, .inr ⟨x, _, rfl, Nat.lt_succ_self x, hx2⟩⟩
            · have e1 := ixK_of D.nd hj
              rw [ixK_of D.nd hx2] at e1
              injection e1 with e1
              omega
          · rw [decide_eq_false hkk]
            simp only [Bool.false_eq_true, if_false, Bool.false_and]
            exact wpAny_bind (wpAny_rule (wpAny_pure ⟨rfl, x + 1, hit, rfl, hrest', hlt, next hkk⟩))
        · rw [if_neg hh]
          refine wpAny_pure ⟨rfl, x + 1, hit, rfl, hrest', hlt, next ?_⟩
          intro e
          rw [e] at hh; simp at hh
      · rintro b s' ⟨rfl, i, hit, rfl, hr, hi, hH⟩
        rcases hH with ⟨rfl, hno⟩ | ⟨j, p, rfl, _, hj⟩
        · have : ixK k xs = none := ixK_none fun j p e => by
            rcases Nat.lt_or_ge j i with z | z
            · exact hno j p z e
            · have hj : j < es.size := by rw [D.size]; exact (List.getElem?_eq_some_iff.mp e).1
              have := List.filter_eq_nil_iff.mp hr.symm j (List.mem_range'_1.mpr ⟨z, by omega⟩)
              rw [has j p e] at this
              exact absurd rfl this
          rw [this] at h
          exact wpAny_pure h
        · rw [ixK_of D.nd hj] at h
          exact wpAny_pure h
  have byval : carriedByValue key = true → (∀ x t, key ≠ .str x t) → wpAny (model prog w) A (dictFind d key (k.hash w)) Q E s := by
    intro hc hs
    unfold dictFind
    refine wpAny_holding ?_
    refine wpAny_bind (wpAny_dictEntries D.at_ D.data ?_)
    dsimp only
    split
    · exact absurd rfl (hs _ _)
    · by_cases hall : ((key :: (placesWithHash es.size (fun i => es[i]?.map (·.hash)) (k.hash w)).filterMap (fun i => es[i]?.map (·.key))).all carriedByValue) = true
      · rw [if_pos hall]; exact plain
      · rw [if_neg hall]
        split
        · simp [carriedByValue] at hc
        · by_cases hone : (((placesWithHash es.size (fun i => es[i]?.map (·.hash)) (k.hash w)).filterMap (fun i => es[i]?.map (·.key))) == [key]) = true
          · rw [if_pos hone]
            refine wpAny_bind (wpAny_pure ?_)
            rw [if_neg (by simp)]
            have has : ∀ (j : Nat) (p : Value × Value), xs[j]? = some (k, p) → ((es[j]?.map (·.hash)) == some (k.hash w)) = true := by
              intro j p hj
              rw [D.entry j, hj]
              simp [ent]
            refine wpAny_bind ?_
            refine wpAny_forIn_list _ (fun left b s' => s' = s ∧ ∃ i hit, b = (none, hit) ∧ left = (List.range' i (es.size - i)).filter (fun i => (es[i]?.map (·.hash)) == some (k.hash w)) ∧ i ≤ es.size ∧
                ((hit = none ∧ ∀ j p, j < i → xs[j]? ≠ some (k, p)) ∨ ∃ j p, hit = some j ∧ j < i ∧ xs[j]? = some (k, p))) _ ?_ ?_ _ _
              ⟨rfl, 0, none, rfl, by rw [placesWithHash, List.range_eq_range', Nat.sub_zero], Nat.zero_le _, .inl ⟨rfl, fun _ _ h => absurd h (Nat.not_lt_zero _)⟩⟩
            · rintro x left b s' ⟨rfl, i, hit, rfl, hr, hi, hH⟩
              obtain ⟨hix, hxn, hpx, hskip, hrest⟩ := filter_range'_cons _ _ _ _ _ hr.symm
              have hlt : x < es.size := by omega
              have hrest' : left = (List.range' (x + 1) (es.size - (x + 1))).filter (fun i => (es[i]?.map (·.hash)) == some (k.hash w)) := by rw [hrest]; congr 2; omega
              obtain ⟨⟨k2, v2, y2⟩, hx2⟩ : ∃ y, xs[x]? = some y := ⟨xs[x]'(by rw [← D.size]; exact hlt), List.getElem?_eq_getElem _⟩
              have ex : es[x]? = some ⟨k2.hash w, v2, y2⟩ := by rw [D.entry x, hx2]; rfl
              obtain ⟨is2, dp2⟩ := D.keys _ (List.mem_of_getElem? hx2)
              have hHx : (hit = none ∧ ∀ j p, j < x → xs[j]? ≠ some (k, p)) ∨ ∃ j p, hit = some j ∧ j < x ∧ xs[j]? = some (k, p) := by
                rcases hH with ⟨h0, hno⟩ | ⟨j, p, h1, hji, hj⟩
                · refine .inl ⟨h0, fun j p hj e => ?_⟩
                  rcases Nat.lt_or_ge j i with z | z
                  · exact hno j p z e
                  · have := hskip j z hj
                    rw [has j p e] at this; cases this
                · exact .inr ⟨j, p, h1, by omega, hj⟩
              have next : ¬ k2 = k → ((hit = none ∧ ∀ j p, j < x + 1 → xs[j]? ≠ some (k, p)) ∨ ∃ j p, hit = some j ∧ j < x + 1 ∧ xs[j]? = some (k, p)) := fun ne => by
                rcases hHx with ⟨h0, hno⟩ | ⟨j, p, h1, hjx, hj⟩
                · refine .inl ⟨h0, fun j p hj e => ?_⟩
                  rcases Nat.lt_or_ge j x with z | z
                  · exact hno j p z e
                  · have : j = x := by omega
                    subst this
                    rw [hx2] at e
                    exact ne (congrArg (·.1) (Option.some.inj e))
                · exact .inr ⟨j, p, h1, by omega, hj⟩
              rw [ex]
              dsimp only
              by_cases hh : (k2.hash w == k.hash w) = true
              · rw [if_pos hh]
                refine wpAny_bind (wpAny_dictEpoch D.at_ D.data (wpAny_bind (eqAt_key k2 k A s' v2 _ is2 hk (by omega) _ _ _ _ (wpAny_bind (wpAny_dictEpoch D.at_ D.data ?_)))))
                rw [if_neg (show ¬ ((ep != ep) = true) by simp)]
                rw [← NestedKey.decide_eq]
                by_cases hkk : k2 = k
                · rw [decide_eq_true hkk]
                  subst hkk
                  rcases hHx with ⟨rfl, _⟩ | ⟨j, p, _, hjx, hj⟩
                  · simp only [Option.isSome_none, Bool.false_eq_true, if_false, if_true]
                    refine wpAny_bind (wpAny_rule ?_)
                    split
                    · rw [ixK_of D.nd hx2] at h
                      exact wpAny_pure (wpAny_pure h)
                    · exact wpAny_pure ⟨rfl, x + 1, some x, rfl, hrest', hlt, .inr ⟨x, _, rfl, Nat.lt_succ_self x, hx2⟩⟩
                  · have e1 := ixK_of D.nd hj
                    rw [ixK_of D.nd hx2] at e1
                    injection e1 with e1
                    omega
                · rw [decide_eq_false hkk]
                  simp only [Bool.false_eq_true, if_false, Bool.false_and]
                  exact wpAny_bind (wpAny_rule (wpAny_pure ⟨rfl, x + 1, hit, rfl, hrest', hlt, next hkk⟩))
              · rw [if_neg hh]
                refine wpAny_pure ⟨rfl, x + 1, hit, rfl, hrest', hlt, next ?_⟩
                intro e
                rw [e] at hh; simp at hh
            · rintro b s' ⟨rfl, i, hit, rfl, hr, hi, hH⟩
              rcases hH with ⟨rfl, hno⟩ | ⟨j, p, rfl, _, hj⟩
              · have : ixK k xs = none := ixK_none fun j p e => by
                  rcases Nat.lt_or_ge j i with z | z
                  · exact hno j p z e
                  · have hj : j < es.size := by rw [D.size]; exact (List.getElem?_eq_some_iff.mp e).1
                    have := List.filter_eq_nil_iff.mp hr.symm j (List.mem_range'_1.mpr ⟨z, by omega⟩)
                    rw [has j p e] at this
                    exact absurd rfl this
                rw [this] at h
                exact wpAny_pure h
              · rw [ixK_of D.nd hj] at h
                exact wpAny_pure h
          · rw [if_neg hone]
            refine wpAny_bind (quietTells D hk hd8 hst ?_)
            rw [if_neg (by simp)]
            have has : ∀ (j : Nat) (p : Value × Value), xs[j]? = some (k, p) → ((es[j]?.map (·.hash)) == some (k.hash w)) = true := by
              intro j p hj
              rw [D.entry j, hj]
              simp [ent]
            refine wpAny_bind ?_
            refine wpAny_forIn_list _ (fun left b s' => s' = s ∧ ∃ i hit, b = (none, hit) ∧ left = (List.range' i (es.size - i)).filter (fun i => (es[i]?.map (·.hash)) == some (k.hash w)) ∧ i ≤ es.size ∧
                ((hit = none ∧ ∀ j p, j < i → xs[j]? ≠ some (k, p)) ∨ ∃ j p, hit = some j ∧ j < i ∧ xs[j]? = some (k, p))) _ ?_ ?_ _ _
              ⟨rfl, 0, none, rfl, by rw [placesWithHash, List.range_eq_range', Nat.sub_zero], Nat.zero_le _, .inl ⟨rfl, fun _ _ h => absurd h (Nat.not_lt_zero _)⟩⟩
            · rintro x left b s' ⟨rfl, i, hit, rfl, hr, hi, hH⟩
              obtain ⟨hix, hxn, hpx, hskip, hrest⟩ := filter_range'_cons _ _ _ _ _ hr.symm
              have hlt : x < es.size := by omega
              have hrest' : left = (List.range' (x + 1) (es.size - (x + 1))).filter (fun i => (es[i]?.map (·.hash)) == some (k.hash w)) := by rw [hrest]; congr 2; omega
              obtain ⟨⟨k2, v2, y2⟩, hx2⟩ : ∃ y, xs[x]? = some y := ⟨xs[x]'(by rw [← D.size]; exact hlt), List.getElem?_eq_getElem _⟩
              have ex : es[x]? = some ⟨k2.hash w, v2, y2⟩ := by rw [D.entry x, hx2]; rfl
              obtain ⟨is2, dp2⟩ := D.keys _ (List.mem_of_getElem? hx2)
              have hHx : (hit = none ∧ ∀ j p, j < x → xs[j]? ≠ some (k, p)) ∨ ∃ j p, hit = some j ∧ j < x ∧ xs[j]? = some (k, p) := by
                rcases hH with ⟨h0, hno⟩ | ⟨j, p, h1, hji, hj⟩
                · refine .inl ⟨h0, fun j p hj e => ?_⟩
                  rcases Nat.lt_or_ge j i with z | z
                  · exact hno j p z e
                  · have := hskip j z hj
                    rw [has j p e] at this; cases this
                · exact .inr ⟨j, p, h1, by omega, hj⟩
              have next : ¬ k2 = k → ((hit = none ∧ ∀ j p, j < x + 1 → xs[j]? ≠ some (k, p)) ∨ ∃ j p, hit = some j ∧ j < x + 1 ∧ xs[j]? = some (k, p)) := fun ne => by
                rcases hHx with ⟨h0, hno⟩ | ⟨j, p, h1, hjx, hj⟩
                · refine .inl ⟨h0, fun j p hj e => ?_⟩
                  rcases Nat.lt_or_ge j x with z | z
                  · exact hno j p z e
                  · have : j = x := by omega
                    subst this
                    rw [hx2] at e
                    exact ne (congrArg (·.1) (Option.some.inj e))
                · exact .inr ⟨j, p, h1, by omega, hj⟩
              rw [ex]
              dsimp only
              by_cases hh : (k2.hash w == k.hash w) = true
              · rw [if_pos hh]
                refine wpAny_bind (wpAny_dictEpoch D.at_ D.data (wpAny_bind (eqAt_key k2 k A s' v2 _ is2 hk (by omega) _ _ _ _ (wpAny_bind (wpAny_dictEpoch D.at_ D.data ?_)))))
                rw [if_neg (show ¬ ((ep != ep) = true) by simp)]
                rw [← NestedKey.decide_eq]
                by_cases hkk : k2 = k
                · rw [decide_eq_true hkk]
                  subst hkk
                  rcases hHx with ⟨rfl, _⟩ | ⟨j, p, _, hjx, hj⟩
                  · simp only [Option.isSome_none, Bool.false_eq_true, if_false, if_true]
                    refine wpAny_bind (wpAny_rule ?_)
                    split
                    · rw [ixK_of D.nd hx2] at h
                      exact wpAny_pure (wpAny_pure h)
                    · exact wpAny_pure ⟨rfl, x + 1, some x, rfl, hrest', hlt, .inr ⟨x, _, rfl, Nat.lt_succ_self x, hx2⟩⟩
                  · have e1 := ixK_of D.nd hj
                    rw [ixK_of D.nd hx2] at e1
                    injection e1 with e1
                    omega
                · rw [decide_eq_false hkk]
                  simp only [Bool.false_eq_true, if_false, Bool.false_and]
                  exact wpAny_bind (wpAny_rule (wpAny_pure ⟨rfl, x + 1, hit, rfl, hrest', hlt, next hkk⟩))
              · rw [if_neg hh]
                refine wpAny_pure ⟨rfl, x + 1, hit, rfl, hrest', hlt, next ?_⟩
                intro e
                rw [e] at hh; simp at hh
            · rintro b s' ⟨rfl, i, hit, rfl, hr, hi, hH⟩
              rcases hH with ⟨rfl, hno⟩ | ⟨j, p, rfl, _, hj⟩
              · have : ixK k xs = none := ixK_none fun j p e => by
                  rcases Nat.lt_or_ge j i with z | z
                  · exact hno j p z e
                  · have hj : j < es.size := by rw [D.size]; exact (List.getElem?_eq_some_iff.mp e).1
                    have := List.filter_eq_nil_iff.mp hr.symm j (List.mem_range'_1.mpr ⟨z, by omega⟩)
                    rw [has j p e] at this
                    exact absurd rfl this
                rw [this] at h
                exact wpAny_pure h
              · rw [ixK_of D.nd hj] at h
                exact wpAny_pure h
  have hk0 := hk
  cases hk with
  | none => exact byval rfl (fun _ _ e => by cases e)
  | bool e => exact byval rfl (fun _ _ e => by cases e)
  | int i t => exact byval rfl (fun _ _ e => by cases e)
  | tup h1 h2 h3 h4 => exact general _ rfl
  | text x t =>
    unfold dictFind
    refine wpAny_holding ?_
    refine wpAny_bind (wpAny_dictEntries D.at_ D.data ?_)
    dsimp only
    by_cases hexact : (es.all fun e => isExactStrKey e.key) = true
    · rw [if_pos hexact]
      unfold foundByValue
      have hf : (es.findIdx? fun e => e.key.isStr x) = ixK (.text x) xs := by
        have e1 : es = (xs.map (ent w)).toArray := by rw [← D.ents]
        unfold ixK
        rw [e1, List.findIdx?_toArray, List.findIdx?_map]
        refine findIdx_same fun y hy => ?_
        have z := (D.keys y hy).1
        show y.2.1.isStr x = decide (y.1 = .text x)
        generalize y.2.1 = v at z
        generalize y.1 = q at z
        cases z with
        | text u t' =>
          show (u == x) = _
          by_cases hux : u = x
          · subst hux; simp
          · have : ¬ NestedKey.text u = NestedKey.text x := fun e => hux (by injection e)
            rw [decide_eq_false this]
            simpa using hux
        | _ => exact (decide_eq_false fun e => by cases e).symm
      rw [hf]
      cases q : ixK (.text x) xs with
      | none => rw [q] at h; exact wpAny_pure h
      | some i =>
        rw [q] at h
        obtain ⟨p, hp⟩ := ixK_some q
        have ex : es[i]? = some ⟨(NestedKey.text x).hash w, p.1, p.2⟩ := by rw [D.entry i, hp]; rfl
        dsimp only
        rw [ex]
        dsimp only
        obtain ⟨is2, dp2⟩ := D.keys _ (List.mem_of_getElem? hp)
        refine wpAny_bind (wpAny_dictEpoch D.at_ D.data (wpAny_bind (eqAt_key (.text x) (.text x) A s p.1 (.str x t) is2 (.text x t) (by show A.units + 0 < cLine; omega) _ _ _ _ (wpAny_bind (wpAny_dictEpoch D.at_ D.data ?_)))))
        rw [if_neg (show ¬ ((ep != ep) = true) by simp), NestedKey.beq_self]
        exact wpAny_bind (wpAny_rule (wpAny_pure h))
    · rw [if_neg hexact]
      have hk := hk0
      by_cases hall : ((Value.str x t :: (placesWithHash es.size (fun i => es[i]?.map (·.hash)) ((NestedKey.text x).hash w)).filterMap (fun i => es[i]?.map (·.key))).all carriedByValue) = true
      · rw [if_pos hall]; exact plain
      · rw [if_neg hall]
        by_cases hone : (((placesWithHash es.size (fun i => es[i]?.map (·.hash)) ((NestedKey.text x).hash w)).filterMap (fun i => es[i]?.map (·.key))) == [Value.str x t]) = true
        · rw [if_pos hone]
          refine wpAny_bind (wpAny_pure ?_)
          rw [if_neg (by simp)]
          generalize hkt : NestedKey.text x = k at *
          have has : ∀ (j : Nat) (p : Value × Value), xs[j]? = some (k, p) → ((es[j]?.map (·.hash)) == some (k.hash w)) = true := by
            intro j p hj
            rw [D.entry j, hj]
            simp [ent]
          refine wpAny_bind ?_
          refine wpAny_forIn_list _ (fun left b s' => s' = s ∧ ∃ i hit, b = (none, hit) ∧ left = (List.range' i (es.size - i)).filter (fun i => (es[i]?.map (·.hash)) == some (k.hash w)) ∧ i ≤ es.size ∧
              ((hit = none ∧ ∀ j p, j < i → xs[j]? ≠ some (k, p)) ∨ ∃ j p, hit = some j ∧ j < i ∧ xs[j]? = some (k, p))) _ ?_ ?_ _ _
            ⟨rfl, 0, none, rfl, by rw [placesWithHash, List.range_eq_range', Nat.sub_zero], Nat.zero_le _, .inl ⟨rfl, fun _ _ h => absurd h (Nat.not_lt_zero _)⟩⟩
          · rintro x left b s' ⟨rfl, i, hit, rfl, hr, hi, hH⟩
            obtain ⟨hix, hxn, hpx, hskip, hrest⟩ := filter_range'_cons _ _ _ _ _ hr.symm
            have hlt : x < es.size := by omega
            have hrest' : left = (List.range' (x + 1) (es.size - (x + 1))).filter (fun i => (es[i]?.map (·.hash)) == some (k.hash w)) := by rw [hrest]; congr 2; omega
            obtain ⟨⟨k2, v2, y2⟩, hx2⟩ : ∃ y, xs[x]? = some y := ⟨xs[x]'(by rw [← D.size]; exact hlt), List.getElem?_eq_getElem _⟩
            have ex : es[x]? = some ⟨k2.hash w, v2, y2⟩ := by rw [D.entry x, hx2]; rfl
            obtain ⟨is2, dp2⟩ := D.keys _ (List.mem_of_getElem? hx2)
            have hHx : (hit = none ∧ ∀ j p, j < x → xs[j]? ≠ some (k, p)) ∨ ∃ j p, hit = some j ∧ j < x ∧ xs[j]? = some (k, p) := by
              rcases hH with ⟨h0, hno⟩ | ⟨j, p, h1, hji, hj⟩
              · refine .inl ⟨h0, fun j p hj e => ?_⟩
                rcases Nat.lt_or_ge j i with z | z
                · exact hno j p z e
                · have := hskip j z hj
                  rw [has j p e] at this; cases this
              · exact .inr ⟨j, p, h1, by omega, hj⟩
            have next : ¬ k2 = k → ((hit = none ∧ ∀ j p, j < x + 1 → xs[j]? ≠ some (k, p)) ∨ ∃ j p, hit = some j ∧ j < x + 1 ∧ xs[j]? = some (k, p)) := fun ne => by
              rcases hHx with ⟨h0, hno⟩ | ⟨j, p, h1, hjx, hj⟩
              · refine .inl ⟨h0, fun j p hj e => ?_⟩
                rcases Nat.lt_or_ge j x with z | z
                · exact hno j p z e
                · have : j = x := by omega
                  subst this
                  rw [hx2] at e
                  exact ne (congrArg (·.1) (Option.some.inj e))
              · exact .inr ⟨j, p, h1, by omega, hj⟩
            rw [ex]
            dsimp only
            by_cases hh : (k2.hash w == k.hash w) = true
            · rw [if_pos hh]
              refine wpAny_bind (wpAny_dictEpoch D.at_ D.data (wpAny_bind (eqAt_key k2 k A s' v2 _ is2 hk (by omega) _ _ _ _ (wpAny_bind (wpAny_dictEpoch D.at_ D.data ?_)))))
              rw [if_neg (show ¬ ((ep != ep) = true) by simp)]
              rw [← NestedKey.decide_eq]
              by_cases hkk : k2 = k
              · rw [decide_eq_true hkk]
                subst hkk
                rcases hHx with ⟨rfl, _⟩ | ⟨j, p, _, hjx, hj⟩
                · simp only [Option.isSome_none, Bool.false_eq_true, if_false, if_true]
                  refine wpAny_bind (wpAny_rule ?_)
                  split
                  · rw [ixK_of D.nd hx2] at h
                    exact wpAny_pure (wpAny_pure h)
                  · exact wpAny_pure ⟨rfl, x + 1, some x, rfl, hrest', hlt, .inr ⟨x, _, rfl, Nat.lt_succ_self x, hx2⟩⟩
                · have e1 := ixK_of D.nd hj
                  rw [ixK_of D.nd hx2] at e1
                  injection e1 with e1
                  omega
              · rw [decide_eq_false hkk]
                simp only [Bool.false_eq_true, if_false, Bool.false_and]
                exact wpAny_bind (wpAny_rule (wpAny_pure ⟨rfl, x + 1, hit, rfl, hrest', hlt, next hkk⟩))
            · rw [if_neg hh]
              refine wpAny_pure ⟨rfl, x + 1, hit, rfl, hrest', hlt, next ?_⟩
              intro e
              rw [e] at hh; simp at hh
          · rintro b s' ⟨rfl, i, hit, rfl, hr, hi, hH⟩
            rcases hH with ⟨rfl, hno⟩ | ⟨j, p, rfl, _, hj⟩
            · have : ixK k xs = none := ixK_none fun j p e => by
                rcases Nat.lt_or_ge j i with z | z
                · exact hno j p z e
                · have hj : j < es.size := by rw [D.size]; exact (List.getElem?_eq_some_iff.mp e).1
                  have := List.filter_eq_nil_iff.mp hr.symm j (List.mem_range'_1.mpr ⟨z, by omega⟩)
                  rw [has j p e] at this
                  exact absurd rfl this
              rw [this] at h
              exact wpAny_pure h
            · rw [ixK_of D.nd hj] at h
              exact wpAny_pure h
        · rw [if_neg hone]
          refine wpAny_bind (quietTells D (.text x t) hd8 hst ?_)
          rw [if_neg (by simp)]
          generalize hkt : NestedKey.text x = k at *
          have has : ∀ (j : Nat) (p : Value × Value), xs[j]? = some (k, p) → ((es[j]?.map (·.hash)) == some (k.hash w)) = true := by
            intro j p hj
            rw [D.entry j, hj]
            simp [ent]
          refine wpAny_bind ?_
          refine wpAny_forIn_list _ (fun left b s' => s' = s ∧ ∃ i hit, b = (none, hit) ∧ left = (List.range' i (es.size - i)).filter (fun i => (es[i]?.map (·.hash)) == some (k.hash w)) ∧ i ≤ es.size ∧
              ((hit = none ∧ ∀ j p, j < i → xs[j]? ≠ some (k, p)) ∨ ∃ j p, hit = some j ∧ j < i ∧ xs[j]? = some (k, p))) _ ?_ ?_ _ _
            ⟨rfl, 0, none, rfl, by rw [placesWithHash, List.range_eq_range', Nat.sub_zero], Nat.zero_le _, .inl ⟨rfl, fun _ _ h => absurd h (Nat.not_lt_zero _)⟩⟩
          · rintro x left b s' ⟨rfl, i, hit, rfl, hr, hi, hH⟩
            obtain ⟨hix, hxn, hpx, hskip, hrest⟩ := filter_range'_cons _ _ _ _ _ hr.symm
            have hlt : x < es.size := by omega
            have hrest' : left = (List.range' (x + 1) (es.size - (x + 1))).filter (fun i => (es[i]?.map (·.hash)) == some (k.hash w)) := by rw [hrest]; congr 2; omega
            obtain ⟨⟨k2, v2, y2⟩, hx2⟩ : ∃ y, xs[x]? = some y := ⟨xs[x]'(by rw [← D.size]; exact hlt), List.getElem?_eq_getElem _⟩
            have ex : es[x]? = some ⟨k2.hash w, v2, y2⟩ := by rw [D.entry x, hx2]; rfl
            obtain ⟨is2, dp2⟩ := D.keys _ (List.mem_of_getElem? hx2)
            have hHx : (hit = none ∧ ∀ j p, j < x → xs[j]? ≠ some (k, p)) ∨ ∃ j p, hit = some j ∧ j < x ∧ xs[j]? = some (k, p) := by
              rcases hH with ⟨h0, hno⟩ | ⟨j, p, h1, hji, hj⟩
              · refine .inl ⟨h0, fun j p hj e => ?_⟩
                rcases Nat.lt_or_ge j i with z | z
                · exact hno j p z e
                · have := hskip j z hj
                  rw [has j p e] at this; cases this
              · exact .inr ⟨j, p, h1, by omega, hj⟩
            have next : ¬ k2 = k → ((hit = none ∧ ∀ j p, j < x + 1 → xs[j]? ≠ some (k, p)) ∨ ∃ j p, hit = some j ∧ j < x + 1 ∧ xs[j]? = some (k, p)) := fun ne => by
              rcases hHx with ⟨h0, hno⟩ | ⟨j, p, h1, hjx, hj⟩
              · refine .inl ⟨h0, fun j p hj e => ?_⟩
                rcases Nat.lt_or_ge j x with z | z
                · exact hno j p z e
                · have : j = x := by omega
                  subst this
                  rw [hx2] at e
                  exact ne (congrArg (·.1) (Option.some.inj e))
              · exact .inr ⟨j, p, h1, by omega, hj⟩
            rw [ex]
            dsimp only
            by_cases hh : (k2.hash w == k.hash w) = true
            · rw [if_pos hh]
              refine wpAny_bind (wpAny_dictEpoch D.at_ D.data (wpAny_bind (eqAt_key k2 k A s' v2 _ is2 hk (by omega) _ _ _ _ (wpAny_bind (wpAny_dictEpoch D.at_ D.data ?_)))))
              rw [if_neg (show ¬ ((ep != ep) = true) by simp)]
              rw [← NestedKey.decide_eq]
              by_cases hkk : k2 = k
              · rw [decide_eq_true hkk]
                subst hkk
                rcases hHx with ⟨rfl, _⟩ | ⟨j, p, _, hjx, hj⟩
                · simp only [Option.isSome_none, Bool.false_eq_true, if_false, if_true]
                  refine wpAny_bind (wpAny_rule ?_)
                  split
                  · rw [ixK_of D.nd hx2] at h
                    exact wpAny_pure (wpAny_pure h)
                  · exact wpAny_pure ⟨rfl, x + 1, some x, rfl, hrest', hlt, .inr ⟨x, _, rfl, Nat.lt_succ_self x, hx2⟩⟩
                · have e1 := ixK_of D.nd hj
                  rw [ixK_of D.nd hx2] at e1
                  injection e1 with e1
                  omega
              · rw [decide_eq_false hkk]
                simp only [Bool.false_eq_true, if_false, Bool.false_and]
                exact wpAny_bind (wpAny_rule (wpAny_pure ⟨rfl, x + 1, hit, rfl, hrest', hlt, next hkk⟩))
            · rw [if_neg hh]
              refine wpAny_pure ⟨rfl, x + 1, hit, rfl, hrest', hlt, next ?_⟩
              intro e
              rw [e] at hh; simp at hh
          · rintro b s' ⟨rfl, i, hit, rfl, hr, hi, hH⟩
            rcases hH with ⟨rfl, hno⟩ | ⟨j, p, rfl, _, hj⟩
            · have : ixK k xs = none := ixK_none fun j p e => by
                rcases Nat.lt_or_ge j i with z | z
                · exact hno j p z e
                · have hj : j < es.size := by rw [D.size]; exact (List.getElem?_eq_some_iff.mp e).1
                  have := List.filter_eq_nil_iff.mp hr.symm j (List.mem_range'_1.mpr ⟨z, by omega⟩)
                  rw [has j p e] at this
                  exact absurd rfl this
              rw [this] at h
              exact wpAny_pure h
            · rw [ixK_of D.nd hj] at h
              exact wpAny_pure h

/-! ### reading -/
def valK (k : NestedKey) (xs : List XE) : Option Value := (xs.find? fun x => decide (x.1 = k)).map (·.2.2)
theorem find_ix {α β : Type} (p : α → Bool) (f : α → β) : ∀ l : List α, (l.find? p).map f = (l.findIdx? p).bind fun j => l[j]?.map f
  | [] => rfl
  | a :: l => by
    rw [List.find?_cons, List.findIdx?_cons]
    cases h : p a with
    | true => rfl
    | false =>
      have ih := find_ix p f l
      cases q : l.findIdx? p with
      | none => rw [q] at ih; simpa using ih
      | some j => rw [q] at ih; simpa using ih
theorem valK_ix (_ : (xs.map (·.1)).Nodup) : valK k xs = (ixK k xs).bind fun j => xs[j]?.map (·.2.2) := find_ix _ _ xs
theorem modify_map {α β : Type} (f : α → β) (g : β → β) (g' : α → α) (h : ∀ x, g (f x) = f (g' x)) : ∀ (l : List α) (j : Nat), (l.map f).modify j g = (l.modify j g').map f
  | [], j => by cases j <;> rfl
  | a :: l, 0 => by simp [h]
  | a :: l, j + 1 => by simp [modify_map f g g' h l j]
theorem modify_mem {α : Type} {g : α → α} : ∀ {l : List α} {j : Nat} {x : α}, x ∈ l.modify j g → ∃ y ∈ l, x = y ∨ x = g y
  | [], j, x, h => by cases j <;> simp at h
  | a :: l, 0, x, h => by
    rw [List.modify_zero_cons] at h
    rcases List.mem_cons.mp h with e | h
    · exact ⟨a, List.mem_cons_self, .inr e⟩
    · exact ⟨x, List.mem_cons_of_mem _ h, .inl rfl⟩
  | a :: l, j + 1, x, h => by
    rw [List.modify_succ_cons] at h
    rcases List.mem_cons.mp h with e | h
    · exact ⟨a, List.mem_cons_self, .inl e⟩
    · obtain ⟨y, hy, e⟩ := modify_mem h
      exact ⟨y, List.mem_cons_of_mem _ hy, e⟩
theorem modify_keep {α β : Type} {g : α → α} (f : α → β) (h : ∀ x, f (g x) = f x) : ∀ (l : List α) (j : Nat), (l.modify j g).map f = l.map f
  | [], j => by cases j <;> rfl
  | a :: l, 0 => by simp [h]
  | a :: l, j + 1 => by simp [modify_keep f h l j]
theorem get_ok (hu : A.units + 8 < cLine) (D : DAt w s.heap d o es ep xs) (hk : NestedIs s.heap k key) (hd8 : k.depth ≤ 8) {Q : Option Value → Shared → Prop} (h : Q (valK k xs) { s with toks := s.toks + k.draws }) :
    wpAny (model prog w) A (dictGet d key) Q E s := by
  unfold dictGet
  refine wpAny_holding ?_
  refine wpAny_bind (pyHash_key k key A s _ hk (by omega) (wpAny_bind (find_ok (s := { s with toks := s.toks + k.draws }) hu D hk hd8 ?_)))
  rw [valK_ix D.nd] at h
  cases q : ixK k xs with
  | none => rw [q] at h; exact wpAny_pure h
  | some j =>
    rw [q] at h
    refine wpAny_bind (wpAny_dictEntries (s := { s with toks := s.toks + k.draws }) D.at_ D.data ?_)
    rw [D.entry j]
    cases z : xs[j]? with
    | none => obtain ⟨p, hp⟩ := ixK_some q; rw [z] at hp; cases hp
    | some y =>
      have e : (some j).bind (fun j => xs[j]?.map (·.2.2)) = some y.2.2 := by rw [Option.bind_some, z]; rfl
      rw [e] at h
      exact wpAny_pure h
theorem DAt.typeIs (D : DAt w s.heap d o es ep xs) : s.TypeIs (.ref d) "dict" := ⟨o, D.at_, D.exact.1⟩
theorem in_ok (hu : A.units + 9 < cLine) (hd : (d == sysModules) = false) (D : DAt w s.heap d o es ep xs) (hk : NestedIs s.heap k key) (hd8 : k.depth ≤ 8) {Q : Value → Shared → Prop} (h : Q (.bool (valK k xs).isSome) { s with toks := s.toks + k.draws }) :
    wpAny (model prog w) A (compareOp .In key (.ref d)) Q E s := by
  show wpAny _ _ (do return .bool (← contains (.ref d) key)) Q E s
  refine wpAny_bind ?_
  unfold contains
  refine wpAny_holding ?_
  refine wpAny_bind (wpAny_specialOf D.typeIs slot_dict_contains.lookup ?_)
  rw [if_neg (show ¬ (some (Value.builtin "dict.__contains__") == some Value.none) = true by rw [beq_builtin_none]; exact Bool.false_ne_true)]
  refine wpAny_bind (wpAny_callSpecialUnlessNone?_slot (name := Str.ofString "__contains__") D.typeIs slot_dict_contains
    (wpAny_call_entry slot_dict_contains D.typeIs entry_dict_contains ?_ (args_dict_contains _ _)))
  show wpAny _ _ (dictGet d key >>= _) _ _ s
  refine wpAny_bind (get_ok (by show A.units + 1 + 8 < cLine; omega) D hk hd8 ?_)
  cases hf : valK k xs with
  | some p =>
    rw [hf] at h
    show wpAny _ _ (ret (.bool true)) _ _ _
    exact wpAny_pure ⟨_, rfl, wpAny_truthy_bool (wpAny_pure h)⟩
  | none =>
    rw [hf] at h
    show wpAny _ _ (Builtin.Dict.pendingKey? d key >>= _) _ _ _
    exact wpAny_bind (wpAny_pendingKey_other hd (wpAny_pure ⟨_, rfl, wpAny_truthy_bool (wpAny_pure h)⟩))
theorem getItem_ok {v : Value} (hu : A.units + 9 < cLine) (D : DAt w s.heap d o es ep xs) (hk : NestedIs s.heap k key) (hd8 : k.depth ≤ 8) (hv : valK k xs = some v) {Q : Value → Shared → Prop} (h : Q v { s with toks := s.toks + k.draws }) :
    wpAny (model prog w) A (getItem (.ref d) key) Q E s := by
  unfold getItem
  refine wpAny_holding ?_
  refine wpAny_bind (wpAny_sequenceKey D.typeIs (by decide) ?_)
  refine wpAny_bind (wpAny_callSpecial?_slot (name := Str.ofString "__getitem__") D.typeIs slot_dict_getitem
    (wpAny_call_entry slot_dict_getitem D.typeIs entry_dict_getitem ?_ (args_dict_getitem _ _)))
  show wpAny _ _ (dictGet d key >>= _) _ _ s
  refine wpAny_bind (get_ok (by show A.units + 1 + 8 < cLine; omega) D hk hd8 ?_)
  rw [hv]
  exact wpAny_pure ⟨v, rfl, wpAny_pure h⟩

/-! ### storing -/
def setK (k : NestedKey) (key v : Value) (xs : List XE) : List XE := match ixK k xs with
  | some j => xs.modify j fun x => (x.1, x.2.1, v)
  | none => xs ++ [(k, key, v)]
/-- a dict's store leaves the tuples -/
theorem NestedIs.store {h h' : Heap} {k : NestedKey} {v : Value} (x : NestedIs h k v) (ho : h.get? d = some o) (hd : o.data = .dict es ep) (hs : Heap.SameBut d h h') : NestedIs h' k v :=
  NestedIs.at (fun b ob vs n hb hc => by
    refine (hs.2 b fun e => ?_).trans hb
    subst e
    rw [ho] at hb
    cases hb
    rw [hd] at hc
    cases hc) k v x
theorem set_ok {v : Value} (hu : A.units + 8 < cLine) (D : DAt w s.heap d o es ep xs) (hk : NestedIs s.heap k key) (hd8 : k.depth ≤ 8) (hsz : xs.length ≤ sizeLine) {Q : Unit → Shared → Prop}
    (h : ∀ h' o' es', DAt w h' d o' es' (if (ixK k xs).isSome = true then ep else ep + 1) (setK k key v xs) → Heap.SameBut d s.heap h' → Q () { s with heap := h', toks := s.toks + k.draws }) :
    wpAny (model prog w) A (dictSet d key v) Q E s := by
  unfold dictSet
  refine wpAny_holding ?_
  refine wpAny_bind (pyHash_key k key A s _ hk (by omega) ?_)
  unfold dictSetHashed
  refine wpAny_holding ?_
  refine wpAny_bind (find_ok (s := { s with toks := s.toks + k.draws }) hu D hk hd8 ?_)
  cases q : ixK k xs with
  | none =>
    rw [q] at h
    have hno : k ∉ xs.map (·.1) := fun hm => by
      obtain ⟨x, hx, rfl⟩ := List.mem_map.mp hm
      obtain ⟨j, hj⟩ := List.mem_iff_getElem?.mp hx
      rw [ixK_of D.nd (p := x.2) hj] at q; cases q
    refine wpAny_bind (wpAny_rule (wpAny_updateDictKeys (hz := by have e := D.size; omega) (s := { s with toks := s.toks + k.draws }) D.at_ D.data
      (h _ _ _ ⟨Heap.get?_update_self _ D.at_ (Obj.isFreed_of_dict (Obj.data_mapDictKeys D.data _)), D.exact.mapDictKeys _, Obj.data_mapDictKeys D.data _, ?_, ?_, ?_⟩ (Heap.SameBut.update ..))))
    · unfold setK; rw [q]
      simp [D.ents, ent]
    · unfold setK; rw [q]
      intro x hx
      rcases List.mem_append.mp hx with hx | hx
      · exact ⟨NestedIs.store (D.keys x hx).1 D.at_ D.data (Heap.SameBut.update ..), (D.keys x hx).2⟩
      · simp only [List.mem_singleton] at hx
        subst hx
        exact ⟨NestedIs.store hk D.at_ D.data (Heap.SameBut.update ..), hd8⟩
    · unfold setK; rw [q]
      rw [List.map_append, List.nodup_append]
      refine ⟨D.nd, by simp, ?_⟩
      intro x hx y hy e
      simp only [List.map_cons, List.map_nil, List.mem_singleton] at hy
      subst hy
      exact hno (e ▸ hx)
  | some j =>
    rw [q] at h
    refine wpAny_bind (wpAny_rule (wpAny_bind (wpAny_updateDict (s := { s with toks := s.toks + k.draws }) D.at_ D.data (wpAny_point
      (h _ _ _ ⟨Heap.get?_update_self _ D.at_ (Obj.isFreed_of_dict (Obj.data_mapDict D.data _)), D.exact.mapDict _, Obj.data_mapDict D.data _, ?_, ?_, ?_⟩ (Heap.SameBut.update ..))))))
    · unfold setK; rw [q]
      rw [Array.toList_modify, D.ents]
      exact modify_map (ent w) _ _ (fun _ => rfl) xs j
    · unfold setK; rw [q]
      intro x hx
      obtain ⟨y, hy, e⟩ := modify_mem hx
      have z := D.keys y hy
      rcases e with e | e
      · rw [e]; exact ⟨NestedIs.store z.1 D.at_ D.data (Heap.SameBut.update ..), z.2⟩
      · rw [e]; exact ⟨NestedIs.store z.1 D.at_ D.data (Heap.SameBut.update ..), z.2⟩
    · unfold setK; rw [q]
      have e := modify_keep (g := fun x : XE => (x.1, x.2.1, v)) (fun x : XE => x.1) (fun _ => rfl) xs j
      show ((xs.modify j fun x => (x.1, x.2.1, v)).map (fun x : XE => x.1)).Nodup
      rw [e]; exact D.nd
theorem setItem_ok {v : Value} (hu : A.units + 9 < cLine) (D : DAt w s.heap d o es ep xs) (hk : NestedIs s.heap k key) (hd8 : k.depth ≤ 8) (hsz : xs.length ≤ sizeLine) {Q : Unit → Shared → Prop}
    (h : ∀ h' o' es', DAt w h' d o' es' (if (ixK k xs).isSome = true then ep else ep + 1) (setK k key v xs) → Heap.SameBut d s.heap h' → Q () { s with heap := h', toks := s.toks + k.draws }) :
    wpAny (model prog w) A (setItem (.ref d) key v) Q E s := by
  unfold setItem
  refine wpAny_holding ?_
  refine wpAny_bind (wpAny_sequenceKey D.typeIs (by decide) ?_)
  refine wpAny_bind (wpAny_callSpecial?_slot (name := Str.ofString "__setitem__") D.typeIs slot_dict_setitem
    (wpAny_call_entry slot_dict_setitem D.typeIs entry_dict_setitem ?_ (args_dict_setitem _ _ _)))
  show wpAny _ _ (Builtin.Dict.notOrdered "__setitem__" ⟨[.ref d, key, v], []⟩ >>= _) _ _ s
  refine wpAny_bind (wpAny_notOrdered_dict D.typeIs ?_)
  show wpAny _ _ (dictSet d key v >>= _) _ _ s
  exact wpAny_bind (set_ok (by show A.units + 1 + 8 < cLine; omega) D hk hd8 hsz fun h' o' es' D' sb => wpAny_pure ⟨.none, rfl, wpAny_pure (h h' o' es' D' sb)⟩)
theorem notIn_ok (hu : A.units + 9 < cLine) (hd : (d == sysModules) = false) (D : DAt w s.heap d o es ep xs) (hk : NestedIs s.heap k key) (hd8 : k.depth ≤ 8) {Q : Value → Shared → Prop} (h : Q (.bool (!(valK k xs).isSome)) { s with toks := s.toks + k.draws }) :
    wpAny (model prog w) A (compareOp .NotIn key (.ref d)) Q E s := by
  show wpAny _ _ (do return .bool (!(← contains (.ref d) key))) Q E s
  refine wpAny_bind ?_
  unfold contains
  refine wpAny_holding ?_
  refine wpAny_bind (wpAny_specialOf D.typeIs slot_dict_contains.lookup ?_)
  rw [if_neg (show ¬ (some (Value.builtin "dict.__contains__") == some Value.none) = true by rw [beq_builtin_none]; exact Bool.false_ne_true)]
  refine wpAny_bind (wpAny_callSpecialUnlessNone?_slot (name := Str.ofString "__contains__") D.typeIs slot_dict_contains
    (wpAny_call_entry slot_dict_contains D.typeIs entry_dict_contains ?_ (args_dict_contains _ _)))
  show wpAny _ _ (dictGet d key >>= _) _ _ s
  refine wpAny_bind (get_ok (by show A.units + 1 + 8 < cLine; omega) D hk hd8 ?_)
  cases hf : valK k xs with
  | some p =>
    rw [hf] at h
    show wpAny _ _ (ret (.bool true)) _ _ _
    exact wpAny_pure ⟨_, rfl, wpAny_truthy_bool (wpAny_pure h)⟩
  | none =>
    rw [hf] at h
    show wpAny _ _ (Builtin.Dict.pendingKey? d key >>= _) _ _ _
    exact wpAny_bind (wpAny_pendingKey_other hd (wpAny_pure ⟨_, rfl, wpAny_truthy_bool (wpAny_pure h)⟩))
/-- d.get(key, x) -/
theorem get2_ok (hu : A.units + 9 < cLine) (hd : (d == sysModules) = false) (D : DAt w s.heap d o es ep xs) (hk : NestedIs s.heap k key) (hd8 : k.depth ≤ 8) {dflt : Value} {Q : Value → Shared → Prop} (h : Q ((valK k xs).getD dflt) { s with toks := s.toks + k.draws }) :
    wpAny (model prog w) A (call (.builtin "dict.get") [.ref d, key, dflt]) Q E s := by
  have M : MeetsIn prog w (Builtin.«dict.get» ⟨[.ref d, key, dflt], []⟩) (fun A R s => A.in1.units + 8 < cLine ∧ ∃ o es ep xs, DAt w s.heap d o es ep xs ∧ NestedIs s.heap k key ∧ R (.ok (.ret ((valK k xs).getD dflt))) { s with toks := s.toks + k.draws }) :=
    .of_wp fun A R s ⟨hu, o, es, ep, xs, D, hk, h⟩ => by
      show wpAny _ _ (dictGet d key >>= _) _ _ s
      refine wpAny_bind (get_ok hu D hk hd8 ?_)
      cases hf : valK k xs with
      | some v => rw [hf] at h; exact wpAny_pure ⟨v, rfl, h⟩
      | none =>
        rw [hf] at h
        show wpAny _ _ (Builtin.Dict.missed d key >>= _) _ _ _
        exact wpAny_bind (wpAny_missed_other hd (wpAny_pure ⟨dflt, rfl, h⟩))
  exact call_meetsIn F.slot_dict_get D.typeIs F.entry_dict_get (F.args_dict_get_3 _ _ _) M ⟨by show A.units + 1 + 8 < cLine; omega, o, es, ep, xs, D, hk, h⟩
theorem setDefault_ok (hu : A.units + 8 < cLine) (D : DAt w s.heap d o es ep xs) (hk : NestedIs s.heap k key) (hd8 : k.depth ≤ 8) (hsz : xs.length ≤ sizeLine) {dflt : Value} {Q : Value → Shared → Prop}
    (h1 : ∀ v, valK k xs = some v → Q v { s with toks := s.toks + k.draws })
    (h2 : valK k xs = none → ∀ h' o' es', DAt w h' d o' es' (ep + 1) (xs ++ [(k, key, dflt)]) → Heap.SameBut d s.heap h' → Q dflt { s with heap := h', toks := s.toks + k.draws }) :
    wpAny (model prog w) A (dictSetDefault d key dflt) Q E s := by
  unfold dictSetDefault
  refine wpAny_holding ?_
  refine wpAny_bind (pyHash_key k key A s _ hk (by omega) ?_)
  refine wpAny_bind (find_ok (s := { s with toks := s.toks + k.draws }) hu D hk hd8 ?_)
  rw [valK_ix D.nd] at h1 h2
  cases q : ixK k xs with
  | none =>
    rw [q] at h2
    have hno : k ∉ xs.map (·.1) := fun hm => by
      obtain ⟨x, hx, rfl⟩ := List.mem_map.mp hm
      obtain ⟨j, hj⟩ := List.mem_iff_getElem?.mp hx
      rw [ixK_of D.nd (p := x.2) hj] at q; cases q
    refine wpAny_bind (wpAny_rule (wpAny_bind (wpAny_updateDictKeys (hz := by have e := D.size; omega) (s := { s with toks := s.toks + k.draws }) D.at_ D.data (wpAny_pure
      (h2 rfl _ _ _ ⟨Heap.get?_update_self _ D.at_ (Obj.isFreed_of_dict (Obj.data_mapDictKeys D.data _)), D.exact.mapDictKeys _, Obj.data_mapDictKeys D.data _, ?_, ?_, ?_⟩ (Heap.SameBut.update ..))))))
    · simp [D.ents, ent]
    · intro x hx
      rcases List.mem_append.mp hx with hx | hx
      · exact ⟨NestedIs.store (D.keys x hx).1 D.at_ D.data (Heap.SameBut.update ..), (D.keys x hx).2⟩
      · simp only [List.mem_singleton] at hx
        subst hx
        exact ⟨NestedIs.store hk D.at_ D.data (Heap.SameBut.update ..), hd8⟩
    · rw [List.map_append, List.nodup_append]
      refine ⟨D.nd, by simp, ?_⟩
      intro x hx y hy e
      simp only [List.map_cons, List.map_nil, List.mem_singleton] at hy
      subst hy
      exact hno (e ▸ hx)
  | some j =>
    rw [q] at h1
    refine wpAny_bind (wpAny_dictEntries (s := { s with toks := s.toks + k.draws }) D.at_ D.data ?_)
    rw [D.entry j]
    cases z : xs[j]? with
    | none => obtain ⟨p, hp⟩ := ixK_some q; rw [z] at hp; cases hp
    | some y =>
      refine wpAny_bind (wpAny_rule (wpAny_pure (h1 y.2.2 ?_)))
      rw [Option.bind_some, z]; rfl
/-- d.setdefault(key, x) -/
theorem setdefault_ok (hu : A.units + 9 < cLine) (hd : (d == sysModules) = false) (D : DAt w s.heap d o es ep xs) (hk : NestedIs s.heap k key) (hd8 : k.depth ≤ 8) (hsz : xs.length ≤ sizeLine) {dflt : Value} {Q : Value → Shared → Prop}
    (h1 : ∀ v, valK k xs = some v → Q v { s with toks := s.toks + k.draws })
    (h2 : valK k xs = none → ∀ h' o' es', DAt w h' d o' es' (ep + 1) (xs ++ [(k, key, dflt)]) → Heap.SameBut d s.heap h' → Q dflt { s with heap := h', toks := s.toks + k.draws }) :
    wpAny (model prog w) A (call (.builtin "dict.setdefault") [.ref d, key, dflt]) Q E s := by
  have M : MeetsIn prog w (Builtin.«dict.setdefault» ⟨[.ref d, key, dflt], []⟩) (fun A R s => A.in1.units + 8 < cLine ∧ ∃ o es ep xs, DAt w s.heap d o es ep xs ∧ NestedIs s.heap k key ∧ xs.length ≤ sizeLine ∧
      (∀ v, valK k xs = some v → R (.ok (.ret v)) { s with toks := s.toks + k.draws }) ∧
      (valK k xs = none → ∀ h' o' es', DAt w h' d o' es' (ep + 1) (xs ++ [(k, key, dflt)]) → Heap.SameBut d s.heap h' → R (.ok (.ret dflt)) { s with heap := h', toks := s.toks + k.draws })) :=
    .of_wp fun A R s ⟨hu, o, es, ep, xs, D, hk, hz, h1, h2⟩ => by
      unfold Builtin.«dict.setdefault»
      refine wpAny_bind ?_
      unfold Builtin.Dict.keyAndDefault
      refine wpAny_bind (wpAny_notOrdered_dict D.typeIs ?_)
      show wpAny _ _ (pure (d, key, some dflt)) _ _ s
      refine wpAny_pure ?_
      show wpAny _ _ (if (d == sysModules) = true then _ else (dictSetDefault d key dflt >>= _)) _ _ s
      rw [if_neg (by rw [hd]; exact Bool.false_ne_true)]
      exact wpAny_bind (setDefault_ok hu D hk hd8 hz (fun v e => wpAny_pure ⟨v, rfl, h1 v e⟩) fun e h' o' es' D' sb => wpAny_pure ⟨dflt, rfl, h2 e h' o' es' D' sb⟩)
  exact call_meetsIn F.slot_dict_setdefault D.typeIs F.entry_dict_setdefault (F.args_dict_setdefault_3 _ _ _) M ⟨by show A.units + 1 + 8 < cLine; omega, o, es, ep, xs, D, hk, hsz, h1, h2⟩

/-! ### a new dict, its length -/
theorem DAt.new (h : Heap) : DAt w (h.push { cls := .type "dict", data := .dict #[] }) h.objs.size { cls := .type "dict", data := .dict #[] } #[] 0 [] :=
  ⟨Heap.get?_push_size _ rfl, ⟨rfl, rfl, rfl⟩, rfl, rfl, (fun _ hx => by cases hx), List.nodup_nil⟩
theorem DAt.raw (D : DAt w s.heap d o es ep xs) : s.heap.DictRaw d es ep := ⟨o, D.at_, D.exact, D.data⟩
end
end Z
set_option Elab.async false
set_option linter.all false
set_option maxRecDepth 100000
set_option maxHeartbeats 4000000
namespace Z
open PySem L2
section
variable {X : Cx} {pins : List (Addr × Obj)} {s : Shared} {σ : St} {H : Hp} {R : List Addr} {h : Hh}
mutual
/-- a datum that is a key is one to the model -/
theorem key_is (I : L2.Inv X pins σ H s) : ∀ (d : D) (k : NestedKey) (v : V) (u : Value), d.key = some k → VR X.K H R d v → RelV v u → NestedIs s.heap k u
  | .non, k, v, u, e, r, q => by
    simp only [D.key] at e; cases e; subst r; cases q; exact .none
  | .bl b, k, v, u, e, r, q => by
    simp only [D.key] at e; cases e; subst r; cases q; exact .bool rfl
  | .int i, k, v, u, e, r, q => by
    simp only [D.key] at e; cases e; subst r; obtain ⟨t, rfl⟩ := q; exact .int _ _
  | .str x, k, v, u, e, r, q => by
    simp only [D.key] at e; cases e; subst r; obtain ⟨t, rfl⟩ := q; exact .text _ _
  | .tup xs, k, v, u, e, r, q => by
    simp only [D.key] at e
    cases z : D.keys xs with
    | none => rw [z] at e; cases e
    | some ks =>
      rw [z] at e; cases e
      obtain ⟨a, vs, rfl, ht, hx⟩ := r
      cases q
      obtain ⟨its, rv, ⟨o, h1, h2, n, h3⟩, _⟩ := I.tuple ht
      exact .tup h1 h2 h3 (keys_is I xs ks vs its z hx rv)
  | .rol xs, k, v, u, e, r, q => by simp only [D.key] at e; cases e
  | .ref n, k, v, u, e, r, q => by simp only [D.key] at e; cases e
theorem keys_is (I : L2.Inv X pins σ H s) : ∀ (ds : List D) (ks : List NestedKey) (vs : List V) (us : List Value), D.keys ds = some ks → VRs X.K H R ds vs → Vals vs us → NestedAll s.heap ks us
  | [], ks, vs, us, e, r, q => by
    simp only [D.keys] at e; cases e
    rw [show vs = [] from r] at q
    cases q; exact .nil
  | x :: xs, ks, vs, us, e, r, q => by
    simp only [D.keys] at e
    split at e
    · rename_i k ks' e1 e2
      cases e
      obtain ⟨v, t, rfl, r1, r2⟩ := r
      cases q with
      | cons q1 q2 => exact .cons (key_is I x k v _ e1 r1 q1) (keys_is I xs ks' t _ e2 r2 q2)
    · cases e
end
end
theorem keyOf_ok {x : D} {k : NestedKey} (e : keyOf x = some k) : x.key = some k ∧ k.depth ≤ 8 := by
  unfold keyOf at e
  split at e
  · split at e
    · cases e; exact ⟨by assumption, by assumption⟩
    · cases e
  · cases e
/-- an entry of the data and the model's -/
def KX (K : PySem.W.Frag) (H : Hp) (R : List Addr) (p : D × D) (x : XE) : Prop := p.1.key = some x.1 ∧ x.1.depth ≤ 8 ∧ (∃ v, VR K H R p.1 v ∧ RelV v x.2.1) ∧ ∃ v, VR K H R p.2 v ∧ RelV v x.2.2
section
variable {w : World} {K : PySem.W.Frag} {H : Hp} {R : List Addr} {h : Hh}
theorem kx_of : ∀ {kvs : List (D × D)} {es : List DE} {ds : List DictEntry},
    Paired (fun (p : D × D) (e : DE) => VR K H R p.1 e.1 ∧ VR K H R p.2 e.2.2 ∧ ∃ k, p.1.key = some k ∧ k.depth ≤ 8 ∧ e.2.1 = k.hash w) kvs es → Paired (fun (p : DE) (e : DictEntry) => RelV p.1 e.key ∧ e.hash = p.2.1 ∧ RelV p.2.2 e.val) es ds →
    ∃ xs, ds = xs.map (ent w) ∧ Paired (KX K H R) kvs xs
  | _, _, _, .nil, .nil => ⟨[], rfl, .nil⟩
  | _, _, _, .cons (a := p) a b, .cons (b := e) c d => by
    obtain ⟨xs, rfl, q⟩ := kx_of b d
    obtain ⟨a1, a2, k, a3, a4, a5⟩ := a
    obtain ⟨c1, c2, c3⟩ := c
    refine ⟨(k, e.key, e.val) :: xs, ?_, .cons ⟨a3, a4, ⟨_, a1, c1⟩, _, a2, c3⟩ q⟩
    rw [List.map_cons]
    congr 1
    obtain ⟨eh, ek, ev⟩ := e
    simp only [ent] at *
    rw [c2, a5]
theorem kx_to : ∀ {kvs : List (D × D)} {xs : List XE}, Paired (KX K H R) kvs xs →
    ∃ es, Paired (fun (p : D × D) (e : DE) => VR K H R p.1 e.1 ∧ VR K H R p.2 e.2.2 ∧ ∃ k, p.1.key = some k ∧ k.depth ≤ 8 ∧ e.2.1 = k.hash w) kvs es ∧ Paired (fun (p : DE) (e : DictEntry) => RelV p.1 e.key ∧ e.hash = p.2.1 ∧ RelV p.2.2 e.val) es (xs.map (ent w))
  | _, _, .nil => ⟨[], .nil, .nil⟩
  | _, _, .cons (b := x) a b => by
    obtain ⟨es, q1, q2⟩ := kx_to b
    obtain ⟨a1, a2, ⟨v1, b1, c1⟩, v2, b2, c2⟩ := a
    exact ⟨(v1, x.1.hash w, v2) :: es, .cons ⟨b1, b2, x.1, a1, a2, rfl⟩ q1, .cons ⟨c1, rfl, c2⟩ q2⟩
theorem kx_keys : ∀ {kvs : List (D × D)} {xs : List XE}, Paired (KX K H R) kvs xs → kvs.map (·.1.key) = xs.map fun x => some x.1
  | _, _, .nil => rfl
  | _, _, .cons a b => by rw [List.map_cons, List.map_cons, a.1, kx_keys b]
theorem nodup_some {α : Type} : ∀ {l : List α}, (l.map Option.some).Nodup ↔ l.Nodup
  | [] => by simp
  | a :: l => by rw [List.map_cons, List.nodup_cons, List.nodup_cons, nodup_some]; simp
theorem kx_nd {kvs : List (D × D)} {xs : List XE} (p : Paired (KX K H R) kvs xs) : (kvs.map (·.1.key)).Nodup ↔ (xs.map (·.1)).Nodup := by
  rw [kx_keys p, show (xs.map fun x => some x.1) = (xs.map (·.1)).map Option.some by rw [List.map_map]; rfl]
  exact nodup_some
theorem kx_find : ∀ {kvs : List (D × D)} {xs : List XE} {k : NestedKey}, Paired (KX K H R) kvs xs → (findK k kvs = none ∧ valK k xs = none) ∨ ∃ d u v, findK k kvs = some d ∧ valK k xs = some u ∧ VR K H R d v ∧ RelV v u
  | _, _, k, .nil => .inl ⟨rfl, rfl⟩
  | _, _, k, .cons (a := p) (b := x) a b => by
    obtain ⟨a1, a2, ⟨v1, b1, c1⟩, v2, b2, c2⟩ := a
    by_cases e : x.1 = k
    · refine .inr ⟨p.2, x.2.2, v2, ?_, ?_, b2, c2⟩
      · unfold findK; rw [if_pos (by rw [a1, e])]
      · unfold valK; rw [List.find?_cons]; simp [e]
    · have e' : ¬ p.1.key = some k := by rw [a1]; intro z; exact e (Option.some.inj z)
      have ih := kx_find (k := k) b
      have h1 : ∀ l, findK k (p :: l) = findK k l := fun l => by rw [findK]; exact if_neg e'
      rw [h1]
      have h2 : ∀ l, valK k (x :: l) = valK k l := fun l => by unfold valK; rw [List.find?_cons]; simp [e]
      rw [h2]
      exact ih
end
theorem paired_app {α β : Type} {F : α → β → Prop} : ∀ {l l' : List α} {m m' : List β}, Paired F l m → Paired F l' m' → Paired F (l ++ l') (m ++ m')
  | _, _, _, _, .nil, q => q
  | _, _, _, _, .cons a b, q => .cons a (paired_app b q)
section
variable {X : Cx} {pins : List (Addr × Obj)} {s : Shared} {σ : St} {H : Hp} {R : List Addr} {h : Hh}
/-- what stands at a dict's number -/
theorem dct_at (I : L2.Inv X pins σ H s) (hr : HRel X.w X.K R h H) {n ep : Nat} {kvs : List (D × D)} {a : Addr} (e : h[n]? = some (.dct ep kvs)) (k : R[n]? = some a) :
    (a == sysModules) = false ∧ kvs.length ≤ sizeLine ∧ ∃ es o ds xs, H a = some (.ext (DictX a ep es)) ∧ DAt X.w s.heap a o ds ep xs ∧ Paired (KX X.K H R) kvs xs := by
  obtain ⟨es, e1, r⟩ := hr.ob n _ a e k
  obtain ⟨⟨e2, e3, o, ds, e4, e5, e6, e7⟩, _, _⟩ := I.hok a _ e1
  obtain ⟨xs, e8, p⟩ := kx_of r.rel e7
  refine ⟨e2, by rw [Paired.length r.rel]; exact e3, es, o, ds, xs, e1, ⟨e4, e5, e6, e8, fun x hx => ?_, (kx_nd p).mp r.nd⟩, p⟩
  obtain ⟨j, hj⟩ := List.mem_iff_getElem?.mp hx
  have back : ∀ {l : List (D × D)} {m : List XE}, Paired (KX X.K H R) l m → ∀ {j : Nat} {x : XE}, m[j]? = some x → ∃ p, KX X.K H R p x := by
    intro l m pr
    induction pr with
    | nil => intro j x q; simp at q
    | cons a b ih =>
      intro j x q
      cases j with
      | zero => simp at q; subst q; exact ⟨_, a⟩
      | succ j => exact ih (by simpa using q)
  obtain ⟨p, a1, a2, ⟨v1, b1, c1⟩, _⟩ := back p hj
  exact ⟨key_is I p.1 x.1 v1 _ a1 b1 c1, a2⟩
/-- a dict's object changed: the state behind -/
theorem dct_put (I : L2.Inv X pins σ H s) (hr : HRel X.w X.K R h H) {n ep ep' : Nat} {kvs kvs' : List (D × D)} {a : Addr} (e : h[n]? = some (.dct ep kvs)) (k : R[n]? = some a) {h' : Heap} {o' : Obj} {ds' : Array DictEntry} {xs' : List XE} {t' : Nat}
    (D' : DAt X.w h' a o' ds' ep' xs') (sb : Heap.SameBut a s.heap h') (p : Paired (KX X.K H R) kvs' xs') (hz : kvs'.length ≤ sizeLine) :
    ∃ H', Ext X.K R H R H' ∧ HRel X.w X.K R (h.set n (.dct ep' kvs')) H' ∧ L2.Inv X pins σ H' { s with heap := h', toks := t' } := by
  obtain ⟨sy, _, es, o, ds, xs, e1, D0, _⟩ := dct_at I hr e k
  obtain ⟨es', q1, q2⟩ := kx_to (w := X.w) p
  refine ⟨upd H a (.ext (DictX a ep' es')), hr.ext k, hr.put k fun ex => ⟨es', upd_same, ⟨L2.Paired.mapP q1 fun x y z => ⟨VR.mono ex z.1, VR.mono ex z.2.1, z.2.2⟩, (kx_nd p).mpr D'.nd⟩⟩, ?_⟩
  refine I.write (x := a) (e := a) (by rw [e1]; trivial) (.inl rfl) (fun b u hb q => (sb.2 b hb).trans q) ⟨o', D'.at_⟩ ⟨?_, ⟨o', D'.at_⟩, fun h1 h2 z1 z2 => ?_⟩
  · exact ⟨sy, by rw [← Paired.length q1]; exact hz, o', ds', D'.at_, D'.exact, D'.data, by rw [D'.ents]; exact q2⟩
  · obtain ⟨b1, b2, o1, d1, b3, b4⟩ := z1
    exact ⟨b1, b2, o1, d1, z2 _ b3, b4⟩
/-- a new dict -/
theorem dct_new (I : L2.Inv X pins σ H s) (hr : HRel X.w X.K R h H) {a : Addr} {h' : Heap} {o' : Obj} {ds' : Array DictEntry} {ep' : Nat} {kvs' : List (D × D)} {xs' : List XE} {t' : Nat} (keep : ∀ b u, s.heap.get? b = some u → h'.get? b = some u) (ha : s.heap.objs.size ≤ a)
    (sy : (a == sysModules) = false) (D' : DAt X.w h' a o' ds' ep' xs') (p : Paired (KX X.K H R) kvs' xs') (hz : kvs'.length ≤ sizeLine) :
    ∃ H', H a = none ∧ Ext X.K R H (R ++ [a]) H' ∧ HRel X.w X.K (R ++ [a]) (h ++ [.dct ep' kvs']) H' ∧ L2.Inv X pins σ H' { s with heap := h', toks := t' } := by
  obtain ⟨es', q1, q2⟩ := kx_to (w := X.w) p
  have hn := I.hok.fresh ha
  have ex : Ext X.K R H (R ++ [a]) (upd H a (.ext (DictX a ep' es'))) := Ext.more a (Ext.new hn)
  refine ⟨upd H a (.ext (DictX a ep' es')), hn, ex, hr.push hn ⟨es', upd_same, ⟨L2.Paired.mapP q1 fun x y z => ⟨VR.mono ex z.1, VR.mono ex z.2.1, z.2.2⟩, (kx_nd p).mpr D'.nd⟩⟩, ?_⟩
  refine I.laid keep ha ⟨⟨sy, by rw [← Paired.length q1]; exact hz, o', ds', D'.at_, D'.exact, D'.data, by rw [D'.ents]; exact q2⟩, ⟨o', D'.at_⟩, fun h1 h2 z1 z2 => ?_⟩
  obtain ⟨b1, b2, o1, d1, b3, b4⟩ := z1
  exact ⟨b1, b2, o1, d1, z2 _ b3, b4⟩
end
end Z
set_option Elab.async false
set_option linter.all false
set_option maxRecDepth 100000
set_option maxHeartbeats 4000000
namespace Z
open PySem L2
/-- a comparison of data -/
def rC (w : World) (K : PySem.W.Frag) (op : D → D → Hh → Option Bool) : R2 := fun x y H Q => ∃ R h dx dy, HRel w K R h H ∧ VR K H R dx x ∧ VR K H R dy y ∧ ∃ b, op dx dy h = some b ∧ Q (.bl b) H
section
variable {X : Cx}
theorem intsOf_ok {K : PySem.W.Frag} {H : Hp} {R : List Addr} : ∀ {xs : List D} {ns : List Int} {vs : List V}, intsOf xs = some ns → VRs K H R xs vs → vs = ns.map V.int
  | [], ns, vs, e, r => by simp only [intsOf] at e; cases e; exact r
  | .int i :: xs, ns, vs, e, r => by
    simp only [intsOf] at e
    cases q : intsOf xs with
    | none => rw [q] at e; cases e
    | some ms =>
      rw [q] at e; cases e
      obtain ⟨v, t, rfl, h1, h2⟩ := r
      rw [show v = V.int i from h1, intsOf_ok q h2]; rfl
  | .non :: xs, ns, vs, e, r => by simp only [intsOf] at e; cases e
  | .bl _ :: xs, ns, vs, e, r => by simp only [intsOf] at e; cases e
  | .str _ :: xs, ns, vs, e, r => by simp only [intsOf] at e; cases e
  | .tup _ :: xs, ns, vs, e, r => by simp only [intsOf] at e; cases e
  | .rol _ :: xs, ns, vs, e, r => by simp only [intsOf] at e; cases e
  | .ref _ :: xs, ns, vs, e, r => by simp only [intsOf] at e; cases e
theorem memD_any {h : Hh} {x : D} : ∀ {ys : List D} {b : Bool}, memD h x ys = some b → (∀ y ∈ ys, ∃ c, eqF h 30 y x = some c) ∧ b = ys.any fun y => eqF h 30 y x == some true
  | [], b, e => by simp only [memD] at e; cases e; exact ⟨(fun _ z => by cases z), rfl⟩
  | y :: ys, b, e => by
    simp only [memD] at e
    split at e
    · rename_i a c e1 e2
      cases e
      obtain ⟨h1, rfl⟩ := memD_any e2
      refine ⟨fun z hz => ?_, ?_⟩
      · rcases List.mem_cons.mp hz with rfl | hz
        · exact ⟨a, e1⟩
        · exact h1 z hz
      · rw [List.any_cons, e1]
        cases a <;> rfl
    · cases e
open SeqAt in
/-- in a list's or a tuple's items -/
theorem mem_ok {pins : List (Addr × Obj)} {s : Shared} {σ : St} {H : Hp} (I : L2.Inv X pins σ H s) {R : List Addr} {h : Hh} (hr : HRel X.w X.K R h H) {x : D} {ys : List D} {b : Bool} {A : Around} {vx : V} {ux : Value} {vs : List V} {us : List Value}
    (e : memD h x ys = some b) (rx : VR X.K H R x vx) (r1 : RelV vx ux) (ry : VRs X.K H R ys vs) (r2 : Vals vs us) (hu : A.units + 30 < cLine) :
    ∃ f : Value → Bool, b = us.toArray.any f ∧ ∀ y, y ∈ us.toArray → EqAt A s y ux (f y) := by
  obtain ⟨e1, rfl⟩ := memD_any e
  have : ∀ u : Value, Decidable (∃ d v, VR X.K H R d v ∧ RelV v u ∧ eqF h 30 d x = some true) := fun u => Classical.propDecidable _
  have key : ∀ {i : Nat} {d : D} {u : Value}, ys[i]? = some d → us[i]? = some u → (eqF h 30 d x == some true) = decide (∃ d v, VR X.K H R d v ∧ RelV v u ∧ eqF h 30 d x = some true) := by
    intro i d u h1 h2
    obtain ⟨v, k1, l1⟩ := vals_get r2 h2
    obtain ⟨d', k2, l2⟩ := ry.get' k1
    rw [h1] at k2; cases k2
    by_cases q : eqF h 30 d x = some true
    · rw [q, decide_eq_true ⟨d, v, l2, l1, q⟩]; rfl
    · have n : ¬ ∃ d v, VR X.K H R d v ∧ RelV v u ∧ eqF h 30 d x = some true := by
        rintro ⟨d2, v2, m1, m2, m3⟩
        rw [relV_inj m2 l1] at m1
        rw [vr_inj I hr d2 d v m1 l2] at m3
        exact q m3
      rw [decide_eq_false n]
      cases z : eqF h 30 d x with
      | none => rfl
      | some c => cases c with
        | false => rfl
        | true => exact absurd z q
  refine ⟨fun u => decide (∃ d v, VR X.K H R d v ∧ RelV v u ∧ eqF h 30 d x = some true), ?_, fun y hy => ?_⟩
  · have hl : us.length = ys.length := by rw [← r2.length, ry.len]
    rw [List.any_toArray]
    rw [Bool.eq_iff_iff, List.any_eq_true, List.any_eq_true]
    constructor
    · rintro ⟨d, hd, q⟩
      obtain ⟨i, hi⟩ := List.mem_iff_getElem?.mp hd
      have hi' : i < us.length := by rw [hl]; exact (List.getElem?_eq_some_iff.mp hi).1
      exact ⟨us[i], List.getElem_mem hi', by rw [← key hi (List.getElem?_eq_getElem hi')]; exact q⟩
    · rintro ⟨u, hu', q⟩
      obtain ⟨i, hi⟩ := List.mem_iff_getElem?.mp hu'
      have hi' : i < ys.length := by rw [← hl]; exact (List.getElem?_eq_some_iff.mp hi).1
      exact ⟨ys[i], List.getElem_mem hi', by rw [key (List.getElem?_eq_getElem hi') hi]; exact q⟩
  · have hy' : y ∈ us := by simpa using hy
    obtain ⟨i, hi⟩ := List.mem_iff_getElem?.mp hy'
    obtain ⟨v, k1, l1⟩ := vals_get r2 hi
    obtain ⟨d, k2, l2⟩ := ry.get' k1
    obtain ⟨c, hc⟩ := e1 d (List.mem_of_getElem? k2)
    have z := key k2 hi
    rw [hc] at z
    have z' : c = decide (∃ d v, VR X.K H R d v ∧ RelV v y ∧ eqF h 30 d x = some true) := by
      rw [← z]; cases c <;> rfl
    show EqAt A s y ux (decide (∃ d v, VR X.K H R d v ∧ RelV v y ∧ eqF h 30 d x = some true))
    rw [← z']
    exact eqF_ok I hr 30 d x c A v vx y ux hc l2 rx l1 r1 hu
theorem op_cmp (o : CmpOp) (hu : X.A.units + 64 < cLine) : OpR X (compareOp o) (rC X.w X.K (cmpD o)) := by
  intro pins s σ H x y v u Q I rx ry hq
  obtain ⟨R, h, dx, dy, hr, vx, vy, b, e, q⟩ := hq
  have fin : EP X pins σ Q (.bool b) s := ⟨.bl b, H, I, rfl, q⟩
  cases o with
  | Eq => exact eqD_ok I hr e vx vy rx ry (by omega) X.prog X.w X.xe _ fin
  | NotEq =>
    simp only [cmpD] at e
    cases z : eqD h dx dy with
    | none => rw [z] at e; cases e
    | some c =>
      rw [z] at e; cases e
      exact neD_ok I hr z vx vy rx ry (by omega) X.prog X.w X.xe _ fin
  | Lt =>
    simp only [cmpD] at e
    cases dx <;> cases dy <;> simp only [lt0] at e <;> (first | (cases e; done) | skip)
    case int.int i j => cases e; subst vx; subst vy; exact op_lt pins s σ H _ _ v u Q I rx ry ⟨i, j, rfl, rfl, q⟩
    case str.str i j => cases e; subst vx; subst vy; exact op_lt_str pins s σ H _ _ v u Q I rx ry ⟨i, j, rfl, rfl, q⟩
    case tup.tup xs ys =>
      split at e
      · rename_i ns ms e1 e2
        cases e
        obtain ⟨a, vs, rfl, ha, r1⟩ := vx
        obtain ⟨b, us, rfl, hb, r2⟩ := vy
        rw [intsOf_ok e1 r1] at ha
        rw [intsOf_ok e2 r2] at hb
        exact op_ltT (by omega) pins s σ H _ _ v u Q I rx ry ⟨a, b, ns, ms, rfl, rfl, ha, hb, q⟩
      · cases e
  | Gt =>
    simp only [cmpD] at e
    cases dx <;> cases dy <;> simp only at e <;> (first | (cases e; done) | skip)
    case int.int i j => cases e; subst vx; subst vy; exact op_gt pins s σ H _ _ v u Q I rx ry ⟨i, j, rfl, rfl, q⟩
    case str.str i j => cases e; subst vx; subst vy; exact op_gt_str pins s σ H _ _ v u Q I rx ry ⟨i, j, rfl, rfl, q⟩
  | LtE =>
    simp only [cmpD] at e
    cases dx <;> cases dy <;> simp only at e <;> (first | (cases e; done) | skip)
    case int.int i j => cases e; subst vx; subst vy; exact op_le pins s σ H _ _ v u Q I rx ry ⟨i, j, rfl, rfl, q⟩
    case str.str i j => cases e; subst vx; subst vy; exact op_le_str pins s σ H _ _ v u Q I rx ry ⟨i, j, rfl, rfl, q⟩
  | GtE =>
    simp only [cmpD] at e
    cases dx <;> cases dy <;> simp only at e <;> (first | (cases e; done) | skip)
    case int.int i j => cases e; subst vx; subst vy; exact op_ge pins s σ H _ _ v u Q I rx ry ⟨i, j, rfl, rfl, q⟩
    case str.str i j => cases e; subst vx; subst vy; exact op_ge_str pins s σ H _ _ v u Q I rx ry ⟨i, j, rfl, rfl, q⟩
  | Is =>
    simp only [cmpD] at e
    cases dy <;> simp only at e <;> (first | (cases e; done) | skip)
    subst vy
    refine op_isN pins s σ H _ _ v u Q I rx ry ⟨rfl, ?_⟩
    have : decide (x = .non) = b := by
      cases dx <;> simp only at e <;> cases e
      · subst vx; rfl
      · subst vx; rfl
      · subst vx; rfl
      · subst vx; rfl
      · obtain ⟨a, vs, rfl, _⟩ := vx; rfl
      · obtain ⟨a, vs, rfl, _⟩ := vx; rfl
      · obtain ⟨a, _, rfl⟩ := vx; rfl
    show Q (.bl (decide (x = .non))) H
    rw [this]; exact q
  | IsNot =>
    simp only [cmpD] at e
    cases dy <;> simp only at e <;> (first | (cases e; done) | skip)
    subst vy
    refine op_notN pins s σ H _ _ v u Q I rx ry ⟨rfl, ?_⟩
    have : (!decide (x = .non)) = b := by
      cases dx <;> simp only at e <;> cases e
      · subst vx; rfl
      · subst vx; rfl
      · subst vx; rfl
      · subst vx; rfl
      · obtain ⟨a, vs, rfl, _⟩ := vx; rfl
      · obtain ⟨a, vs, rfl, _⟩ := vx; rfl
      · obtain ⟨a, _, rfl⟩ := vx; rfl
    show Q (.bl (!decide (x = .non))) H
    rw [this]; exact q
  | In =>
    simp only [cmpD] at e
    cases dy <;> simp only [inD] at e <;> (first | (cases e; done) | skip)
    case tup ys =>
      obtain ⟨a, vs, rfl, ha, ry'⟩ := vy
      cases ry
      obtain ⟨its, rv, pt, _⟩ := I.tuple ha
      obtain ⟨f, rfl, g⟩ := mem_ok I hr (A := X.A.in1) e vx rx ry' rv (by show X.A.units + 1 + 30 < cLine; omega)
      exact SeqAt.in_tupleAt f pt g fin
    case str z =>
      split at e
      · rename_i a
        split at e
        · rename_i c hc
          cases e
          subst vx; subst vy
          obtain ⟨ca⟩ := a
          have : ca = #[c] := by simpa using congrArg List.toArray hc
          subst this
          exact op_in_sign pins s σ H _ _ v u Q I rx ry ⟨c, z, rfl, rfl, q⟩
        · cases e
      · cases e
    case ref n =>
      split at e
      · rename_i ys e1
        obtain ⟨p, k, rfl⟩ := vy
        obtain ⟨vs, h1, ry'⟩ := hr.ob n _ p e1 k
        cases ry
        obtain ⟨its, rv, pt, _⟩ := I.list (SqL.of h1)
        obtain ⟨f, rfl, g⟩ := mem_ok I hr (A := X.A.in1) e vx rx ry' rv (by show X.A.units + 1 + 30 < cLine; omega)
        exact SeqAt.in_listAt f pt.isList g fin
      · rename_i ep kvs e1
        obtain ⟨p, k, rfl⟩ := vy
        cases ry
        cases z : keyOf dx with
        | none => rw [z] at e; cases e
        | some kk =>
          rw [z] at e; cases e
          obtain ⟨k1, k2⟩ := keyOf_ok z
          obtain ⟨sy, hz, es, ob, ds, xs, hH, Dd, pr⟩ := dct_at I hr e1 k
          refine in_ok (by omega) sy Dd (key_is I dx kk x v k1 vx rx) k2 ?_
          have : (valK kk xs).isSome = (findK kk kvs).isSome := by
            rcases kx_find (k := kk) pr with ⟨a1, a2⟩ | ⟨d, uu, vv, a1, a2, _⟩
            · rw [a1, a2]; rfl
            · rw [a1, a2]; rfl
          rw [this]
          exact ⟨.bl _, H, I.tok _, rfl, q⟩
      · cases e
  | NotIn =>
    simp only [cmpD] at e
    cases z0 : inD h dx dy with
    | none => rw [z0] at e; cases e
    | some c0 =>
    rw [z0] at e
    cases e
    cases dy <;> simp only [inD] at z0 <;> (first | (cases z0; done) | skip)
    case tup ys =>
      obtain ⟨a, vs, rfl, ha, ry'⟩ := vy
      cases ry
      obtain ⟨its, rv, pt, _⟩ := I.tuple ha
      obtain ⟨f, rfl, g⟩ := mem_ok I hr (A := X.A.in1) z0 vx rx ry' rv (by show X.A.units + 1 + 30 < cLine; omega)
      exact SeqAt.notIn_tupleAt f pt g fin
    case str z =>
      split at z0
      · rename_i a
        split at z0
        · rename_i c hc
          cases z0
          subst vx; subst vy
          obtain ⟨ca⟩ := a
          have : ca = #[c] := by simpa using congrArg List.toArray hc
          subst this
          exact op_notIn_sign pins s σ H _ _ v u Q I rx ry ⟨c, z, rfl, rfl, q⟩
        · cases z0
      · cases z0
    case ref n =>
      split at z0
      · rename_i ys e1
        obtain ⟨p, k, rfl⟩ := vy
        obtain ⟨vs, h1, ry'⟩ := hr.ob n _ p e1 k
        cases ry
        obtain ⟨its, rv, pt, _⟩ := I.list (SqL.of h1)
        obtain ⟨f, rfl, g⟩ := mem_ok I hr (A := X.A.in1) z0 vx rx ry' rv (by show X.A.units + 1 + 30 < cLine; omega)
        exact SeqAt.notIn_listAt f pt.isList g fin
      · rename_i ep kvs e1
        obtain ⟨p, k, rfl⟩ := vy
        cases ry
        cases z : keyOf dx with
        | none => rw [z] at z0; cases z0
        | some kk =>
          rw [z] at z0; cases z0
          obtain ⟨k1, k2⟩ := keyOf_ok z
          obtain ⟨sy, hz, es, ob, ds, xs, hH, Dd, pr⟩ := dct_at I hr e1 k
          refine notIn_ok (by omega) sy Dd (key_is I dx kk x v k1 vx rx) k2 ?_
          have : (valK kk xs).isSome = (findK kk kvs).isSome := by
            rcases kx_find (k := kk) pr with ⟨a1, a2⟩ | ⟨d, uu, vv, a1, a2, _⟩
            · rw [a1, a2]; rfl
            · rw [a1, a2]; rfl
          rw [this]
          exact ⟨.bl _, H, I.tok _, rfl, q⟩
      · cases z0
end
end Z
set_option Elab.async false
set_option linter.all false
set_option maxRecDepth 100000
set_option maxHeartbeats 4000000
namespace Z
open PySem L2
section
variable {X : Cx}
/-- an item's place in the values -/
theorem atI_ok {K : PySem.W.Frag} {H : Hp} {R : List Addr} {xs : List D} {vs : List V} {i : Int} {d : D} (r : VRs K H R xs vs) (e : atI xs i = some d) : ∃ v, atI vs i = some v ∧ VR K H R d v := by
  unfold atI at e ⊢
  cases q : ixN xs.length i with
  | none => rw [q] at e; cases e
  | some j =>
    rw [q] at e
    obtain ⟨v, h1, h2⟩ := r.get (show xs[j]? = some d from e)
    exact ⟨v, by rw [r.len, q]; exact h1, h2⟩
def rX (w : World) (K : PySem.W.Frag) (op : D → D → Hh → Option D) : R2 := fun x y H Q => ∃ R h dx dy, HRel w K R h H ∧ VR K H R dx x ∧ VR K H R dy y ∧ ∃ z, op dx dy h = some z ∧ ∀ v, VR K H R z v → Q v H
theorem op_idx (hu : X.A.units + 64 < cLine) : IxR X (rX X.w X.K idxD) := by
  intro value slice pins s σ H x y v u Q I rx ry hq hs
  obtain ⟨R, h, dx, dy, hr, vx, vy, z, e, q⟩ := hq
  cases dx <;> simp only [idxD] at e <;> (first | (cases e; done) | skip)
  case str a =>
    split at e
    · rename_i i
      split at e
      · rename_i hz
        subst vx; subst vy
        cases q1 : atI a.cps.toList i with
        | none => rw [q1] at e; cases e
        | some c =>
          rw [q1] at e; cases e
          exact ix_str value slice pins s σ H _ _ v u Q I rx ry ⟨a, i, c, rfl, rfl, hz, q1, q _ rfl⟩ hs
      · cases e
    · cases e
  case tup xs =>
    split at e
    · rename_i i
      obtain ⟨a, vs, rfl, ha, r1⟩ := vx
      subst vy
      obtain ⟨w, h1, h2⟩ := atI_ok r1 e
      exact ix_tup value slice pins s σ H _ _ v u Q I rx ry ⟨a, vs, i, w, rfl, rfl, ha, h1, q _ h2⟩ hs
    · cases e
  case rol xs =>
    split at e
    · rename_i i
      obtain ⟨a, vs, rfl, ha, r1⟩ := vx
      subst vy
      obtain ⟨w, h1, h2⟩ := atI_ok r1 e
      exact ix_list value slice pins s σ H _ _ v u Q I rx ry ⟨a, vs, i, w, rfl, rfl, ha.l, h1, q _ h2⟩ hs
    · cases e
  case ref n =>
    split at e
    · rename_i xs e1
      split at e
      · rename_i i
        obtain ⟨a, k, rfl⟩ := vx
        obtain ⟨vs, ha, r1⟩ := hr.ob n _ a e1 k
        subst vy
        obtain ⟨w, h1, h2⟩ := atI_ok r1 e
        exact ix_list value slice pins s σ H _ _ v u Q I rx ry ⟨a, vs, i, w, rfl, rfl, SqL.of ha, h1, q _ h2⟩ hs
      · cases e
    · rename_i ep kvs e1
      obtain ⟨a, k, rfl⟩ := vx
      cases rx
      cases z0 : keyOf dy with
      | none => rw [z0] at e; cases e
      | some kk =>
        rw [z0] at e
        obtain ⟨k1, k2⟩ := keyOf_ok z0
        obtain ⟨sy, hz, es, ob, ds, xs, hH, Dd, pr⟩ := dct_at I hr e1 k
        rcases kx_find (k := kk) pr with ⟨a1, a2⟩ | ⟨d, uu, vv, a1, a2, a3, a4⟩
        · rw [show (some kk).bind (fun k => findK k kvs) = findK kk kvs from rfl, a1] at e; cases e
        · rw [show (some kk).bind (fun k => findK k kvs) = findK kk kvs from rfl, a1] at e; cases e
          refine PyProof.Rows.subscriptTail_builtinR (x := uu) Dd.typeIs slot_dict_getitem.lookup ?_ hs
          refine getItem_ok (Q := fun r s' => r = uu ∧ EP X pins σ Q r s') (by omega) Dd (key_is I dy kk y u k1 vy ry) k2 a2 ⟨rfl, ?_⟩
          exact ⟨vv, H, I.tok _, a4, q _ a3⟩
    · cases e
/-! ### slices -/
def rS (w : World) (K : PySem.W.Frag) : V → Option Int → Option Int → Hp → VK → Prop := fun x lo hi H Q => ∃ R h dx, HRel w K R h H ∧ VR K H R dx x ∧ ∃ z h', slcD dx lo hi h = some (z, h') ∧ Fin w K R H z h' Q
theorem cut_ok {K : PySem.W.Frag} {H : Hp} {R : List Addr} {xs : List D} {vs : List V} (r : VRs K H R xs vs) (lo hi : Option Int) : VRs K H R (cutD xs lo hi) (cutV vs lo hi) := by
  unfold cutD cutV
  rw [r.len]
  exact (r.drop _).take _
theorem op_slc : SlR X (rS X.w X.K) := by
  intro pins s σ H x v vl vu lo hi sl Q I rx hs pl pu hq
  obtain ⟨R, h, dx, hr, vx, z, h', e, q⟩ := hq
  cases dx <;> simp only [slcD] at e <;> (first | (cases e; done) | skip)
  case str a =>
    split at e
    · rename_i hz
      cases e
      subst vx
      exact sl_str pins s σ H _ v vl vu lo hi sl Q I rx hs pl pu ⟨a, rfl, hz, q.same hr rfl⟩
    · cases e
  case tup xs =>
    cases e
    obtain ⟨a, vs, rfl, ha, r1⟩ := vx
    refine sl_tupA pins s σ H _ v vl vu lo hi sl Q I rx hs pl pu ⟨a, vs, rfl, ha, fun hw => ?_, fun _ p hp => q.tup hr (cut_ok r1 lo hi) hp⟩
    have : cutD xs lo hi = xs := by
      unfold cutD
      rw [← r1.len, hw.1, hw.2, Nat.sub_zero, List.drop_zero, r1.len, List.take_length]
    rw [this] at q
    exact q.same hr ⟨a, vs, rfl, ha, r1⟩
  case rol xs =>
    cases e
    obtain ⟨a, vs, rfl, ha, r1⟩ := vx
    exact sl_list pins s σ H _ v vl vu lo hi sl Q I rx hs pl pu ⟨a, vs, rfl, ha.l, fun p hp => q.lst hr (cut_ok r1 lo hi) hp⟩
  case ref n =>
    split at e
    · rename_i xs e1
      cases e
      obtain ⟨a, k, rfl⟩ := vx
      obtain ⟨vs, ha, r1⟩ := hr.ob n _ a e1 k
      exact sl_list pins s σ H _ v vl vu lo hi sl Q I rx hs pl pu ⟨a, vs, rfl, SqL.of ha, fun p hp => q.lst hr (cut_ok r1 lo hi) hp⟩
    · cases e
/-! ### stores -/
def rPut (w : World) (K : PySem.W.Frag) : TSet := fun o i v H Q => ∃ R h dx dy dv, HRel w K R h H ∧ VR K H R dx o ∧ VR K H R dy i ∧ VR K H R dv v ∧ ∃ h', setD dx dy dv h = some h' ∧ ∀ R' H', Ext K R H R' H' → HRel w K R' h' H' → Q H'
theorem kx_ix {K : PySem.W.Frag} {H : Hp} {R : List Addr} : ∀ {kvs : List (D × D)} {xs : List XE} {k : NestedKey}, Paired (KX K H R) kvs xs → (findK k kvs).isSome = (ixK k xs).isSome := by
  intro kvs xs k p
  rcases kx_find (k := k) p with ⟨a1, a2⟩ | ⟨d, uu, vv, a1, a2, a3, a4⟩
  · rw [a1]
    unfold valK at a2
    cases q : ixK k xs with
    | none => rfl
    | some j =>
      obtain ⟨y, hy⟩ := ixK_some q
      cases z : xs.find? (fun x => decide (x.1 = k)) with
      | none => exact absurd (by simp) (List.find?_eq_none.mp z _ (List.mem_of_getElem? hy))
      | some y => rw [z] at a2; cases a2
  · rw [a1]
    cases q : ixK k xs with
    | some j => rfl
    | none =>
      unfold ixK at q
      unfold valK at a2
      have : xs.find? (fun x => decide (x.1 = k)) = none := List.find?_eq_none.mpr fun x hx => by rw [List.findIdx?_eq_none_iff.mp q x hx]; simp
      rw [this] at a2; cases a2
theorem kx_put {K : PySem.W.Frag} {H : Hp} {R : List Addr} {dk dv : D} {v1 v2 : V} {u1 u2 : Value} {k : NestedKey} (k1 : dk.key = some k) (k2 : k.depth ≤ 8) (r1 : VR K H R dk v1) (q1 : RelV v1 u1) (r2 : VR K H R dv v2) (q2 : RelV v2 u2) :
    ∀ {kvs : List (D × D)} {xs : List XE}, Paired (KX K H R) kvs xs → Paired (KX K H R) (putK k dk dv kvs) (setK k u1 u2 xs)
  | _, _, .nil => .cons ⟨k1, k2, ⟨v1, r1, q1⟩, v2, r2, q2⟩ .nil
  | _, _, .cons (a := p) (b := x) a b => by
    have ih := kx_put k1 k2 r1 q1 r2 q2 b
    by_cases e : x.1 = k
    · have h1 : ∀ l, putK k dk dv (p :: l) = (p.1, dv) :: l := fun l => by rw [putK]; exact if_pos (by rw [a.1, e])
      have h2 : ∀ l, setK k u1 u2 (x :: l) = (x.1, x.2.1, u2) :: l := fun l => by
        unfold setK ixK
        rw [List.findIdx?_cons, decide_eq_true e]
        rfl
      rw [h1, h2]
      exact .cons ⟨a.1, a.2.1, a.2.2.1, v2, r2, q2⟩ b
    · have h1 : ∀ l, putK k dk dv (p :: l) = p :: putK k dk dv l := fun l => by rw [putK]; exact if_neg (by rw [a.1]; intro z; exact e (Option.some.inj z))
      have h2 : ∀ l, setK k u1 u2 (x :: l) = x :: setK k u1 u2 l := fun l => by
        unfold setK ixK
        rw [List.findIdx?_cons, decide_eq_false e]
        cases q : List.findIdx? (fun x => decide (x.1 = k)) l with
        | none => rfl
        | some j => rfl
      rw [h1, h2]
      exact .cons a ih
theorem putK_len (k : NestedKey) (a b : D) : ∀ l : List (D × D), (putK k a b l).length ≤ l.length + 1
  | [] => by simp [putK]
  | p :: l => by
    unfold putK
    split
    · simp
    · have := putK_len k a b l
      simp only [List.length_cons]
      omega
theorem op_put (hu : X.A.units + 64 < cLine) : PSet X (rPut X.w X.K) := by
  intro pins s σ H o i v ov iv u Q I ro ri rv hq
  obtain ⟨R, h, dx, dy, dv, hr, vx, vy, vv, h', e, q⟩ := hq
  cases dx <;> simp only [setD] at e <;> (first | (cases e; done) | skip)
  split at e
  · rename_i xs e1
    split at e
    · rename_i k
      obtain ⟨a, k1, rfl⟩ := vx
      obtain ⟨vs, ha, r1⟩ := hr.ob _ _ a e1 k1
      subst vy
      cases z : ixN xs.length k with
      | none => rw [z] at e; cases e
      | some j =>
        rw [z] at e; cases e
        refine set_list pins s σ H _ _ v ov iv u Q I ro ri rv ⟨a, vs, k, j, rfl, rfl, ha, by rw [r1.len]; exact z, ?_⟩
        exact q R _ (hr.ext k1) (hr.putL k1 (VRs.set vv j r1))
    · cases e
  · rename_i ep kvs e1
    obtain ⟨a, k, rfl⟩ := vx
    cases ro
    cases z0 : keyOf dy with
    | none => rw [z0] at e; cases e
    | some kk =>
      rw [z0] at e
      simp only [Option.bind_some] at e
      split at e
      · rename_i hz
        cases e
        obtain ⟨k1, k2⟩ := keyOf_ok z0
        obtain ⟨sy, hz', es, ob, ds, xs, hH, Dd, pr⟩ := dct_at I hr e1 k
        refine setItem_ok (by omega) Dd (key_is I dy kk i iv k1 vy ri) k2 (by rw [← Paired.length pr]; exact hz') fun h2 o2 es2 D2 sb => ?_
        rw [← kx_ix (k := kk) pr] at D2
        obtain ⟨H2, x1, x2, x3⟩ := dct_put (t' := s.toks + kk.draws) I hr e1 k D2 sb (kx_put k1 k2 vy ri vv rv pr) (by have := putK_len kk dy dv kvs; omega)
        exact ⟨H2, x3, q R H2 x1 x2⟩
      · cases e
  · cases e
/-! ### truth, length -/
section
variable {prog : Program} {w : World} {A : Around} {E : Value → Shared → Prop} {s : Shared} {d : Addr} {o : Obj} {es : Array DictEntry} {ep : Nat} {xs : List XE}
theorem lenBody_ok {Q : Value → Shared → Prop} (hd : (d == sysModules) = false) (D : DAt w s.heap d o es ep xs) (hz : xs.length ≤ sizeLine) (h : Q (.int xs.length (s.toks + 1)) { s with toks := s.toks + 1 + 1 }) :
    wpAny (model prog w) A (Builtin.«len» ⟨[.ref d], []⟩) (fun fin s' => ∃ r, fin = .done (.ret r) ∧ Q r s') E s := by
  have hs : sizeLine < 2 ^ 62 := by decide
  have e1 := D.size
  rw [← e1] at h
  unfold Builtin.«len»
  refine wpAny_bind (m := oneArg "len" _) (wpAny_pure ?_)
  refine wpAny_bind (m := callSpecial? (.ref d) (Str.ofString "__len__")) (wpAny_callSpecial?_slot (name := Str.ofString "__len__") D.typeIs F.slot_dict_len (call_len_raw hd D.raw ?_))
  show wpAny _ _ _ _ _ { s with toks := s.toks + 1 }
  refine wpAny_bind (wpAny_holding (wpAny_pure ?_))
  refine wpAny_bind (wpAny_letGo ?_)
  show wpAny _ _ (if ((es.size : Nat) : Int) < 0 then _ else _) _ _ _
  rw [if_neg (by omega)]
  show wpAny _ _ (if ((es.size : Nat) : Int) ≥ 2 ^ 63 then _ else _) _ _ _
  rw [if_neg (by omega)]
  exact wpAny_bind (wpAny_mkInt (wpAny_pure ⟨_, rfl, h⟩))
theorem lenCall_ok {Q : Value → Shared → Prop} (hd : (d == sysModules) = false) (D : DAt w s.heap d o es ep xs) (hz : xs.length ≤ sizeLine) (h : Q (.int xs.length (s.toks + 1)) { s with toks := s.toks + 1 + 1 }) :
    wpAny (model prog w) A (call (.builtin "len") [.ref d]) Q E s := Calls.call_function_entry kind_len plain_len entry_len (args_len1 _) (lenBody_ok hd D hz h)
theorem truthy_ok {Q : Bool → Shared → Prop} (hd : (d == sysModules) = false) (D : DAt w s.heap d o es ep xs) (hz : xs.length ≤ sizeLine) (h : Q (!xs.isEmpty) { s with toks := s.toks + 1 + 1 }) : wpAny (model prog w) A (truthy (.ref d)) Q E s := by
  have hne : ((xs.length : Int) != 0) = !xs.isEmpty := by cases xs <;> simp <;> omega
  have key : wpAny (model prog w) A (runValue (.builtin "len" ⟨[.ref d], []⟩)) (fun r s' => r = .int xs.length (s.toks + 1) ∧ Q (!xs.isEmpty) s') E s := by
    refine wpAny_runValue (codeAny_builtin entry_len ?_)
    rw [Around.under_plainId plain_len _]
    exact wpAny_mono (lenBody_ok (Q := fun r s' => r = .int xs.length (s.toks + 1) ∧ Q (!xs.isEmpty) s') hd D hz ⟨rfl, h⟩) (fun fin s' h' => by obtain ⟨r, rfl, hq⟩ := h'; exact hq) fun _ _ e => e
  unfold truthy
  first
    | refine wpAny_bind (wpAny_callSpecial?_none (name := Str.ofString "__bool__") D.typeIs noBool_dict ?_)
    | refine wpAny_bind (wpAny_pure (wpAny_bind (wpAny_callSpecial?_none (name := Str.ofString "__bool__") D.typeIs noBool_dict ?_)))
  first
    | refine wpAny_bind (wpAny_specialOf (name := Str.ofString "__len__") D.typeIs F.slot_dict_len.lookup ?_)
    | refine wpAny_bind (wpAny_pure (wpAny_bind (wpAny_specialOf (name := Str.ofString "__len__") D.typeIs F.slot_dict_len.lookup ?_)))
  first
    | exact wpAny_bind (wpAny_mono key (fun r s' h' => by obtain ⟨rfl, hq⟩ := h'; exact wpAny_pure (hne ▸ hq)) fun _ _ e => e)
    | exact wpAny_bind (wpAny_pure (wpAny_bind (wpAny_mono key (fun r s' h' => by obtain ⟨rfl, hq⟩ := h'; exact wpAny_pure (hne ▸ hq)) fun _ _ e => e)))
end
theorem op_tru (hu : X.A.units + 64 < cLine) : ∀ (pins : List (Addr × Obj)) (s : Shared) (σ : St) (H : Hp) (x : V) (v : Value) (R : List Addr) (h : Hh) (d : D) (b : Bool) (Q : Bool → Hp → Prop), L2.Inv X pins σ H s → RelV x v → HRel X.w X.K R h H → VR X.K H R d x → isTrueD h d = some b → Q b H →
    wpAny (model X.prog X.w) X.A (truthy v) (TP X pins σ Q) X.xe s := by
  intro pins s σ H x v R h d b Q I rx hr vx e q
  cases d <;> simp only [isTrueD] at e <;> (first | (cases e; done) | skip)
  case non => cases e; subst vx; exact tru_ok pins s σ H _ v Q I rx ⟨false, rfl, q⟩
  case bl a => cases e; subst vx; exact tru_ok pins s σ H _ v Q I rx ⟨b, rfl, q⟩
  case int a => cases e; subst vx; exact tru_ok pins s σ H _ v Q I rx ⟨_, rfl, q⟩
  case str a =>
    split at e
    · rename_i hz
      cases e; subst vx
      refine tru_ok pins s σ H _ v Q I rx ⟨_, ⟨hz, ?_⟩, q⟩
      rw [Bool.eq_iff_iff]; simp
    · cases e
  case tup xs =>
    cases e
    obtain ⟨a, vs, rfl, ha, r1⟩ := vx
    refine tru_ok pins s σ H _ v Q I rx ⟨_, .inr (.inl ⟨vs, ha, ?_⟩), q⟩
    have := r1.len
    cases xs <;> cases vs <;> simp at this <;> rfl
  case rol xs =>
    cases e
    obtain ⟨a, vs, rfl, ha, r1⟩ := vx
    refine tru_ok pins s σ H _ v Q I rx ⟨_, .inl ⟨vs, ha.l, ?_⟩, q⟩
    have := r1.len
    cases xs <;> cases vs <;> simp at this <;> rfl
  case ref n =>
    split at e
    · rename_i xs e1
      cases e
      obtain ⟨a, k, rfl⟩ := vx
      obtain ⟨vs, ha, r1⟩ := hr.ob n _ a e1 k
      refine tru_ok pins s σ H _ v Q I rx ⟨_, .inl ⟨vs, SqL.of ha, ?_⟩, q⟩
      have := r1.len
      cases xs <;> cases vs <;> simp at this <;> rfl
    · rename_i ep kvs e1
      cases e
      obtain ⟨a, k, rfl⟩ := vx
      cases rx
      obtain ⟨sy, hz', es, ob, ds, xs, hH, Dd, pr⟩ := dct_at I hr e1 k
      refine truthy_ok sy Dd (by rw [← Paired.length pr]; exact hz') ⟨H, I.tok _, ?_⟩
      have := Paired.length pr
      have e2 : (!xs.isEmpty) = !kvs.isEmpty := by cases xs <;> cases kvs <;> simp at this <;> rfl
      rw [e2]; exact q
    · cases e
end
end Z
set_option Elab.async false
set_option linter.all false
set_option autoImplicit false
set_option maxRecDepth 100000
set_option maxHeartbeats 4000000
namespace Z
open PySem L2 PyProof.Rows

section
variable {X : Cx} {e : Expr} {es : List Expr} {st : Stmt} {sts : List Stmt}
theorem pe_imp {t t' : TE} (h : PE X e t) (i : ∀ σ H Q, t' σ H Q → t σ H Q) : PE X e t' := ⟨fun pins s σ H Q I w => h.run pins s σ H Q I (i σ H Q w)⟩
theorem pt_imp {t t' : TT} (h : PT X e t) (i : ∀ σ H Q, t' σ H Q → t σ H Q) : PT X e t' := ⟨fun pins s σ H Q I w => h.run pins s σ H Q I (i σ H Q w)⟩
theorem pw_imp {t t' : TT} (h : PW X e t) (i : ∀ σ H Q, t' σ H Q → t σ H Q) : PW X e t' := ⟨fun wh pins s σ H Q I w => h.run wh pins s σ H Q I (i σ H Q w)⟩
theorem pts_imp {t t' : TT} (h : PTs X es t) (i : ∀ σ H Q, t' σ H Q → t σ H Q) : PTs X es t' := ⟨fun pins s σ H Q I w => h.run pins s σ H Q I (i σ H Q w)⟩
theorem pa_imp {t t' : TA} (h : PA X es t) (i : ∀ σ H Q, t' σ H Q → t σ H Q) : PA X es t' := ⟨fun pos pins s σ H Q I w => h.run pos pins s σ H Q I (i σ H Q w)⟩
theorem ps_imp {t t' : TS} (h : PS X st t) (i : ∀ D σ H, t' D σ H → t D σ H) : PS X st t' := ⟨fun pins s σ H D I w => h.run pins s σ H D I (i D σ H w)⟩
theorem pss_imp {t t' : TS} (h : PSs X sts t) (i : ∀ D σ H, t' D σ H → t D σ H) : PSs X sts t' := ⟨fun pins s σ H D I w => h.run pins s σ H D I (i D σ H w)⟩
end

/-! ### a frame's values -/
structure EnR (K : PySem.W.Frag) (H : Hp) (R : List Addr) (e : En) (σ : L2.St) : Prop where
  len : e.length = σ.length
  at_ : ∀ (i : Nat) (d : D), e[i]? = some (some d) → ∃ v, σ[i]? = some (some v) ∧ VR K H R d v
section
variable {K : PySem.W.Frag} {H H' : Hp} {R R' : List Addr} {e : En} {σ : L2.St}
theorem EnR.mono (x : Ext K R H R' H') (r : EnR K H R e σ) : EnR K H' R' e σ := ⟨r.len, fun i d h => by
  obtain ⟨v, h1, h2⟩ := r.at_ i d h
  exact ⟨v, h1, h2.mono x⟩⟩
theorem EnR.set (r : EnR K H R e σ) {d : D} {v : V} (x : VR K H R d v) (i : Nat) : EnR K H R (e.set i (some d)) (σ.set i (some v)) := ⟨by rw [List.length_set, List.length_set]; exact r.len, fun j d' h => by
  by_cases hj : i = j
  · subst hj
    have hi : i < e.length := by
      have := (List.getElem?_eq_some_iff.mp h).1
      rwa [List.length_set] at this
    rw [List.getElem?_set_self hi] at h
    cases h
    exact ⟨v, List.getElem?_set_self (by rw [← r.len]; exact hi), x⟩
  · rw [List.getElem?_set_ne hj] at h ⊢
    exact r.at_ j d' h⟩
theorem EnR.out (r : EnR K H R e σ) (i : Nat) : EnR K H R (e.set i none) (σ.set i none) := ⟨by rw [List.length_set, List.length_set]; exact r.len, fun j d' h => by
  by_cases hj : i = j
  · subst hj
    have hi : i < e.length := by
      have := (List.getElem?_eq_some_iff.mp h).1
      rwa [List.length_set] at this
    rw [List.getElem?_set_self hi] at h
    cases h
  · rw [List.getElem?_set_ne hj] at h ⊢
    exact r.at_ j d' h⟩
theorem EnR.wipe (r : EnR K H R e σ) : ∀ vs : List Nat, EnR K H R (wipeE e vs) (L2.wipe σ vs)
  | [] => r
  | v :: vs => (EnR.wipe r vs).out v
end

/-! ### what a denotation promises -/
section
variable (X : Cx)
def J (m : En → Hh → Option (D × Hh)) : TE := fun σ H Q => ∃ R h e d h', HRel X.w X.K R h H ∧ EnR X.K H R e σ ∧ m e h = some (d, h') ∧ Fin X.w X.K R H d h' Q
def JT (m : En → Hh → Option (Bool × Hh)) : TT := fun σ H Q => ∃ R h e b h', HRel X.w X.K R h H ∧ EnR X.K H R e σ ∧ m e h = some (b, h') ∧ ∀ R' H', Ext X.K R H R' H' → HRel X.w X.K R' h' H' → Q b H'
def JA (m : En → Hh → Option (List D × Hh)) : TA := fun σ H Q => ∃ R h e ds h', HRel X.w X.K R h H ∧ EnR X.K H R e σ ∧ m e h = some (ds, h') ∧ ∀ R' H' vs, Ext X.K R H R' H' → HRel X.w X.K R' h' H' → VRs X.K H' R' ds vs → Q vs H'
def FinS (R : List Addr) (H : Hp) (f : Fl) (h' : Hh) (D : Ends) : Prop := ∀ R' H', Ext X.K R H R' H' → HRel X.w X.K R' h' H' → match f with
  | .nx e' => ∀ σ', EnR X.K H' R' e' σ' → D.nx σ' H'
  | .brk e' => ∀ σ', EnR X.K H' R' e' σ' → D.bk σ' H'
  | .cnt e' => ∀ σ', EnR X.K H' R' e' σ' → D.ct σ' H'
  | .ret d => ∀ v, VR X.K H' R' d v → D.rt v H'
def JS (m : En → Hh → Option (Fl × Hh)) : TS := fun D σ H => ∃ R h e f h', HRel X.w X.K R h H ∧ EnR X.K H R e σ ∧ m e h = some (f, h') ∧ FinS X R H f h' D
end
section
variable {X : Cx} {R : List Addr} {h : Hh} {e : En} {σ : L2.St} {H : Hp}
/-- the first part of a reading -/
theorem J.step {β : Type} {m : En → Hh → Option (D × Hh)} {k : D → Hh → Option (β × Hh)} {r : β × Hh} {Q : VK} (hr : HRel X.w X.K R h H) (en : EnR X.K H R e σ) (eq : bindM (m e h) k = some r)
    (next : ∀ d h1 R1 H1 v, k d h1 = some r → Ext X.K R H R1 H1 → HRel X.w X.K R1 h1 H1 → EnR X.K H1 R1 e σ → VR X.K H1 R1 d v → Q v H1) : J X m σ H Q := by
  obtain ⟨d, h1, e1, e2⟩ := bindM_ok eq
  exact ⟨R, h, e, d, h1, hr, en, e1, fun R1 H1 v x hr1 v1 => next d h1 R1 H1 v e2 x hr1 (en.mono x) v1⟩
theorem JT.step {β : Type} {m : En → Hh → Option (Bool × Hh)} {k : Bool → Hh → Option (β × Hh)} {r : β × Hh} {Q : Bool → Hp → Prop} (hr : HRel X.w X.K R h H) (en : EnR X.K H R e σ) (eq : bindM (m e h) k = some r)
    (next : ∀ d h1 R1 H1, k d h1 = some r → Ext X.K R H R1 H1 → HRel X.w X.K R1 h1 H1 → EnR X.K H1 R1 e σ → Q d H1) : JT X m σ H Q := by
  obtain ⟨d, h1, e1, e2⟩ := bindM_ok eq
  exact ⟨R, h, e, d, h1, hr, en, e1, fun R1 H1 x hr1 => next d h1 R1 H1 e2 x hr1 (en.mono x)⟩
theorem JA.step {β : Type} {m : En → Hh → Option (List D × Hh)} {k : List D → Hh → Option (β × Hh)} {r : β × Hh} {Q : List V → Hp → Prop} (hr : HRel X.w X.K R h H) (en : EnR X.K H R e σ) (eq : bindM (m e h) k = some r)
    (next : ∀ d h1 R1 H1 v, k d h1 = some r → Ext X.K R H R1 H1 → HRel X.w X.K R1 h1 H1 → EnR X.K H1 R1 e σ → VRs X.K H1 R1 d v → Q v H1) : JA X m σ H Q := by
  obtain ⟨d, h1, e1, e2⟩ := bindM_ok eq
  exact ⟨R, h, e, d, h1, hr, en, e1, fun R1 H1 v x hr1 v1 => next d h1 R1 H1 v e2 x hr1 (en.mono x) v1⟩
end

/-! ### expressions -/
abbrev Mx := En → Hh → Option (D × Hh)
section
variable {X : Cx} {a b c : Expr} {es : List Expr} {ma mb mc : Mx} {ms : En → Hh → Option (List D × Hh)} {pos : Pos}
theorem j_var {i : Nat} {x : Str} (hN : X.N[i]? = some x) (hv : Vis X.env.scope x) (hd : (x == ("__debug__" : Str)) = false) (hcd : (x == ("__classdict__" : Str)) = false) : PE X (.Name x pos) (J X fun e h => getVar e i h) :=
  pe_imp (pe_var hN hv hd hcd) fun σ H Q ⟨R, h, e, d, h', hr, en, eq, q⟩ => by
    replace eq : getVar e i h = some (d, h') := eq
    unfold getVar at eq
    split at eq
    · rename_i d' hd'
      cases eq
      obtain ⟨v, h1, h2⟩ := en.at_ i d hd'
      exact ⟨v, h1, q.same hr h2⟩
    · cases eq
theorem j_cst {e : Expr} {d : D} {v : V} (h : PE X e (tC v)) (r : ∀ H R, VR X.K H R d v) : PE X e (J X fun _ h => some (d, h)) :=
  pe_imp h fun σ H Q ⟨R, h, e, d', h', hr, en, eq, q⟩ => by cases eq; exact q.same hr (r _ _)
theorem j_bin {o : Operator} (ha : PE X a (J X ma)) (hb : PE X b (J X mb)) : PE X (.BinOp a o b pos) (J X fun e h => bindM (ma e h) fun x h1 => bindM (mb e h1) fun y h2 => binD o x y h2) :=
  pe_imp (pe_op (op_bin o) ha hb) fun σ H Q ⟨R, h, e, d, h', hr, en, eq, q⟩ => J.step hr en eq fun d1 h1 R1 H1 v e1 x1 hr1 en1 v1 =>
    J.step hr1 en1 e1 fun d2 h2 R2 H2 u e2 x2 hr2 en2 v2 => ⟨R2, h2, d1, d2, hr2, v1.mono x2, v2, d, h', e2, q.ext (x1.trans x2)⟩
theorem j_neg (ha : PE X a (J X ma)) : PE X (.UnaryOp .USub a pos) (J X fun e h => bindM (ma e h) fun x h1 => (match x with | .int i => some (.int (-i), h1) | _ => none)) :=
  pe_imp (pe_un un_neg ha) fun σ H Q ⟨R, h, e, d, h', hr, en, eq, q⟩ => J.step hr en eq fun d1 h1 R1 H1 v e1 x1 hr1 en1 v1 => by
    cases d1 <;> simp only at e1 <;> (first | (cases e1; done) | skip)
    cases e1
    exact ⟨_, v1, (q.ext x1).same hr1 rfl⟩
theorem j_not (hu : X.A.units + 64 < cLine) (ha : PE X a (J X ma)) : PE X (.UnaryOp .Not a pos) (J X fun e h => bindM (ma e h) fun x h1 => opt h1 ((isTrueD h1 x).map fun b => .bl (!b))) :=
  ⟨fun pins s σ H Q I ⟨R, h, e, d, h', hr, en, eq, q⟩ => by
    refine UnaryOp_ (thn (ha.run pins s σ H (fun v H1 => ∃ d1 h1 R1, opt h1 ((isTrueD h1 d1).map fun b => D.bl (!b)) = some (d, h') ∧ Ext X.K R H R1 H1 ∧ HRel X.w X.K R1 h1 H1 ∧ VR X.K H1 R1 d1 v) I
      (J.step hr en eq fun d1 h1 R1 H1 v e1 x1 hr1 en1 v1 => ⟨d1, h1, R1, e1, x1, hr1, v1⟩)) fun u s1 ⟨x, H1, I1, r1, d1, h1, R1, e1, x1, hr1, v1⟩ => ?_)
    cases z : isTrueD h1 d1 with
    | none => rw [z] at e1; cases e1
    | some k =>
      rw [z] at e1
      obtain ⟨a1, a2⟩ : D.bl (!k) = d ∧ h1 = h' := by cases e1; exact ⟨rfl, rfl⟩
      subst a1; subst a2
      exact not_of (thn (op_tru hu pins s1 σ H1 x u R1 h1 d1 k (fun c H2 => Q (.bl (!c)) H2) I1 r1 hr1 v1 z ((q.ext x1).same hr1 rfl)) fun c s2 ⟨H2, I2, q2⟩ => ⟨.bl (!c), H2, I2, rfl, q2⟩)⟩
theorem j_and {rest : List Expr} (hu : X.A.units + 64 < cLine) (ha : PE X a (J X ma)) (hb : PE X (.BoolOp .And (b :: rest) pos) (J X mb)) : PE X (.BoolOp .And (a :: b :: rest) pos) (J X fun e h => bindM (ma e h) fun x h1 => (match isTrueD h1 x with
    | none => none
    | some true => mb e h1
    | some false => some (x, h1))) :=
  ⟨fun pins s σ H Q I ⟨R, h, e, d, h', hr, en, eq, q⟩ => by
    refine BoolOp_and (thn (ha.run pins s σ H (fun v H1 => ∃ d1 h1 R1, (match isTrueD h1 d1 with
      | none => none
      | some true => mb e h1
      | some false => some (d1, h1)) = some (d, h') ∧ Ext X.K R H R1 H1 ∧ HRel X.w X.K R1 h1 H1 ∧ EnR X.K H1 R1 e σ ∧ VR X.K H1 R1 d1 v) I
      (J.step hr en eq fun d1 h1 R1 H1 v e1 x1 hr1 en1 v1 => ⟨d1, h1, R1, e1, x1, hr1, en1, v1⟩)) fun u s1 ⟨x, H1, I1, r1, d1, h1, R1, e1, x1, hr1, en1, v1⟩ => ?_)
    cases z : isTrueD h1 d1 with
    | none => rw [z] at e1; cases e1
    | some k =>
      rw [z] at e1
      refine thn (op_tru hu pins s1 σ H1 x u R1 h1 d1 k (fun c H2 => c = k ∧ H2 = H1) I1 r1 hr1 v1 z ⟨rfl, rfl⟩) fun c s2 ⟨H2, I2, e2, e3⟩ => ?_
      subst e2; subst e3
      cases c with
      | true => exact hb.run pins s2 σ H2 Q I2 ⟨R1, h1, e, d, h', hr1, en1, e1, q.ext x1⟩
      | false =>
        cases e1
        exact ⟨x, H2, I2, r1, (q.ext x1).same hr1 v1⟩⟩
theorem j_or {rest : List Expr} (hu : X.A.units + 64 < cLine) (ha : PE X a (J X ma)) (hb : PE X (.BoolOp .Or (b :: rest) pos) (J X mb)) : PE X (.BoolOp .Or (a :: b :: rest) pos) (J X fun e h => bindM (ma e h) fun x h1 => (match isTrueD h1 x with
    | none => none
    | some true => some (x, h1)
    | some false => mb e h1)) :=
  ⟨fun pins s σ H Q I ⟨R, h, e, d, h', hr, en, eq, q⟩ => by
    refine BoolOp_or (thn (ha.run pins s σ H (fun v H1 => ∃ d1 h1 R1, (match isTrueD h1 d1 with
      | none => none
      | some true => some (d1, h1)
      | some false => mb e h1) = some (d, h') ∧ Ext X.K R H R1 H1 ∧ HRel X.w X.K R1 h1 H1 ∧ EnR X.K H1 R1 e σ ∧ VR X.K H1 R1 d1 v) I
      (J.step hr en eq fun d1 h1 R1 H1 v e1 x1 hr1 en1 v1 => ⟨d1, h1, R1, e1, x1, hr1, en1, v1⟩)) fun u s1 ⟨x, H1, I1, r1, d1, h1, R1, e1, x1, hr1, en1, v1⟩ => ?_)
    cases z : isTrueD h1 d1 with
    | none => rw [z] at e1; cases e1
    | some k =>
      rw [z] at e1
      refine thn (op_tru hu pins s1 σ H1 x u R1 h1 d1 k (fun c H2 => c = k ∧ H2 = H1) I1 r1 hr1 v1 z ⟨rfl, rfl⟩) fun c s2 ⟨H2, I2, e2, e3⟩ => ?_
      subst e2; subst e3
      cases c with
      | false => exact hb.run pins s2 σ H2 Q I2 ⟨R1, h1, e, d, h', hr1, en1, e1, q.ext x1⟩
      | true =>
        cases e1
        exact ⟨x, H2, I2, r1, (q.ext x1).same hr1 v1⟩⟩
theorem opt_ok {α : Type} {h h' : Hh} {o : Option α} {d : α} (e : opt h o = some (d, h')) : o = some d ∧ h' = h := by
  cases o with
  | none => cases e
  | some b => cases e; exact ⟨rfl, rfl⟩
theorem j_cmp {o : CmpOp} (hu : X.A.units + 64 < cLine) (ha : PE X a (J X ma)) (hb : PE X b (J X mb)) (hm : behindInMarks o b = false) : PE X (.Compare a [o] [b] pos) (J X fun e h => bindM (ma e h) fun x h1 => bindM (mb e h1) fun y h2 => opt h2 ((cmpD o x y h2).map .bl)) :=
  pe_imp (pe_cmpR (op_cmp o hu) ha hb hm) fun σ H Q ⟨R, h, e, d, h', hr, en, eq, q⟩ => J.step hr en eq fun d1 h1 R1 H1 v e1 x1 hr1 en1 v1 =>
    J.step hr1 en1 e1 fun d2 h2 R2 H2 u e2 x2 hr2 en2 v2 => by
      obtain ⟨z, rfl⟩ := opt_ok e2
      cases k : cmpD o d1 d2 h' with
      | none => rw [k] at z; cases z
      | some t =>
        rw [k] at z; cases z
        exact ⟨R2, h', d1, d2, hr2, v1.mono x2, v2, t, k, (q.ext (x1.trans x2)).same hr2 rfl⟩
/-- a comparison as a test -/
theorem jt_cmp {o : CmpOp} (hu : X.A.units + 64 < cLine) (ha : PE X a (J X ma)) (hb : PE X b (J X mb)) (hm : behindInMarks o b = false) : PT X (.Compare a [o] [b] pos) (JT X fun e h => bindM (ma e h) fun x h1 => bindM (mb e h1) fun y h2 => opt h2 (cmpD o x y h2)) :=
  pt_imp (pt_cmpR (op_cmp o hu) ha hb hm) fun σ H Q ⟨R, h, e, d, h', hr, en, eq, q⟩ =>
    J.step hr en eq fun d1 h1 R1 H1 v e1 x1 hr1 en1 v1 =>
      J.step hr1 en1 e1 fun d2 h2 R2 H2 u e2 x2 hr2 en2 v2 => by
        obtain ⟨z, a0⟩ := opt_ok e2
        subst a0
        exact ⟨R2, h', d1, d2, hr2, v1.mono x2, v2, d, z, d, rfl, q R2 H2 (x1.trans x2) hr2⟩
def chainD (o p : CmpOp) (ma mb mc : Mx) : Mx := fun e h => bindM (ma e h) fun x h1 => bindM (mb e h1) fun y h2 => (match cmpD o x y h2 with
    | none => none
    | some false => some (.bl false, h2)
    | some true => bindM (mc e h2) fun z h3 => opt h3 ((cmpD p y z h3).map .bl))
theorem chain_ok {o p : CmpOp} {σ : L2.St} {H : Hp} {Q : VK} {R : List Addr} {h : Hh} {e : En} {d : D} {h' : Hh} (hr : HRel X.w X.K R h H) (en : EnR X.K H R e σ) (eq : chainD o p ma mb mc e h = some (d, h'))
    (q : ∀ t R' H', d = .bl t → Ext X.K R H R' H' → HRel X.w X.K R' h' H' → Q (.bl t) H') : tChain (rC X.w X.K (cmpD o)) (rC X.w X.K (cmpD p)) (J X ma) (J X mb) (J X mc) σ H Q := by
  unfold chainD at eq
  refine J.step hr en eq fun d1 h1 R1 H1 v e1 x1 hr1 en1 v1 => J.step hr1 en1 e1 fun d2 h2 R2 H2 u e2 x2 hr2 en2 v2 => ?_
  cases k : cmpD o d1 d2 h2 with
  | none => rw [k] at e2; cases e2
  | some t =>
    rw [k] at e2
    refine ⟨R2, h2, d1, d2, hr2, v1.mono x2, v2, t, k, t, rfl, ?_⟩
    cases t with
    | false =>
      cases e2
      exact q false R2 H2 rfl (x1.trans x2) hr2
    | true =>
      refine J.step hr2 en2 e2 fun d3 h3 R3 H3 y e3 x3 hr3 en3 v3 => ?_
      obtain ⟨z, rfl⟩ := opt_ok e3
      cases k3 : cmpD p d2 d3 h' with
      | none => rw [k3] at z; cases z
      | some t =>
        rw [k3] at z; cases z
        exact ⟨R3, h', d2, d3, hr3, v2.mono x3, v3, t, k3, q t R3 H3 rfl ((x1.trans x2).trans x3) hr3⟩
theorem j_chn {o p : CmpOp} (hu : X.A.units + 64 < cLine) (ha : PE X a (J X ma)) (hb : PE X b (J X mb)) (hc : PE X c (J X mc)) (hm : lastMarks [o, p] [b, c] = false) : PE X (.Compare a [o, p] [b, c] pos) (J X (chainD o p ma mb mc)) :=
  pe_imp (pe_chain (op_cmp o hu) (op_cmp p hu) ha hb hc hm) fun σ H Q ⟨R, h, e, d, h', hr, en, eq, q⟩ => chain_ok hr en eq fun t R' H' ed x hr' => by subst ed; exact q R' H' _ x hr' rfl
def chainB (o p : CmpOp) (ma mb mc : Mx) : En → Hh → Option (Bool × Hh) := fun e h => bindM (ma e h) fun x h1 => bindM (mb e h1) fun y h2 => (match cmpD o x y h2 with
    | none => none
    | some false => some (false, h2)
    | some true => bindM (mc e h2) fun z h3 => opt h3 (cmpD p y z h3))
theorem chain_b {o p : CmpOp} {e : En} {h h' : Hh} {b : Bool} (eq : chainB o p ma mb mc e h = some (b, h')) : chainD o p ma mb mc e h = some (.bl b, h') := by
  unfold chainB at eq
  unfold chainD
  obtain ⟨x, h1, e1, eq⟩ := bindM_ok eq
  obtain ⟨y, h2, e2, eq⟩ := bindM_ok eq
  rw [e1, bindM_some, e2, bindM_some]
  cases z : cmpD o x y h2 with
  | none => rw [z] at eq; cases eq
  | some t =>
    rw [z] at eq
    cases t with
    | false => cases eq; rfl
    | true =>
      obtain ⟨w, h3, e3, eq⟩ := bindM_ok eq
      obtain ⟨q, a0⟩ := opt_ok eq
      subst a0
      show bindM (mc e h2) _ = _
      rw [e3, bindM_some, q]
      rfl
theorem jt_chn {o p : CmpOp} (hu : X.A.units + 64 < cLine) (ha : PE X a (J X ma)) (hb : PE X b (J X mb)) (hc : PE X c (J X mc)) (hm : lastMarks [o, p] [b, c] = false) : PT X (.Compare a [o, p] [b, c] pos) (JT X (chainB o p ma mb mc)) :=
  pt_imp (pt_chain (op_cmp o hu) (op_cmp p hu) ha hb hc hm) fun σ H Q ⟨R, h, e, d, h', hr, en, eq, q⟩ => chain_ok hr en (chain_b eq) fun t R' H' ed x hr' => by
    have : d = t := by cases ed; rfl
    subst this
    exact ⟨d, rfl, q R' H' x hr'⟩
theorem j_ife {mt : En → Hh → Option (Bool × Hh)} (hc : PT X c (JT X mt)) (ha : PE X a (J X ma)) (hb : PE X b (J X mb)) : PE X (.IfExp c a b pos) (J X fun e h => bindM (mt e h) fun k h1 => if k = true then ma e h1 else mb e h1) :=
  pe_imp (pe_ifExp hc ha hb) fun σ H Q ⟨R, h, e, d, h', hr, en, eq, q⟩ => JT.step hr en eq fun k h1 R1 H1 e1 x1 hr1 en1 => by
    cases k with
    | true => exact ⟨R1, h1, e, d, h', hr1, en1, e1, q.ext x1⟩
    | false => exact ⟨R1, h1, e, d, h', hr1, en1, e1, q.ext x1⟩
/-- any value as a test -/
theorem jt_val (hu : X.A.units + 64 < cLine) (ha : PE X a (J X ma)) (he : ∀ whole, isTrue a X.env whole = (do let v ← whole; standAt a.pos; holding [v] (truthy v))) : PT X a (JT X fun e h => bindM (ma e h) fun d h1 => opt h1 (isTrueD h1 d)) :=
  ⟨fun pins s σ H Q I ⟨R, h, e, d, h', hr, en, eq, q⟩ => by
    refine isTrue_plain (thn (ha.run pins s σ H (fun v H1 => ∃ d1 h1 R1, opt h1 (isTrueD h1 d1) = some (d, h') ∧ Ext X.K R H R1 H1 ∧ HRel X.w X.K R1 h1 H1 ∧ VR X.K H1 R1 d1 v) I
      (J.step hr en eq fun d1 h1 R1 H1 v e1 x1 hr1 en1 v1 => ⟨d1, h1, R1, e1, x1, hr1, v1⟩)) fun u s1 ⟨x, H1, I1, r1, d1, h1, R1, e1, x1, hr1, v1⟩ => ?_) (he _)
    obtain ⟨z, rfl⟩ := opt_ok e1
    exact op_tru hu pins s1 σ H1 x u R1 h' d1 d Q I1 r1 hr1 v1 z (q R1 H1 x1 hr1)⟩
/-! tests -/
variable {mt mu : En → Hh → Option (Bool × Hh)}
theorem jt_not (hc : PT X c (JT X mt)) : PT X (.UnaryOp .Not c pos) (JT X fun e h => bindM (mt e h) fun b h1 => some (!b, h1)) :=
  pt_imp (pt_not hc) fun σ H Q ⟨R, h, e, d, h', hr, en, eq, q⟩ => JT.step hr en eq fun k h1 R1 H1 e1 x1 hr1 en1 => by cases e1; exact q R1 H1 x1 hr1
theorem jw_and {rest : List Expr} (ha : PT X a (JT X mt)) (hb : PW X (.BoolOp .And (b :: rest) pos) (JT X mu)) : PW X (.BoolOp .And (a :: b :: rest) pos) (JT X fun e h => bindM (mt e h) fun c h1 => if c = true then mu e h1 else some (false, h1)) :=
  pw_imp (pw_and ha hb) fun σ H Q ⟨R, h, e, d, h', hr, en, eq, q⟩ => JT.step hr en eq fun k h1 R1 H1 e1 x1 hr1 en1 => by
    cases k with
    | true => exact ⟨R1, h1, e, d, h', hr1, en1, e1, fun R' H' x' => q R' H' (x1.trans x')⟩
    | false => cases e1; exact q R1 H1 x1 hr1
theorem jw_or {rest : List Expr} (ha : PT X a (JT X mt)) (hb : PW X (.BoolOp .Or (b :: rest) pos) (JT X mu)) : PW X (.BoolOp .Or (a :: b :: rest) pos) (JT X fun e h => bindM (mt e h) fun c h1 => if c = true then some (true, h1) else mu e h1) :=
  pw_imp (pw_or ha hb) fun σ H Q ⟨R, h, e, d, h', hr, en, eq, q⟩ => JT.step hr en eq fun k h1 R1 H1 e1 x1 hr1 en1 => by
    cases k with
    | false => exact ⟨R1, h1, e, d, h', hr1, en1, e1, fun R' H' x' => q R' H' (x1.trans x')⟩
    | true => cases e1; exact q R1 H1 x1 hr1
/-! lists of expressions -/
theorem ja_nil : PA X [] (JA X fun _ h => some ([], h)) := pa_imp pa_nil fun σ H Q ⟨R, h, e, d, h', hr, en, eq, q⟩ => by cases eq; exact q R H [] Ext.refl hr .nil
theorem ja_cons (ha : PE X a (J X ma)) (hr : PA X es (JA X ms)) (hs : starEach (a :: es) X.env = (false, eval a X.env) :: starEach es X.env) : PA X (a :: es) (JA X fun e h => bindM (ma e h) fun x h1 => bindM (ms e h1) fun xs h2 => some (x :: xs, h2)) :=
  pa_imp (pa_cons ha hr hs) fun σ H Q ⟨R, h, e, d, h', hr, en, eq, q⟩ => J.step hr en eq fun d1 h1 R1 H1 v e1 x1 hr1 en1 v1 => JA.step hr1 en1 e1 fun d2 h2 R2 H2 u e2 x2 hr2 en2 v2 => by
    cases e2
    exact q R2 H2 (v :: u) (x1.trans x2) hr2 (.cons (v1.mono x2) v2)
theorem j_tup {k : Nat} (hs : PA X es (JA X ms)) : PE X (.Tuple es k pos) (J X fun e h => bindM (ms e h) fun xs h1 => newT xs h1) :=
  pe_imp (pe_tup hs) fun σ H Q ⟨R, h, e, d, h', hr, en, eq, q⟩ => JA.step hr en eq fun d1 h1 R1 H1 v e1 x1 hr1 en1 v1 => by
    obtain ⟨hz, rfl, rfl⟩ := tup_of (w := X.w) (K := X.K) (H := H) (R := R) e1
    exact ⟨by rw [v1.len]; exact hz, fun p hp => (q.ext x1).tup hr1 v1 hp⟩
theorem j_lst (hs : PA X es (JA X ms)) : PE X (.List es pos) (J X fun e h => bindM (ms e h) fun xs h1 => newL xs h1) :=
  pe_imp (pe_lst hs) fun σ H Q ⟨R, h, e, d, h', hr, en, eq, q⟩ => JA.step hr en eq fun d1 h1 R1 H1 v e1 x1 hr1 en1 v1 => by
    obtain ⟨hz, rfl, rfl⟩ := lst_of e1
    exact ⟨by rw [v1.len]; exact hz, fun p hp => (q.ext x1).lst hr1 v1 hp⟩
/-! subscripts -/
theorem j_idx (hu : X.A.units + 64 < cLine) (ha : PE X a (J X ma)) (hb : PE X b (J X mb)) (hs : PlainIx b) : PE X (.Subscript a b pos) (J X fun e h => bindM (ma e h) fun x h1 => bindM (mb e h1) fun y h2 => opt h2 (idxD x y h2)) :=
  pe_imp (pe_ix (op_idx hu) ha hb hs) fun σ H Q ⟨R, h, e, d, h', hr, en, eq, q⟩ => J.step hr en eq fun d1 h1 R1 H1 v e1 x1 hr1 en1 v1 =>
    J.step hr1 en1 e1 fun d2 h2 R2 H2 u e2 x2 hr2 en2 v2 => by
      obtain ⟨z, rfl⟩ := opt_ok e2
      exact ⟨R2, h', d1, d2, hr2, v1.mono x2, v2, d, z, fun w vw => (q.ext (x1.trans x2)).same hr2 vw⟩
/-- a bound of a slice -/
def JO (X : Cx) (m : En → Hh → Option (List D × Hh)) : TO := fun σ H Q => ∃ R h e ds h', HRel X.w X.K R h H ∧ EnR X.K H R e σ ∧ m e h = some (ds, h') ∧ (ds = [] ∨ ∃ i, ds = [.int i]) ∧ ∀ R' H', Ext X.K R H R' H' → HRel X.w X.K R' h' H' →
  (ds = [] → Q none H') ∧ ∀ i, ds = [.int i] → Q (some i) H'
theorem po_imp {o : Option Expr} {t t' : TO} (h : PO X o t) (i : ∀ σ H Q, t' σ H Q → t σ H Q) : PO X o t' := ⟨fun pins s σ H Q I w => h.run pins s σ H Q I (i σ H Q w)⟩
theorem jo_none : PO X none (JO X fun _ h => some ([], h)) := po_imp po_none fun σ H Q ⟨R, h, e, ds, h', hr, en, eq, _, q⟩ => by cases eq; exact (q R H Ext.refl hr).1 rfl
theorem jo_some (ha : PE X a (J X ma)) : PO X (some a) (JO X fun e h => bindM (ma e h) fun x h1 => some ([x], h1)) := po_imp (po_some ha) fun σ H Q ⟨R, h, e, ds, h', hr, en, eq, hd, q⟩ => J.step hr en eq fun d1 h1 R1 H1 v e1 x1 hr1 en1 v1 => by
  cases e1
  rcases hd with hd | ⟨i, hd⟩
  · cases hd
  · cases hd
    exact ⟨i, v1, (q R1 H1 x1 hr1).2 i rfl⟩
def slcM (ma : Mx) (ml mh : En → Hh → Option (List D × Hh)) : Mx := fun e h => bindM (ma e h) fun x h1 => bindM (ml e h1) fun l h2 => bindM (mh e h2) fun u h3 =>
      (match l, u with
      | [], [] => slcD x none none h3
      | [.int i], [] => slcD x (some i) none h3
      | [], [.int j] => slcD x none (some j) h3
      | [.int i], [.int j] => slcD x (some i) (some j) h3
      | _, _ => none)
theorem j_slc {lo hi : Option Expr} {ml mh : En → Hh → Option (List D × Hh)} {p2 : Pos} (ha : PE X a (J X ma)) (hl : PO X lo (JO X ml)) (hh : PO X hi (JO X mh)) : PE X (.Subscript a (.Slice lo hi none p2) pos) (J X (slcM ma ml mh)) :=
  pe_imp (pe_slice op_slc ha hl hh) fun σ H Q ⟨R, h, e, d, h', hr, en, eq, q⟩ => J.step hr en eq fun d1 h1 R1 H1 v e1 x1 hr1 en1 v1 => by
    obtain ⟨l, h2, e2, e3⟩ := bindM_ok e1
    obtain ⟨u, h3, e4, e5⟩ := bindM_ok e3
    have hl' : l = [] ∨ ∃ i, l = [.int i] := by
      split at e5
      · exact .inl rfl
      · exact .inr ⟨_, rfl⟩
      · exact .inl rfl
      · exact .inr ⟨_, rfl⟩
      · cases e5
    have hu' : u = [] ∨ ∃ i, u = [.int i] := by
      split at e5
      · exact .inl rfl
      · exact .inl rfl
      · exact .inr ⟨_, rfl⟩
      · exact .inr ⟨_, rfl⟩
      · cases e5
    refine ⟨R1, h1, e, l, h2, hr1, en1, e2, hl', fun R2 H2 x2 hr2 => ⟨fun el => ?_, fun i el => ?_⟩⟩
    · refine ⟨R2, h2, e, u, h3, hr2, en1.mono x2, e4, hu', fun R3 H3 x3 hr3 => ⟨fun eu => ?_, fun j eu => ?_⟩⟩
      · subst el; subst eu; exact ⟨R3, h3, d1, hr3, (v1.mono x2).mono x3, d, h', e5, q.ext ((x1.trans x2).trans x3)⟩
      · subst el; subst eu; exact ⟨R3, h3, d1, hr3, (v1.mono x2).mono x3, d, h', e5, q.ext ((x1.trans x2).trans x3)⟩
    · refine ⟨R2, h2, e, u, h3, hr2, en1.mono x2, e4, hu', fun R3 H3 x3 hr3 => ⟨fun eu => ?_, fun j eu => ?_⟩⟩
      · subst el; subst eu; exact ⟨R3, h3, d1, hr3, (v1.mono x2).mono x3, d, h', e5, q.ext ((x1.trans x2).trans x3)⟩
      · subst el; subst eu; exact ⟨R3, h3, d1, hr3, (v1.mono x2).mono x3, d, h', e5, q.ext ((x1.trans x2).trans x3)⟩
end
end Z
set_option Elab.async false
set_option linter.all false
set_option autoImplicit false
set_option maxRecDepth 100000
set_option maxHeartbeats 4000000
namespace Z
open PySem L2 PyProof.Rows

/-! ### targets -/
def Tg.ixs : Tg → List Nat
  | .nm i => [i]
  | .tp is => is
/-- only these places changed -/
def OnlyAt (is : List Nat) (σ σ' : L2.St) : Prop := σ'.length = σ.length ∧ ∀ j, j ∉ is → σ'[j]? = σ[j]?
theorem OnlyAt.refl {is : List Nat} {σ : L2.St} : OnlyAt is σ σ := ⟨rfl, fun _ _ => rfl⟩
theorem OnlyAt.set {is : List Nat} {σ σ' : L2.St} {i : Nat} {x : Option V} (h : OnlyAt is (σ.set i x) σ') : OnlyAt (i :: is) σ σ' := ⟨by rw [h.1, List.length_set], fun j hj => by
  rw [List.mem_cons, not_or] at hj
  rw [h.2 j hj.2, List.getElem?_set_ne (Ne.symm hj.1)]⟩
theorem wipe_get {σ : L2.St} {j : Nat} : ∀ {vs : List Nat}, (L2.wipe σ vs)[j]? = if j ∈ vs ∧ j < σ.length then some none else σ[j]?
  | [] => by simp [L2.wipe]
  | v :: vs => by
    unfold L2.wipe
    by_cases h : v = j
    · subst h
      by_cases hl : v < σ.length
      · rw [List.getElem?_set_self (by rw [wipe_length]; exact hl), if_pos ⟨by simp, hl⟩]
      · rw [List.getElem?_eq_none (by rw [List.length_set, wipe_length]; omega), if_neg (by omega), List.getElem?_eq_none (by omega)]
    · rw [List.getElem?_set_ne h, wipe_get]
      by_cases h2 : j ∈ vs ∧ j < σ.length
      · rw [if_pos h2, if_pos ⟨by simp [h2.1], h2.2⟩]
      · rw [if_neg h2, if_neg]
        intro ⟨a, b⟩
        rw [List.mem_cons] at a
        rcases a with a | a
        · exact h a.symm
        · exact h2 ⟨a, b⟩
theorem OnlyAt.wipe {is vs : List Nat} {σ σ' : L2.St} (o : OnlyAt is (L2.wipe σ vs) σ') (h : ∀ i ∈ is, i ∈ vs) : L2.wipe σ' vs = L2.wipe σ vs := by
  apply List.ext_getElem?
  intro j
  rw [wipe_get, wipe_get, o.1, wipe_length]
  by_cases hj : j ∈ vs ∧ j < σ.length
  · rw [if_pos hj, if_pos hj]
  · rw [if_neg hj, if_neg hj]
    by_cases hi : j ∈ is
    · have : ¬ j < σ.length := fun l => hj ⟨h j hi, l⟩
      rw [List.getElem?_eq_none (by rw [o.1, wipe_length]; omega), List.getElem?_eq_none (by omega)]
    · rw [o.2 j hi, wipe_get, if_neg hj]
section
variable (X : Cx)
def JG (t : Tg) : TG := fun v σ H Q => ∃ R h e d e', HRel X.w X.K R h H ∧ EnR X.K H R e σ ∧ VR X.K H R d v ∧ assignD t d e = some e' ∧ ∀ σ', EnR X.K H R e' σ' → OnlyAt t.ixs σ σ' → Q σ' H
def JGs (is : List Nat) : TGs := fun vs σ H Q => ∃ R h e ds e', HRel X.w X.K R h H ∧ EnR X.K H R e σ ∧ VRs X.K H R ds vs ∧ sets is ds e = some e' ∧ ∀ σ', EnR X.K H R e' σ' → OnlyAt is σ σ' → Q σ' H
end
section
variable {X : Cx} {e : Expr} {es : List Expr} {pos : Pos}
theorem pg_imp {t t' : TG} (h : PG X e t) (i : ∀ v σ H Q, t' v σ H Q → t v σ H Q) : PG X e t' := ⟨fun pins s σ H v u Q I r w => h.run pins s σ H v u Q I r (i v σ H Q w)⟩
theorem pgs_imp {t t' : TGs} (h : PGs X es t) (i : ∀ v σ H Q, t' v σ H Q → t v σ H Q) : PGs X es t' := ⟨fun pins s σ H v u Q I r w => h.run pins s σ H v u Q I r (i v σ H Q w)⟩
theorem jg_name {i : Nat} {x : Str} (hN : X.N.Nodup) (hi : X.N[i]? = some x) (hx : Loc X.env.scope x) (hf : X.fn x = true ∨ X.env.scope.names.lookup x = some .local) : PG X (.Name x pos) (JG X (.nm i)) :=
  pg_imp (pg_name hN hi hx hf) fun v σ H Q ⟨R, h, e, d, e', hr, en, vr, eq, q⟩ => by
    simp only [assignD] at eq
    cases eq
    exact q _ (en.set vr i) (OnlyAt.set OnlyAt.refl)
theorem jgs_nil : PGs X [] (JGs X []) := pgs_imp pgs_nil fun v σ H Q ⟨R, h, e, ds, e', hr, en, vr, eq, q⟩ => by
  cases ds with
  | nil => simp only [sets] at eq; cases eq; exact ⟨vr, q σ en OnlyAt.refl⟩
  | cons a b => simp only [sets] at eq; cases eq
theorem jgs_cons {i : Nat} {is : List Nat} {x : Str} (hN : X.N.Nodup) (hi : X.N[i]? = some x) (hx : Loc X.env.scope x) (hf : X.fn x = true ∨ X.env.scope.names.lookup x = some .local) (h : PGs X es (JGs X is)) : PGs X (.Name x pos :: es) (JGs X (i :: is)) :=
  pgs_imp (pgs_cons (pg_name hN hi hx hf) h rfl) fun v σ H Q ⟨R, h, e, ds, e', hr, en, vr, eq, q⟩ => by
    cases ds with
    | nil => simp only [sets] at eq; cases eq
    | cons d ds =>
      obtain ⟨u, r, rfl, r1, r2⟩ := vr
      exact ⟨u, r, rfl, R, h, _, ds, e', hr, en.set r1 i, r2, eq, fun σ' en' o => q σ' en' o.set⟩
theorem sets_len : ∀ {is : List Nat} {ds : List D} {e e' : En}, sets is ds e = some e' → ds.length = is.length
  | [], [], _, _, _ => rfl
  | [], _ :: _, _, _, h => by simp only [sets] at h; cases h
  | _ :: _, [], _, _, h => by simp only [sets] at h; cases h
  | i :: is, d :: ds, e, e', h => by simp only [sets] at h; rw [List.length_cons, List.length_cons, sets_len h]
theorem jg_tup {k : Nat} {is : List Nat} (hc : X.calm = true) (h : PGs X es (JGs X is)) (hn : (assignEach es X.env).length = is.length) (hst : (assignEach es X.env).findIdx? (·.1) = none) : PG X (.Tuple es k pos) (JG X (.tp is)) :=
  pg_imp (pg_tup hc h hn hst) fun v σ H Q ⟨R, h, e, d, e', hr, en, vr, eq, q⟩ => by
    cases d with
    | tup ds =>
      simp only [assignD] at eq
      obtain ⟨a, vs, rfl, ha, r1⟩ := vr
      exact ⟨a, vs, rfl, ha, by rw [r1.len]; exact sets_len eq, R, h, e, ds, e', hr, en, r1, eq, q⟩
    | _ => simp only [assignD] at eq; cases eq
end

/-! ### walks -/
structure ItOk (w : World) (K : PySem.W.Frag) (R0 : List Addr) (H0 : Hp) (sv : Sv) (Jt : It) : Prop where
  stop : ∀ R h H i, Ext K R0 H0 R H → HRel w K R h H → sv.at h i = some none → Jt.stop i H
  go : ∀ R h H i x, Ext K R0 H0 R H → HRel w K R h H → sv.at h i = some (some x) → Jt.go i H
  yld : ∀ R h H i x y H', Ext K R0 H0 R H → HRel w K R h H → sv.at h i = some (some x) → Jt.yld i H y H' → Ext K R H R H' ∧ HRel w K R h H' ∧ VR K H' R x y
def JI (X : Cx) (m : En → Hh → Option (Sv × Hh)) : TI := fun σ H Rf => ∃ R h e sv h', HRel X.w X.K R h H ∧ EnR X.K H R e σ ∧ m e h = some (sv, h') ∧ ∀ R' H' Jt, Ext X.K R H R' H' → HRel X.w X.K R' h' H' → ItOk X.w X.K R' H' sv Jt → Rf Jt H'
section
variable {X : Cx}
theorem pi_imp {tg iter : Expr} {t t' : TI} (h : PI X tg iter t) (i : ∀ σ H Q, t' σ H Q → t σ H Q) : PI X tg iter t' := ⟨fun pins s σ H R I w => h.run pins s σ H R I (i σ H R w)⟩
theorem FinS.ext {R R1 : List Addr} {H H1 : Hp} {f : Fl} {h' : Hh} {D : Ends} (q : FinS X R H f h' D) (x : Ext X.K R H R1 H1) : FinS X R1 H1 f h' D := fun R' H' x' hr => q R' H' (x.trans x') hr
theorem FinS.nx {R : List Addr} {H : Hp} {e : En} {σ : L2.St} {h : Hh} {D : Ends} (q : FinS X R H (.nx e) h D) (hr : HRel X.w X.K R h H) (en : EnR X.K H R e σ) : D.nx σ H := q R H Ext.refl hr σ en
end

/-! ### statements -/
section
variable {X : Cx} {a i e c : Expr} {es : List Expr} {ma mi me : Mx} {pos : Pos} {st : Stmt} {sts : List Stmt} {m k : En → Hh → Option (Fl × Hh)}
theorem jss_nil : PSs X [] (JS X fun e h => some (.nx e, h)) := pss_imp pss_nil fun D σ H ⟨R, h, e, f, h', hr, en, eq, q⟩ => by cases eq; exact q.nx hr en
theorem jss_cons (h1 : PS X st (JS X m)) (h2 : PSs X sts (JS X k)) : PSs X (st :: sts) (JS X (seqI m k)) := pss_imp (pss_cons h1 h2) fun D σ H ⟨R, h, e, f, h', hr, en, eq, q⟩ => by
  unfold seqI at eq
  obtain ⟨r, h1, e1, e2⟩ := bindM_ok eq
  refine ⟨R, h, e, r, h1, hr, en, e1, fun R1 H1 x1 hr1 => ?_⟩
  cases r with
  | nx e' => exact fun σ' en' => ⟨R1, h1, e', f, h', hr1, en', e2, q.ext x1⟩
  | brk e' => cases e2; exact q R1 H1 x1 hr1
  | cnt e' => cases e2; exact q R1 H1 x1 hr1
  | ret d => cases e2; exact q R1 H1 x1 hr1
theorem js_pas : PS X (.Pass pos) (JS X fun e h => some (.nx e, h)) := ps_imp ps_pass fun D σ H ⟨R, h, e, f, h', hr, en, eq, q⟩ => by cases eq; exact q.nx hr en
theorem js_brk : PS X (.Break pos) (JS X fun e h => some (.brk e, h)) := ps_imp ps_break fun D σ H ⟨R, h, e, f, h', hr, en, eq, q⟩ => by cases eq; exact q R H Ext.refl hr σ en
theorem js_cnt : PS X (.Continue pos) (JS X fun e h => some (.cnt e, h)) := ps_imp ps_continue fun D σ H ⟨R, h, e, f, h', hr, en, eq, q⟩ => by cases eq; exact q R H Ext.refl hr σ en
theorem js_ret (he : PE X e (J X me)) : PS X (.Return (some e) pos) (JS X fun e h => bindM (me e h) fun d h1 => some (.ret d, h1)) :=
  ps_imp (ps_ret he) fun D σ H ⟨R, h, e, f, h', hr, en, eq, q⟩ => J.step hr en eq fun d1 h1 R1 H1 v e1 x1 hr1 en1 v1 => by cases e1; exact q R1 H1 x1 hr1 v v1
theorem js_retN : PS X (.Return none pos) (JS X fun e h => some (.ret .non, h)) :=
  ps_imp ps_retN fun D σ H ⟨R, h, e, f, h', hr, en, eq, q⟩ => by cases eq; exact q R H Ext.refl hr .non rfl
def plainV : Expr → Bool
  | .ListComp .. => false
  | .SetComp .. => false
  | .DictComp .. => false
  | _ => true
theorem swaps_plain {e : Expr} (h : plainV e = true) (t : Option Expr) (l : Nat) (env : Env) : swapsWith e t l env = pure false := by
  cases e <;> first | rfl | cases h
theorem js_ex (he : PE X e (J X me)) (hp : plainV e = true) : PS X (.Expr e pos) (JS X fun e h => bindM (me e h) fun _ h1 => some (.nx e, h1)) :=
  ps_imp (ps_expr he (swaps_plain hp _ _ _)) fun D σ H ⟨R, h, e, f, h', hr, en, eq, q⟩ => J.step hr en eq fun d1 h1 R1 H1 v e1 x1 hr1 en1 v1 => by cases e1; exact q R1 H1 x1 hr1 σ en1
theorem js_ifs {mt : En → Hh → Option (Bool × Hh)} {as bs : List Stmt} (hc : PT X c (JT X mt)) (ha : PSs X as (JS X m)) (hb : PSs X bs (JS X k)) : PS X (.If c as bs pos) (JS X fun e h => bindM (mt e h) fun b h1 => if b = true then m e h1 else k e h1) :=
  ps_imp (ps_if hc ha hb) fun D σ H ⟨R, h, e, f, h', hr, en, eq, q⟩ => JT.step hr en eq fun b h1 R1 H1 e1 x1 hr1 en1 => by
    cases b with
    | true => exact ⟨R1, h1, e, f, h', hr1, en1, e1, q.ext x1⟩
    | false => exact ⟨R1, h1, e, f, h', hr1, en1, e1, q.ext x1⟩
/-- name = value -/
theorem js_asg {i : Nat} {x : Str} {pos' : Pos} (hN : X.N.Nodup) (hi : X.N[i]? = some x) (hx : Loc X.env.scope x) (hf : X.fn x = true ∨ X.env.scope.names.lookup x = some .local) (he : PE X e (J X me)) (hp : plainV e = true) :
    PS X (.Assign [.Name x pos'] e pos) (JS X fun e h => bindM (me e h) fun d h1 => opt h1 ((assignD (.nm i) d e).map .nx)) :=
  ps_imp (ps_set hN hi hx he (swaps_plain hp _ _ _) hf) fun D σ H ⟨R, h, e, f, h', hr, en, eq, q⟩ => J.step hr en eq fun d1 h1 R1 H1 v e1 x1 hr1 en1 v1 => by
    obtain ⟨z, a0⟩ := opt_ok e1
    subst a0
    have z' : f = .nx (e.set i (some d1)) := (Option.some.inj z).symm
    subst z'
    exact q R1 H1 x1 hr1 _ (en1.set v1 i)
/-- a tuple of names, a value that is no written tuple -/
theorem js_tup {is : List Nat} {k : Nat} {pos' : Pos} (he : PE X e (J X me)) (hg : PG X (.Tuple es k pos') (JG X (.tp is))) (hw : swappedStores [.Tuple es k pos'] e X.env = pure none) :
    PS X (.Assign [.Tuple es k pos'] e pos) (JS X fun e h => bindM (me e h) fun d h1 => opt h1 ((assignD (.tp is) d e).map .nx)) := by
  refine ps_imp (ps_asg he hg ?_ hw rfl) fun D σ H ⟨R, h, e, f, h', hr, en, eq, q⟩ => J.step hr en eq fun d1 h1 R1 H1 v e1 x1 hr1 en1 v1 => ?_
  · show swapsWith e (some (.Tuple es k pos')) pos.line X.env = pure false
    cases e <;> rfl
  · obtain ⟨z, a0⟩ := opt_ok e1
    subst a0
    cases y : assignD (.tp is) d1 e with
    | none => rw [y] at z; cases z
    | some e' =>
      rw [y] at z
      have z' : f = .nx e' := (Option.some.inj z).symm
      subst z'
      exact ⟨R1, _, e, d1, e', hr1, en1, v1, y, fun σ' en' _ => q R1 H1 x1 hr1 σ' en'⟩
def notSlc : Expr → Bool
  | .Slice .. => false
  | _ => true
/-- o[i] = value -/
theorem js_sub {pos' : Pos} (hu : X.A.units + 64 < cLine) (he : PE X e (J X me)) (ha : PE X a (J X ma)) (hi : PE X i (J X mi)) (hs : notSlc i = true) :
    PS X (.Assign [.Subscript a i pos'] e pos) (JS X fun e h => bindM (me e h) fun d h1 => bindM (ma e h1) fun y h2 => bindM (mi e h2) fun k h3 => (setD y k d h3).map fun h4 => (.nx e, h4)) := by
  refine ps_imp (ps_asg he (pg_sub ha hi (op_put hu) ?_) ?_ ?_ rfl) fun D σ H ⟨R, h, e, f, h', hr, en, eq, q⟩ => J.step hr en eq fun d1 h1 R1 H1 v e1 x1 hr1 en1 v1 => ?_
  · intro v
    cases i <;> first | rfl | cases hs
  · show swapsWith e (some (.Subscript a i pos')) pos.line X.env = pure false
    cases e <;> rfl
  · cases e <;> rfl
  · refine J.step hr1 en1 e1 fun d2 h2 R2 H2 o e2 x2 hr2 en2 v2 => J.step hr2 en2 e2 fun d3 h3 R3 H3 y e3 x3 hr3 en3 v3 => ?_
    cases z : setD d2 d3 d1 h3 with
    | none => rw [z] at e3; cases e3
    | some h4 =>
      rw [z] at e3; cases e3
      exact ⟨R3, h3, d2, d3, d1, hr3, v2.mono x3, v3, (v1.mono x2).mono x3, _, z, fun R' H' x' hr' => q R' H' (((x1.trans x2).trans x3).trans x') hr' σ (en3.mono x')⟩
theorem ip_aug {o : Operator} (ho : (o == .Add || o == .Sub) = true) : PIp X o (fun x y H Q => ∃ i j, x = .int i ∧ y = .int j ∧ ∃ z, augD o (.int i) (.int j) = some z ∧ ∀ v, (∀ K H R, VR K H R z v) → Q v H) := by
  cases o <;> first | (exfalso; revert ho; decide) | skip
  · exact fun pins s σ H x y v u Q I r1 r2 ⟨i, j, h1, h2, z, h3, h4⟩ => ip_add pins s σ H x y v u Q I r1 r2 ⟨i, j, h1, h2, h4 _ (by simp only [augD] at h3; cases h3; exact fun _ _ _ => rfl)⟩
  · exact fun pins s σ H x y v u Q I r1 r2 ⟨i, j, h1, h2, z, h3, h4⟩ => ip_sub pins s σ H x y v u Q I r1 r2 ⟨i, j, h1, h2, h4 _ (by simp only [augD] at h3; cases h3; exact fun _ _ _ => rfl)⟩
theorem aug_ints {o : Operator} {x y z : D} (e : augD o x y = some z) : ∃ i j, x = .int i ∧ y = .int j := by
  unfold augD at e
  split at e
  · exact ⟨_, _, rfl, rfl⟩
  · exact ⟨_, _, rfl, rfl⟩
  · cases e
theorem js_aug {i : Nat} {x : Str} {pos' : Pos} {o : Operator} (ho : (o == .Add || o == .Sub) = true) (hN : X.N.Nodup) (hi : X.N[i]? = some x) (hx : Loc X.env.scope x) (hf : X.fn x = true ∨ X.env.scope.names.lookup x = some .local) (he : PE X e (J X me)) :
    PS X (.AugAssign (.Name x pos') o e pos) (JS X fun e h => bindM (getVar e i h) fun y h1 => bindM (me e h1) fun z h2 => opt h2 ((augD o y z).map fun d => .nx (e.set i (some d)))) :=
  ps_imp (ps_aug hN hi hx he (ip_aug ho) hf) fun D σ H ⟨R, h, e, f, h', hr, en, eq, q⟩ => by
    obtain ⟨y, h0, e0, eq⟩ := bindM_ok eq
    unfold getVar at e0
    split at e0
    · rename_i d' hd'
      cases e0
      obtain ⟨v, k1, k2⟩ := en.at_ i y hd'
      refine ⟨v, k1, J.step hr en eq fun d1 h1 R1 H1 w e1 x1 hr1 en1 v1 => ?_⟩
      obtain ⟨z, a0⟩ := opt_ok e1
      subst a0
      cases zz : augD o y d1 with
      | none => rw [zz] at z; cases z
      | some dd =>
        rw [zz] at z
        obtain ⟨i1, j1, y1, y2⟩ := aug_ints zz
        subst y1; subst y2
        refine ⟨_, _, k2, v1, _, zz, fun v hv => ?_⟩
        have z' : f = .nx (e.set i (some dd)) := (Option.some.inj z).symm
        subst z'
        exact q R1 H1 x1 hr1 _ (en1.set (hv _ _ _) i)
    · cases e0
/-- for -/
theorem js_for {tg iter : Expr} {t : Tg} {mi : En → Hh → Option (Sv × Hh)} (hxe : X.xe = fun _ _ => False) (hc : X.calm = true) (hi : PI X tg iter (JI X mi)) (hg : PG X tg (JG X t)) (hb : PSs X sts (JS X m)) (hs : ∀ x, foldedSetIterable iter X.env x = pure x) :
    PS X (.For tg iter sts [] pos) (JS X fun e h => bindM (mi e h) fun sv h1 => forI (fun _ => m) t sv (sv.len h1 + 1) 0 e h1) := by
  refine ps_imp (ps_forE (by rw [hxe]; exact PassesOwn.never) hc hi hg hb pss_nil hs) fun D σ H ⟨R, h, e, f, h', hr, en, eq, q⟩ => ?_
  obtain ⟨sv, h1, e1, e2⟩ := bindM_ok eq
  refine ⟨R, h, e, sv, h1, hr, en, e1, fun R1 H1 Jt x1 hr1 it => ?_⟩
  refine ⟨fun i fu σ H => ∃ R h e, Ext X.K R1 H1 R H ∧ HRel X.w X.K R h H ∧ EnR X.K H R e σ ∧ ∃ f h', forI (fun _ => m) t sv fu i e h = some (f, h') ∧ FinS X R H f h' D, ⟨_, R1, h1, e, Ext.refl, hr1, en.mono x1, f, h', e2, q.ext x1⟩, ?_⟩
  rintro i fu σ H ⟨R, h, e, x, hr, en, f, h', eq, q⟩
  cases fu with
  | zero => simp only [forI] at eq; cases eq
  | succ fu =>
    unfold forI at eq
    cases z : sv.at h i with
    | none => rw [z] at eq; cases eq
    | some o =>
      rw [z] at eq
      cases o with
      | none =>
        cases eq
        exact .inl ⟨it.stop R h H i x hr z, q.nx hr en⟩
      | some y =>
        refine .inr ⟨it.go R h H i y x hr z, ?_⟩
        dsimp only at eq
        cases za : assignD t y e with
        | none => rw [za] at eq; cases eq
        | some ey =>
          rw [za] at eq
          dsimp only at eq
          obtain ⟨r, h2, e3, e4⟩ := bindM_ok eq
          refine ⟨fun σ' H' => ∃ R' h2 e', Ext X.K R H R' H' ∧ HRel X.w X.K R' h2 H' ∧ EnR X.K H' R' e' σ' ∧ forI (fun _ => m) t sv fu (i + 1) e' h2 = some (f, h'), fun σ' H' ⟨R', h3, e', x', hr', en', eq'⟩ => ?_, fun v H' yl => ?_⟩
          · exact ⟨fu, Nat.lt_succ_self _, R', h3, e', x.trans x', hr', en', f, h', eq', q.ext x'⟩
          · obtain ⟨y1, y2, y3⟩ := it.yld R h H i y v H' x hr z yl
            refine ⟨R, h, e, y, ey, y2, en.mono y1, y3, za, fun σ2 en2 _ => ⟨R, h, ey, r, h2, y2, en2, e3, fun R3 H3 x3 hr3 => ?_⟩⟩
            cases r with
            | nx e' => exact fun σ' en' => ⟨R3, h2, e', y1.trans x3, hr3, en', e4⟩
            | cnt e' => exact fun σ' en' => ⟨R3, h2, e', y1.trans x3, hr3, en', e4⟩
            | brk e' => cases e4; exact fun σ' en' => q R3 H3 (y1.trans x3) hr3 σ' en'
            | ret d => cases e4; exact fun v' vr' => q R3 H3 (y1.trans x3) hr3 v' vr'
/-- while -/
theorem js_whl {mt : En → Hh → Option (Bool × Hh)} {n : Nat} (hxe : X.xe = fun _ _ => False) (hc : PT X c (JT X mt)) (hb : PSs X sts (JS X m)) : PS X (.While c sts [] pos) (JS X fun e h => whileI mt m n e h) := by
  refine ps_imp (ps_whileE (by rw [hxe]; exact PassesOwn.never) hc hb pss_nil) fun D σ H ⟨R, h, e, f, h', hr, en, eq, q⟩ => ?_
  refine ⟨fun fu σ H => ∃ R h e, HRel X.w X.K R h H ∧ EnR X.K H R e σ ∧ ∃ f h', whileI mt m fu e h = some (f, h') ∧ FinS X R H f h' D, ⟨n, R, h, e, hr, en, f, h', eq, q⟩, ?_⟩
  rintro fu σ H ⟨R, h, e, hr, en, f, h', eq, q⟩
  cases fu with
  | zero => simp only [whileI] at eq; cases eq
  | succ fu =>
    unfold whileI at eq
    refine JT.step hr en eq fun b h1 R1 H1 e1 x1 hr1 en1 => ?_
    cases b with
    | false => cases e1; exact (q.ext x1).nx hr1 en1
    | true =>
      rw [if_pos rfl] at e1 ⊢
      obtain ⟨r, h2, e3, e4⟩ := bindM_ok e1
      refine ⟨fun σ' H' => ∃ R' h2 e', Ext X.K R H R' H' ∧ HRel X.w X.K R' h2 H' ∧ EnR X.K H' R' e' σ' ∧ whileI mt m fu e' h2 = some (f, h'), fun σ' H' ⟨R', h3, e', x', hr', en', eq'⟩ => ?_, ?_⟩
      · exact ⟨fu, Nat.lt_succ_self _, R', h3, e', hr', en', f, h', eq', q.ext x'⟩
      · refine ⟨R1, h1, e, r, h2, hr1, en1, e3, fun R3 H3 x3 hr3 => ?_⟩
        cases r with
        | nx e' => exact fun σ' en' => ⟨R3, h2, e', x1.trans x3, hr3, en', e4⟩
        | cnt e' => exact fun σ' en' => ⟨R3, h2, e', x1.trans x3, hr3, en', e4⟩
        | brk e' => cases e4; exact fun σ' en' => q R3 H3 (x1.trans x3) hr3 σ' en'
        | ret d => cases e4; exact fun v' vr' => q R3 H3 (x1.trans x3) hr3 v' vr'
end
end Z
set_option Elab.async false
set_option linter.all false
set_option autoImplicit false
set_option maxRecDepth 100000
set_option maxHeartbeats 4000000
namespace Z
open PySem L2 PyProof.Rows

/-! ### forgetting -/
section
variable {w : World} {K : PySem.W.Frag} {H : Hp} {R : List Addr} {n : Nat}
mutual
theorem VR.cut : ∀ {d : D} {v : V}, D.cl n d = true → VR K H R d v → VR K H (R.take n) d v
  | .non, v, c, h => h
  | .bl _, v, c, h => h
  | .int _, v, c, h => h
  | .str _, v, c, h => h
  | .tup xs, v, c, h => by
    obtain ⟨a, vs, e1, e2, e3⟩ := h
    exact ⟨a, vs, e1, e2, VRs.cut (by simpa only [D.cl] using c) e3⟩
  | .rol xs, v, c, h => by
    obtain ⟨a, vs, e1, e2, e3⟩ := h
    exact ⟨a, vs, e1, e2, VRs.cut (by simpa only [D.cl] using c) e3⟩
  | .ref k, v, c, h => by
    obtain ⟨a, e1, e2⟩ := h
    have hk : k < n := by simpa only [D.cl, decide_eq_true_eq] using c
    exact ⟨a, by rw [List.getElem?_take_of_lt hk]; exact e1, e2⟩
theorem VRs.cut : ∀ {d : List D} {v : List V}, D.cls n d = true → VRs K H R d v → VRs K H (R.take n) d v
  | [], v, c, h => h
  | x :: xs, v, c, h => by
    obtain ⟨u, r, e1, e2, e3⟩ := h
    simp only [D.cls, Bool.and_eq_true] at c
    exact ⟨u, r, e1, VR.cut c.1 e2, VRs.cut c.2 e3⟩
end
theorem DR.cut : ∀ {kvs : List (D × D)} {es : List DE}, kvcl n kvs = true →
    Paired (fun (p : D × D) (e : DE) => VR K H R p.1 e.1 ∧ VR K H R p.2 e.2.2 ∧ ∃ k, p.1.key = some k ∧ k.depth ≤ 8 ∧ e.2.1 = k.hash w) kvs es → Paired (fun (p : D × D) (e : DE) => VR K H (R.take n) p.1 e.1 ∧ VR K H (R.take n) p.2 e.2.2 ∧ ∃ k, p.1.key = some k ∧ k.depth ≤ 8 ∧ e.2.1 = k.hash w) kvs es
  | _, _, c, .nil => .nil
  | _, _, c, .cons a b => by
    simp only [kvcl, Bool.and_eq_true] at c
    exact .cons ⟨a.1.cut c.1.1, a.2.1.cut c.1.2, a.2.2⟩ (DR.cut c.2 b)
theorem OR.cut {o : O} {a : Addr} (c : o.cl n = true) (r : OR w K H R o a) : OR w K H (R.take n) o a := by
  cases o with
  | lst xs => obtain ⟨vs, q, z⟩ := r; exact ⟨vs, q, z.cut c⟩
  | dct ep kvs => obtain ⟨es, q, z⟩ := r; exact ⟨es, q, ⟨DR.cut c z.rel, z.nd⟩⟩
theorem hcl_get : ∀ {h : Hh} {i : Nat} {o : O}, hcl n h = true → h[i]? = some o → o.cl n = true
  | [], i, o, c, e => by simp at e
  | x :: r, 0, o, c, e => by
    simp only [hcl, Bool.and_eq_true] at c
    simp at e; subst e; exact c.1
  | x :: r, i + 1, o, c, e => by
    simp only [hcl, Bool.and_eq_true] at c
    exact hcl_get c.2 (by simpa using e)
/-- the heap cut down to what still is spoken of -/
theorem gc_ok {h : Hh} {ds : List D} (hr : HRel w K R h H) : ∃ R', HRel w K R' (gc n ds h) H ∧ (R' = R ∨ (R' = R.take n ∧ D.cls n ds = true)) := by
  unfold gc
  split
  · rename_i c
    simp only [Bool.and_eq_true] at c
    refine ⟨R.take n, hr.take n fun i o a h1 h2 hi => ?_, .inr ⟨rfl, c.1⟩⟩
    exact (hr.ob i o a h1 h2).cut (hcl_get c.2 (show (h.take n)[i]? = some o by rw [List.getElem?_take_of_lt hi]; exact h1))
  · exact ⟨R, hr, .inl rfl⟩
end

/-! ### calls -/
/-- a def that does what g says, wherever it is called with nothing's text under way -/
structure FnG (P : Program) (w : World) (K : PySem.W.Frag) (mg : Str → Option Value) (base : Heap) (k : Nat) (f : Addr) (fd : FuncData) (ps : List Str) (g : Fn) : Prop where
  len : ∀ ds h r, g ds h = some r → ds.length = ps.length
  run : ∀ (A : Around) (outer : List Env) (s : Shared) (H : Hp) (args : Args) (us : List Value) (vs : List V) (Q : VK) (R : List Addr) (h : Hh) (ds : List D) (d : D) (h' : Hh), Room k A → A.guards = some [] → Env0 P w K mg base A outer s H → BindsTo s fd args (ps.zip us) → Vals vs us →
    HRel w K R h H → VRs K H R ds vs → g ds h = some (d, h') → Fin w K R H d h' Q → codeAny (model P w) A (.call (.ref f) args) (CR CX0 outer P w H s Q E0) s
/-- a name that stands for such a def -/
def CalOk (P : Program) (w : World) (K : PySem.W.Frag) (mg : Str → Option Value) (base : Heap) (k : Nat) (x : Str) (g : Fn) : Prop :=
  ∃ f fd ps, mg x = some (.ref f) ∧ FnG P w K mg base k f fd ps g ∧ PySem.W.keepIn K (.ref f) = true ∧ Binds K fd ps []
theorem CalOk.mono {P : Program} {w : World} {K : PySem.W.Frag} {mg : Str → Option Value} {base : Heap} {j k : Nat} {x : Str} {g : Fn} (c : CalOk P w K mg base j x g) (h : j ≤ k) : CalOk P w K mg base k x g := by
  obtain ⟨f, fd, ps, c1, c2, c3, c4⟩ := c
  exact ⟨f, fd, ps, c1, ⟨c2.len, fun A outer s H args us vs Q R hh ds d h' hr => c2.run A outer s H args us vs Q R hh ds d h' (hr.mono h)⟩, c3, c4⟩
section
variable {X : Cx} {e : Expr} {es : List Expr} {ms : En → Hh → Option (List D × Hh)} {pos p : Pos} {x : Str} {g : Fn} {k : Nat}
/-- the call itself -/
theorem run_call {f : Addr} {fd : FuncData} {ps : List Str} {pins : List (Addr × Obj)} {σ : L2.St} {H : Hp} {s : Shared} {Q : VK} {us : List Value} {vs : List V} {R : List Addr} {h : Hh} {ds : List D} {d : D} {h' : Hh} (F : FnG X.prog X.w X.K X.mg X.base k f fd ps g) (hr : Room k X.A) (hgd : X.A.guards = some []) (hb : Binds X.K fd ps [])
    (I : L2.Inv X pins σ H s) (r : Vals vs us) (hrel : HRel X.w X.K R h H) (vr : VRs X.K H R ds vs) (e : g ds h = some (d, h')) (q : Fin X.w X.K R H d h' Q) : wpAny (model X.prog X.w) X.A (call (.ref f) us) (EP X pins σ Q) X.xe s := by
  have hl : us.length = ps.length := by rw [← r.length, vr.len]; exact F.len _ _ _ e
  have hb' := hb s us I.kIn (by rw [List.append_nil]; exact hl)
  rw [List.append_nil] at hb'
  refine wpAny_call (codeAny_mono (F.run X.A X.stack s H ⟨us, []⟩ us vs Q R h ds d h' hr hgd I.env0 hb' r hrel vr e q) fun res s' hq => ?_)
  cases res with
  | error e => exact False.elim hq
  | ok fl =>
    cases fl with
    | ret u => exact I.after hq
    | next => exact False.elim hq
    | brk => exact False.elim hq
    | cont => exact False.elim hq
theorem j_call (c : CalOk X.prog X.w X.K X.mg X.base k x g) (hr : Room k X.A) (hgd : X.A.guards = some []) (hg : Gl X x) (ha : PA X (e :: es) (JA X ms)) (hdb : (x == ("__debug__" : Str)) = false) (he : starEach (e :: es) X.env = (false, eval e X.env) :: starEach es X.env) (hpl : (backTo pos (starEach es X.env)).any (·.1) = false) :
    PE X (.Call (.Name x p) (e :: es) [] pos) (J X fun e h => bindM (ms e h) fun xs h1 => g xs h1) := by
  obtain ⟨f, fd, ps, c1, c2, c3, c4⟩ := c
  refine ⟨fun pins s σ H Q I ⟨R, h, en, d, h', hr0, enr, eq, q⟩ => ?_⟩
  refine wpAny_Call_Name_kw (ld_glob I hg c1 ?_ hdb)
  have hA := ha.run pos pins s σ H (fun vs H1 => ∃ R1 h1 ds, Ext X.K R H R1 H1 ∧ HRel X.w X.K R1 h1 H1 ∧ VRs X.K H1 R1 ds vs ∧ g ds h1 = some (d, h')) I (JA.step hr0 enr eq fun d1 h1 R1 H1 v e1 x1 hr1 en1 v1 => ⟨R1, h1, d1, x1, hr1, v1, e1⟩)
  exact PySem.W.callWith_K (h₀ := X.base) I.ok.mod.kin c3 (thn hA fun us s1 ⟨vs, H1, I1, r, R1, h1, ds, x1, hr1, v1, e1⟩ => ⟨I1.kIn, run_call c2 hr hgd c4 I1 r hr1 v1 e1 (q.ext x1)⟩) he hpl
theorem j_call0 (c : CalOk X.prog X.w X.K X.mg X.base k x g) (hr : Room k X.A) (hgd : X.A.guards = some []) (hg : Gl X x) (hdb : (x == ("__debug__" : Str)) = false) :
    PE X (.Call (.Name x p) [] [] pos) (J X fun e h => bindM (some ([], h)) fun xs h1 => g xs h1) := by
  obtain ⟨f, fd, ps, c1, c2, c3, c4⟩ := c
  refine ⟨fun pins s σ H Q I ⟨R, h, en, d, h', hr0, enr, eq, q⟩ => ?_⟩
  refine wpAny_Call_Name_kw (ld_glob I hg c1 ?_ hdb)
  exact PySem.W.callWith_K0 I.kIn c3 (run_call (us := []) (vs := []) (ds := []) c2 hr hgd c4 I .nil hr0 .nil eq q)
end

/-! ### contexts -/
/-- what the text's check has to know of a frame: its names in their slots, its scope, the block's own scope, the built-ins' names that nothing hides -/
structure Cc where
  N : List Str
  sc : Scope
  inn : Option Scope := none
  bn : List Str := []
def Cc.fnb (c : Cc) (x : Str) : Bool := match c.inn with
  | none => true
  | some s => s.names.lookup x == some .cell
structure CtxOk (c : Cc) (X : Cx) (k : Nat) : Prop where
  N : X.N = c.N
  sc : X.env.scope = c.sc
  kd : c.sc.kind = .function
  nd : X.N.Nodup
  calm : X.calm = true
  fn : ∀ x, c.fnb x = true → X.fn x = true
  room : Room k X.A
  gd : X.A.guards = some []
  bn : ∀ x ∈ c.bn, X.mg x = none
  xe : X.xe = fun _ _ => False
theorem CtxOk.hu {c : Cc} {X : Cx} {k : Nat} (o : CtxOk c X k) : X.A.units + 64 < cLine := by have := o.room.un; omega
def Cc.blk (c : Cc) (scope : Scope) : Cc := { c with sc := relS scope c.sc, inn := some scope }
theorem CtxOk.blk {c : Cc} {X : Cx} {k : Nat} (o : CtxOk c X k) {scope : Scope} (hk : scope.kind = .function) (s : Shared) (H : Hp) (C : Addr) (cl : List (Str × Addr)) (fp : List Addr) : CtxOk (c.blk scope) (X.blk s H scope (compEnvC scope cl C X.env) fp) k := by
  refine ⟨o.N, ?_, hk, o.nd, o.calm, fun x h => h, o.room, o.gd, o.bn, rfl⟩
  show relS scope X.env.scope = relS scope c.sc
  rw [o.sc]

/-! ### a def -/
theorem start_en {K : PySem.W.Frag} {H : Hp} {R : List Addr} {ds : List D} {vs : List V} {N : List Str} (r : VRs K H R ds vs) : EnR K H R (ds.map some ++ List.replicate (N.length - ds.length) none) (L2.start N vs) := by
  refine ⟨by unfold L2.start; simp [r.len], fun i d h => ?_⟩
  unfold L2.start
  by_cases hi : i < ds.length
  · rw [List.getElem?_append_left (by simpa using hi), List.getElem?_map] at h
    cases z : ds[i]? with
    | none => rw [z] at h; cases h
    | some d' =>
      rw [z] at h; cases h
      obtain ⟨v, h1, h2⟩ := r.get z
      exact ⟨v, by rw [List.getElem?_append_left (by rw [List.length_map, r.len]; exact hi), List.getElem?_map, h1]; rfl, h2⟩
  · rw [List.getElem?_append_right (by simpa using hi)] at h
    rw [List.getElem?_replicate] at h
    split at h <;> cases h
/-- what a body leaves, forgotten down to the entry's heap -/
theorem end_ok {w : World} {K : PySem.W.Frag} {R R1 : List Addr} {H H1 : Hp} {h0 h1 : Hh} {d : D} {v : V} {Q : VK} {ds : List D} (hds : D.cls h0.length ds = true → D.cl h0.length d = true) (hrel : HRel w K R h0 H) (q : Fin w K R H d (gc h0.length ds h1) Q) (x1 : Ext K R H R1 H1) (hr1 : HRel w K R1 h1 H1) (v1 : VR K H1 R1 d v) : Q v H1 := by
  obtain ⟨R2, hr2, h3⟩ := gc_ok (n := h0.length) (ds := ds) hr1
  rcases h3 with rfl | ⟨rfl, c⟩
  · exact q R2 H1 v x1 hr2 v1
  · refine q _ H1 v ?_ hr2 (v1.cut (hds c))
    obtain ⟨⟨T, rfl⟩, x2, x3⟩ := x1
    exact ⟨⟨[], by rw [List.take_append_of_le_length (by rw [hrel.len]; exact Nat.le_refl _), List.take_of_length_le (by rw [hrel.len]; exact Nat.le_refl _), List.append_nil]⟩, x2, x3⟩
theorem fn_ok {P : Program} {w : World} {K : PySem.W.Frag} {mg : Str → Option Value} {base : Heap} {x qual : Str} {st : Stmt} {f : Addr} {fd : FuncData} {N ps bn : List Str} {k n np : Nat} {body : List Sm} (F : Fun K x qual st f fd) (S : FnScope N ps (defScope st)) (hn : n = N.length) (hp : np = ps.length) (hb : ∀ y ∈ bn, mg y = none)
    (h : ∀ X : Cx, X.prog = P → X.w = w → X.K = K → X.mg = mg → X.base = base → CtxOk { N := N, sc := defScope st, bn := bn } X k → PSs X (defBody st) (JS X (denSs body))) : FnG P w K mg base (k + 1) f fd ps (runDef n np body) := by
  subst hn; subst hp
  have hlen : ∀ ds h r, runDef N.length ps.length body ds h = some r → ds.length = ps.length := fun ds h r e => by
    unfold runDef at e
    split at e
    · assumption
    · cases e
  refine ⟨hlen, fun A outer s H args us vs Q R h0 ds d h' hr hg e0 hbind rv hrel vr e q => ?_⟩
  have hl := hlen _ _ _ e
  obtain ⟨oc, od, kV, doc, pm, an, cdv, ct, osl, rfl, lk, hcd⟩ := F.ex
  have hin : K.In s.heap := e0.mod.kin.keeps fun b o z => (e0.bs b o z).1
  have slots : ∀ y ∈ ps.zip us, (defScope st).names.lookup y.1 = some .local ∨ ((defScope st).names.lookup y.1 = some .cell ∧ ((cellsFrom (s.heap.objs.size + 1) (defScope st).names []).lookup y.1).isSome = true) := fun y hy => by
    rcases S.par y.1 (List.of_mem_zip (show (y.1, y.2) ∈ _ from hy)).1 with z | z
    · exact .inl z
    · exact .inr ⟨z, PySem.W.cellsFrom_some _ _ _ (.inl z)⟩
  refine codeAny_call_function hr.depth (hin _ _ lk) rfl S.co S.gen rfl (PySem.W.codeRec_of hin hcd) (hbind _ _ _ _ (wpAny_newFunctionEnv_cells S.kind slots fun env he s1 xin => ?_))
  subst he
  refine ⟨(e0.mod.nolimit.keeps fun b o z => (e0.bs b o z).1).keeps xin.toInCall.keep, codeAny_func ?_⟩
  have rm := hr.deeper (envOfC qual (defScope st) s.heap.objs.size f cdv)
  have I : L2.Inv (cxOf CX0 P w K mg base N qual (defScope st) f cdv A outer s H E0).nox [] (L2.start N vs) H s1 := (inv_start S hr.hd e0 (by rw [vr.len]; exact hl) rv xin).wish _
  have hbody := h _ rfl rfl rfl rfl rfl (show CtxOk { N := N, sc := defScope st, bn := bn } (cxOf CX0 P w K mg base N qual (defScope st) f cdv A outer s H E0).nox k from ⟨rfl, rfl, S.kind, S.nd, rfl, fun _ _ => rfl, rm, hg, hb, rfl⟩)
  have main := hbody.run [] s1 (L2.start N vs) H { nx := fun _ H' => Q .non H', rt := Q } I (by
    unfold runDef at e
    rw [if_pos hl] at e
    rw [← hl] at e
    split at e
    · rename_i d1 h1 e1
      obtain ⟨a1, a2⟩ : d1 = d ∧ gc h0.length [d1] h1 = h' := by cases e; exact ⟨rfl, rfl⟩
      subst a1; subst a2
      exact ⟨R, h0, _, _, h1, hrel, start_en vr, e1, fun R1 H1 x1 hr1 v v1 => end_ok (fun c => by simpa only [D.cls, Bool.and_true] using c) hrel q x1 hr1 v1⟩
    · rename_i e2 h1 e1
      obtain ⟨a1, a2⟩ : D.non = d ∧ gc h0.length [] h1 = h' := by cases e; exact ⟨rfl, rfl⟩
      subst a1; subst a2
      exact ⟨R, h0, _, _, h1, hrel, start_en vr, e1, fun R1 H1 x1 hr1 σ' en' => end_ok (fun _ => rfl) hrel q x1 hr1 rfl⟩
    · cases e)
  refine wpAny_mono main (fun fl s' hs => ?_) fun _ _ z => z.elim
  cases fl with
  | ret u =>
    obtain ⟨v, σ', H', J, r', q'⟩ := hs
    exact ⟨v, H', J.os, J.bare, J.base, J.hok, r', q'⟩
  | next =>
    obtain ⟨σ', H', J, q'⟩ := hs
    exact ⟨V.non, H', J.os, J.bare, J.base, J.hok, rfl, q'⟩
  | brk =>
    obtain ⟨_, _, _, q'⟩ := hs
    exact False.elim q'
  | cont =>
    obtain ⟨_, _, _, q'⟩ := hs
    exact False.elim q'
end Z
set_option Elab.async false
set_option linter.all false
set_option autoImplicit false
set_option maxRecDepth 100000
set_option maxHeartbeats 4000000
namespace Z
open PySem L2 PyProof.Rows

/-! ### iterators begin -/
section
variable {X : Cx} {pins : List (Addr × Obj)} {σ : L2.St} {H : Hp} {s : Shared} {Rf : It → Hp → Prop} {tg : Expr} {E : Value → Shared → Prop}
theorem it_list {a : Addr} {xs : List V} (I : L2.Inv X pins σ H s) (hq : SqL X.K H a xs) (q : Rf (Itl X.K a) H) : wpAny (model X.prog X.w) X.A (pyIter (.ref a)) (PIE X pins σ tg Rf) E s := by
  obtain ⟨its, rv, p, hz⟩ := I.list hq
  exact wpAny_pyIter_list p.isList (pi_one (tk := s.toks) I _ (turn_list a _) ⟨_, Heap.get?_push_size _ rfl, rfl, rfl⟩ q)
theorem it_tup {a : Addr} {xs : List V} (I : L2.Inv X pins σ H s) (hq : SqT X.K H a xs) (q : Rf (Itt X.K a) H) : wpAny (model X.prog X.w) X.A (pyIter (.ref a)) (PIE X pins σ tg Rf) E s := by
  obtain ⟨its, rv, p, hz⟩ := I.tuple hq
  exact wpAny_pyIter_tuple (show s.heap.IsTuple a its.toArray from p) (pi_one (tk := s.toks) I _ (turn_tuple a _) ⟨_, Heap.get?_push_size _ rfl, rfl, rfl⟩ q)
theorem it_str {x : Str} {t : Tok} (I : L2.Inv X pins σ H s) (q : Rf (Its x) H) : wpAny (model X.prog X.w) X.A (pyIter (.str x t)) (PIE X pins σ tg Rf) E s := by
  cases ha : x.cps.all (· < 128)
  · exact wpAny_pyIter_wide ha (pi_one (tk := s.toks) I _ (turn_str _ x t "str_iterator" (.inr rfl)) ⟨_, Heap.get?_push_size _ rfl, rfl, rfl⟩ q)
  · exact wpAny_pyIter_ascii ha (pi_one (tk := s.toks) I _ (turn_str _ x t "str_ascii_iterator" (.inl rfl)) ⟨_, Heap.get?_push_size _ rfl, rfl, rfl⟩ q)
end

/-! ### the keys of a dict -/
def Itdk (d : Addr) (ep len : Nat) : It :=
  ⟨fun i H => ∃ es : List DE, H d = some (.ext (DictX d ep es)) ∧ es.length = len ∧ i < len,
   fun i H x H' => H' = H ∧ ∀ es : List DE, H d = some (.ext (DictX d ep es)) → ∃ e : DE, es[i]? = some e ∧ x = e.1,
   fun i H => ∃ es : List DE, H d = some (.ext (DictX d ep es)) ∧ es.length = len ∧ len ≤ i⟩
theorem paired_at {α β : Type} {F : α → β → Prop} : ∀ {l : List α} {m : List β}, Paired F l m → ∀ {i : Nat} {a : α}, l[i]? = some a → ∃ b, m[i]? = some b ∧ F a b
  | _, _, .nil, i, a, e => by simp at e
  | _, _, .cons p q, 0, a, e => by simp at e; subst e; exact ⟨_, rfl, p⟩
  | _, _, .cons p q, i + 1, a, e => by
    obtain ⟨b, h1, h2⟩ := paired_at q (i := i) (by simpa using e)
    exact ⟨b, by simpa using h1, h2⟩
theorem turn_dk {P : Program} {w : World} {K : PySem.W.Frag} {tg : Expr} {d : Addr} {ep len : Nat} (it : Addr) : Turn P w K tg (Itdk d ep len) [it] it (fun i h => h.IsKeyIter it d i len ep) where
  mem := by simp
  obj := fun i h st b hb => by
    have e : b = it := by simpa using hb
    subst e
    obtain ⟨oi, e, c, dd⟩ := st
    exact ⟨oi, e, fun v z => by rw [dd] at z; cases z⟩
  keep := fun i h h' st k => st.at fun oi e => k it (by simp) oi e
  item := by
    intro X hP hw hK hc i pins s σ H E I hf st hg
    subst hP hw hK
    obtain ⟨es, hd, hl, hi⟩ := hg
    obtain ⟨f0, f1, f2, f3, f4, f5⟩ := hf it (by simp)
    obtain ⟨⟨e2, e3, o, ds, e4, e5, e6, e7⟩, _, _⟩ := I.hok d _ hd
    obtain ⟨e, he⟩ : ∃ p, es[i]? = some p := ⟨es[i], List.getElem?_eq_getElem (by omega)⟩
    obtain ⟨en, hen, r1, r2, r3⟩ := paired_at e7 he
    have hsz : ds.size = len := by rw [← hl, ← Array.length_toList]; exact (Paired.length e7).symm
    refine next_key_item st e4 e6 hsz (en := en) (by rw [← Array.getElem?_toList]; exact hen) fun h' st' sb => ?_
    have I1 : L2.Inv X pins σ H { s with heap := h' } := I.turned (t' := s.toks) (fun b ob hb e => (sb.2 b hb).trans e) f0 f1 f3 f4 f5
    obtain ⟨oi, q1, q2, q3⟩ := id st'
    refine ⟨en.key, rfl, go_of (s := { s with heap := h' }) q1 q2 q3 (by decide) ⟨e.1, H, I1, r1, ⟨rfl, fun es' hd' => ?_⟩, st', fun b hb => (hf b hb).1⟩⟩
    obtain ⟨⟨_, _, o', ds', z4, z5, z6, z7⟩, _, _⟩ := I.hok d _ hd'
    rw [e4] at z4; cases z4
    rw [e6] at z6; cases z6
    have hll : es'.length = es.length := by rw [Paired.length z7, Paired.length e7]
    obtain ⟨e', he'⟩ : ∃ p, es'[i]? = some p := ⟨es'[i], List.getElem?_eq_getElem (by omega)⟩
    obtain ⟨en', hen', w1, _⟩ := paired_at z7 he'
    rw [hen] at hen'; cases hen'
    exact ⟨e', he', relV_inj r1 w1⟩
  done := by
    intro X hP hw hK hc i pins s σ H E I hf st hg
    subst hP hw hK
    obtain ⟨es, hd, hl, hi⟩ := hg
    obtain ⟨f0, f1, f2, f3, f4, f5⟩ := hf it (by simp)
    obtain ⟨⟨e2, e3, o, ds, e4, e5, e6, e7⟩, _, _⟩ := I.hok d _ hd
    have hsz : ds.size = len := by rw [← hl, ← Array.length_toList]; exact (Paired.length e7).symm
    exact next_key_end (I.ok.hd hc) st e4 e6 hsz hi fun h' eb => ⟨rfl, I.turned (t' := s.toks) (fun b ob hb e => eb b ob hb e) f0 f1 f3 f4 f5⟩
  self := fun A i s Q E st h => wpAny_pyIter_keyiter st h
theorem it_dk {X : Cx} {pins : List (Addr × Obj)} {σ : L2.St} {H : Hp} {s : Shared} {Rf : It → Hp → Prop} {tg : Expr} {E : Value → Shared → Prop} {d : Addr} {ep : Nat} {es : List DE} (I : L2.Inv X pins σ H s) (hd : H d = some (.ext (DictX d ep es))) (q : Rf (Itdk d ep es.length) H) :
    wpAny (model X.prog X.w) X.A (pyIter (.ref d)) (PIE X pins σ tg Rf) E s := by
  obtain ⟨⟨e2, e3, o, ds, e4, e5, e6, e7⟩, _, _⟩ := I.hok d _ hd
  have hsz : ds.size = es.length := by rw [← Array.length_toList]; exact (Paired.length e7).symm
  refine iter_keys e2 e4 e5 e6 (pi_one (tk := s.toks) I _ (turn_dk _) ⟨_, Heap.get?_push_size _ rfl, rfl, ?_⟩ q)
  rw [hsz]; rfl

/-! ### over a value -/
section
variable {w : World} {K : PySem.W.Frag} {R : List Addr} {H : Hp}
theorem sta_none {xs : List D} {h : Hh} {i : Nat} (e : (Sv.sta xs).at h i = some none) : xs.length ≤ i := by
  simp only [Sv.at] at e
  exact List.getElem?_eq_none_iff.mp (Option.some.inj e)
theorem sta_some {xs : List D} {h : Hh} {i : Nat} {x : D} (e : (Sv.sta xs).at h i = some (some x)) : xs[i]? = some x := by
  simp only [Sv.at] at e
  exact Option.some.inj e
theorem ok_tup {a : Addr} {xs : List D} {vs : List V} (ha : SqT K H a vs) (r : VRs K H R xs vs) : ItOk w K R H (.sta xs) (Itt K a) := by
  refine ⟨fun R' h H' i x hr e => ⟨vs, x.2.1 _ _ ha, by rw [r.len]; exact sta_none e⟩, fun R' h H' i d x hr e => ?_, fun R' h H' i d y H2 x hr e yl => ?_⟩
  · obtain ⟨v, h1, h2⟩ := r.get (sta_some e)
    exact ⟨vs, v, x.2.1 _ _ ha, h1⟩
  · obtain ⟨e1, e2⟩ := yl
    subst e1
    obtain ⟨v, h1, h2⟩ := r.get (sta_some e)
    have := e2 vs (x.2.1 _ _ ha)
    rw [h1] at this
    cases this
    exact ⟨Ext.refl, hr, h2.mono x⟩
theorem ok_rol {a : Addr} {xs : List D} {vs : List V} (ha : SqF K H a vs) (r : VRs K H R xs vs) : ItOk w K R H (.sta xs) (Itl K a) := by
  refine ⟨fun R' h H' i x hr e => ⟨vs, (x.2.2 _ _ ha).l, by rw [r.len]; exact sta_none e⟩, fun R' h H' i d x hr e => ?_, fun R' h H' i d y H2 x hr e yl => ?_⟩
  · obtain ⟨v, h1, h2⟩ := r.get (sta_some e)
    exact ⟨vs, v, (x.2.2 _ _ ha).l, h1⟩
  · obtain ⟨e1, e2⟩ := yl
    subst e1
    obtain ⟨v, h1, h2⟩ := r.get (sta_some e)
    have := e2 vs (x.2.2 _ _ ha).l
    rw [h1] at this
    cases this
    exact ⟨Ext.refl, hr, h2.mono x⟩
theorem signs_len (x : Str) : (signs x).length = x.cps.size := by unfold signs; rw [List.length_map, Array.length_toList]
theorem signs_get {x : Str} {i : Nat} {d : D} (e : (signs x)[i]? = some d) : ∃ c, x.cps[i]? = some c ∧ d = .str ⟨#[c]⟩ := by
  unfold signs at e
  rw [List.getElem?_map, Array.getElem?_toList] at e
  cases q : x.cps[i]? with
  | none => rw [q] at e; cases e
  | some c => rw [q] at e; cases e; exact ⟨c, rfl, rfl⟩
theorem ok_str {x : Str} : ItOk w K R H (.sta (signs x)) (Its x) := by
  refine ⟨fun R' h H' i y hr e => by have := sta_none e; rwa [signs_len] at this, fun R' h H' i d y hr e => ?_, fun R' h H' i d y H2 z hr e yl => ?_⟩
  · have := (List.getElem?_eq_some_iff.mp (sta_some e)).1
    rwa [signs_len] at this
  · obtain ⟨e1, c, e2, e3⟩ := yl
    subst e1
    obtain ⟨c', h1, h2⟩ := signs_get (sta_some e)
    rw [h1] at e2; cases e2
    subst h2
    exact ⟨Ext.refl, hr, e3⟩
theorem lstAt_some {h : Hh} {n : Nat} {xs : List D} (e : lstAt h n = some xs) : h[n]? = some (.lst xs) := by
  unfold lstAt at e
  split at e
  · cases e; assumption
  · cases e
theorem ok_lst {a : Addr} {n : Nat} (k : R[n]? = some a) : ItOk w K R H (.lst n) (Itl K a) := by
  have get : ∀ {R' : List Addr} {h : Hh} {H' : Hp} {xs : List D}, Ext K R H R' H' → HRel w K R' h H' → h[n]? = some (.lst xs) → ∃ vs, SqL K H' a vs ∧ VRs K H' R' xs vs := by
    intro R' h H' xs x hr e1
    obtain ⟨vs, h1, h2⟩ := hr.ob n _ a e1 (x.at k)
    exact ⟨vs, SqL.of h1, h2⟩
  refine ⟨fun R' h H' i x hr e => ?_, fun R' h H' i d x hr e => ?_, fun R' h H' i d y H2 x hr e yl => ?_⟩
  all_goals
    simp only [Sv.at] at e
    cases q : lstAt h n with
    | none => rw [q] at e; cases e
    | some xs =>
      rw [q] at e
      obtain ⟨vs, h1, h2⟩ := get x hr (lstAt_some q)
      have e' := Option.some.inj e
      first
        | exact ⟨vs, h1, by rw [h2.len]; exact List.getElem?_eq_none_iff.mp e'⟩
        | (obtain ⟨v, h3, h4⟩ := h2.get e'
           first
             | exact ⟨vs, v, h1, h3⟩
             | (obtain ⟨y1, y2⟩ := yl
                subst y1
                have := y2 vs h1
                rw [h3] at this
                cases this
                exact ⟨Ext.refl, hr, h4⟩))
theorem ok_key {a : Addr} {n ep len : Nat} (k : R[n]? = some a) : ItOk w K R H (.key n ep len) (Itdk a ep len) := by
  have get : ∀ {R' : List Addr} {h : Hh} {H' : Hp} {kvs : List (D × D)}, Ext K R H R' H' → HRel w K R' h H' → h[n]? = some (.dct ep kvs) → ∃ es, H' a = some (.ext (DictX a ep es)) ∧ DR w K H' R' kvs es := by
    intro R' h H' kvs x hr e1
    exact hr.ob n _ a e1 (x.at k)
  refine ⟨fun R' h H' i x hr e => ?_, fun R' h H' i d x hr e => ?_, fun R' h H' i d y H2 x hr e yl => ?_⟩
  all_goals
    simp only [Sv.at] at e
    split at e
    · rename_i ep' kvs e1
      split at e
      · rename_i ee
        obtain ⟨ee1, ee2⟩ := ee
        subst ee1
        obtain ⟨es, h1, h2⟩ := get x hr e1
        have hl := Paired.length h2.rel
        have e' := Option.some.inj e
        first
          | (have hn : kvs[i]? = none := by
               cases z : kvs[i]? with
               | none => rfl
               | some p => rw [z] at e'; cases e'
             exact ⟨es, h1, by rw [← hl]; exact ee2, by rw [← ee2]; exact List.getElem?_eq_none_iff.mp hn⟩)
          | (cases z : kvs[i]? with
             | none => rw [z] at e'; cases e'
             | some p =>
               rw [z] at e'
               cases e'
               have hi := (List.getElem?_eq_some_iff.mp z).1
               first
                 | exact ⟨es, h1, by rw [← hl]; exact ee2, by rw [← ee2]; exact hi⟩
                 | (obtain ⟨y1, y2⟩ := yl
                    subst y1
                    obtain ⟨q, q1, q2⟩ := y2 es h1
                    obtain ⟨q', p1, p2, p3, p4⟩ := paired_at h2.rel z
                    rw [q1] at p1; cases p1
                    subst q2
                    exact ⟨Ext.refl, hr, p2⟩))
      · cases e
    · cases e
end
section
variable {X : Cx} {e : Expr} {me : Mx}
theorem it_over {pins : List (Addr × Obj)} {σ : L2.St} {H : Hp} {s : Shared} {Rf : It → Hp → Prop} {tg : Expr} {E : Value → Shared → Prop} {R : List Addr} {h : Hh} {d : D} {v : V} {u : Value} {sv : Sv} (I : L2.Inv X pins σ H s) (hr : HRel X.w X.K R h H) (vr : VR X.K H R d v) (rv : RelV v u) (e : overD d h = some sv)
    (q : ∀ Jt, ItOk X.w X.K R H sv Jt → Rf Jt H) : wpAny (model X.prog X.w) X.A (pyIter u) (PIE X pins σ tg Rf) E s := by
  cases d <;> simp only [overD] at e <;> (first | (cases e; done) | skip)
  case str x => cases e; subst vr; obtain ⟨t, rfl⟩ := rv; exact it_str I (q _ ok_str)
  case tup xs => cases e; obtain ⟨a, vs, rfl, ha, r⟩ := vr; cases rv; exact it_tup I ha (q _ (ok_tup ha r))
  case rol xs => cases e; obtain ⟨a, vs, rfl, ha, r⟩ := vr; cases rv; exact it_list I ha.l (q _ (ok_rol ha r))
  case ref n =>
    obtain ⟨a, k, rfl⟩ := vr
    cases rv
    split at e
    · rename_i xs e1
      cases e
      obtain ⟨vs, h1, h2⟩ := hr.ob n _ a e1 k
      exact it_list I (SqL.of h1) (q _ (ok_lst k))
    · rename_i ep kvs e1
      cases e
      obtain ⟨es, h1, h2⟩ := hr.ob n _ a e1 k
      have hl := Paired.length h2.rel
      exact it_dk I h1 (by rw [← hl]; exact q _ (ok_key k))
    · cases e
theorem ji_over {tg : Expr} (he : PE X e (J X me)) : PI X tg e (JI X fun e h => bindM (me e h) fun d h1 => opt h1 (overD d h1)) :=
  ⟨fun pins s σ H Rf I ⟨R, h, e, sv, h', hr, en, eq, q⟩ => by
    refine thn (he.run pins s σ H (fun v H1 => ∃ d1 h1 R1, opt h1 (overD d1 h1) = some (sv, h') ∧ Ext X.K R H R1 H1 ∧ HRel X.w X.K R1 h1 H1 ∧ VR X.K H1 R1 d1 v) I
      (J.step hr en eq fun d1 h1 R1 H1 v e1 x1 hr1 en1 v1 => ⟨d1, h1, R1, e1, x1, hr1, v1⟩)) fun u s1 ⟨x, H1, I1, r1, d1, h1, R1, e1, x1, hr1, v1⟩ => ?_
    obtain ⟨z, a0⟩ := opt_ok e1
    subst a0
    exact it_over I1 hr1 v1 r1 z fun Jt it => q R1 H1 Jt x1 hr1 it⟩
/-! ranges -/
theorem ints_get : ∀ (n : Nat) (lo : Int) (i : Nat), (intsFrom lo n)[i]? = if i < n then some (.int (lo + i)) else none
  | 0, lo, i => by simp [intsFrom]
  | n + 1, lo, 0 => by simp [intsFrom]
  | n + 1, lo, i + 1 => by
    rw [intsFrom, List.getElem?_cons_succ, ints_get n (lo + 1) i]
    by_cases h : i < n
    · rw [if_pos h, if_pos (by omega)]
      congr 2
      omega
    · rw [if_neg h, if_neg (by omega)]
theorem ok_rng {w : World} {K : PySem.W.Frag} {R : List Addr} {H : Hp} {lo : Int} {n : Nat} : ItOk w K R H (.sta (intsFrom lo n)) (Itr lo n) := by
  refine ⟨fun R' h H' i y hr e => ?_, fun R' h H' i d y hr e => ?_, fun R' h H' i d y H2 z hr e yl => ?_⟩
  · simp only [Sv.at] at e
    have e' := Option.some.inj e
    rw [ints_get] at e'
    split at e'
    · cases e'
    · exact Nat.le_of_not_lt ‹_›
  · have e' := sta_some e
    rw [ints_get] at e'
    split at e'
    · assumption
    · cases e'
  · obtain ⟨e1, e2⟩ := yl
    subst e1
    have e' := sta_some e
    rw [ints_get] at e'
    split at e'
    · cases e'
      exact ⟨Ext.refl, hr, e2⟩
    · cases e'
variable {a b : Expr} {ms : En → Hh → Option (List D × Hh)} {p pos : Pos} {tg : Expr}
theorem ji_rng1 (hg : Gl X "range") (hm : X.mg "range" = none) (ha : PA X [a] (JA X ms)) (hs : starEach [a] X.env = [(false, eval a X.env)]) : PI X tg (.Call (.Name "range" p) [a] [] pos) (JI X fun e h => bindM (ms e h) fun xs h1 => opt h1 (if xs.length = 1 then rangeD xs else none)) :=
  pi_imp (pi_range1 hg hm ha hs) fun σ H Rf ⟨R, h, e, sv, h', hr, en, eq, q⟩ => JA.step hr en eq fun ds h1 R1 H1 vs e1 x1 hr1 en1 v1 => by
    obtain ⟨z, a0⟩ := opt_ok e1
    subst a0
    split at z
    · unfold rangeD at z
      split at z
      · rename_i j _
        split at z
        · cases z
          obtain ⟨u, r, rfl, r1, r2⟩ := v1
          rw [show r = [] from r2, show u = V.int j from r1]
          exact ⟨j, rfl, (by omega), (by omega), q R1 H1 _ x1 hr1 ok_rng⟩
        · cases z
      · rename_i hl; simp at hl
      · cases z
    · cases z
theorem ji_rng2 (hg : Gl X "range") (hm : X.mg "range" = none) (ha : PA X [a, b] (JA X ms)) (hs : starEach [a, b] X.env = [(false, eval a X.env), (false, eval b X.env)]) (hs2 : starEach [b] X.env = [(false, eval b X.env)]) : PI X tg (.Call (.Name "range" p) [a, b] [] pos) (JI X fun e h => bindM (ms e h) fun xs h1 => opt h1 (if xs.length = 2 then rangeD xs else none)) :=
  pi_imp (pi_range2 hg hm ha hs hs2) fun σ H Rf ⟨R, h, e, sv, h', hr, en, eq, q⟩ => JA.step hr en eq fun ds h1 R1 H1 vs e1 x1 hr1 en1 v1 => by
    obtain ⟨z, a0⟩ := opt_ok e1
    subst a0
    split at z
    · unfold rangeD at z
      split at z
      · rename_i hl; simp at hl
      · rename_i i j _
        split at z
        · rename_i hh
          cases z
          obtain ⟨u, r, rfl, r1, u2, r', rfl, r2, r3⟩ := v1
          rw [show r' = [] from r3, show u = V.int i from r1, show u2 = V.int j from r2]
          exact ⟨i, j, rfl, hh, q R1 H1 _ x1 hr1 ok_rng⟩
        · cases z
      · cases z
    · cases z
end
end Z
set_option Elab.async false
set_option linter.all false
set_option autoImplicit false
set_option maxRecDepth 100000
set_option maxHeartbeats 4000000
namespace Z
open PySem L2 PyProof.Rows

/-! ### enumerate of a tuple, of a text -/
/-- n items, told by Y, each in a new pair with its number -/
def Itn (n : Nat) (C : Hp → Prop) (Y : Nat → V → Prop) : It :=
  ⟨fun i H => C H ∧ i < n, fun i H v H' => ∃ T x, v = .ref T ∧ H T = none ∧ H' = upd H T (.tup [.int (i : Nat), x]) ∧ Y i x, fun i H => C H ∧ n ≤ i⟩
theorem turn_enumG {P : Program} {w : World} {K : PySem.W.Frag} {elts : List Expr} {kk : Nat} {tpos : Pos} {n : Nat} {C : Hp → Prop} {Y : Nat → V → Prop} {Sx : Nat → Heap → Prop} (e it : Addr)
    (hobj : ∀ i h, Sx i h → ∃ o, h.get? it = some o ∧ ∀ v, o.data ≠ .cell v) (hkeep : ∀ i h h', Sx i h → (∀ o, h.get? it = some o → h'.get? it = some o) → Sx i h')
    (hd : ∀ (X : Cx), X.prog = P → X.w = w → X.K = K → X.calm = true → ∀ (pins : List (Addr × Obj)) (s : Shared) (σ : L2.St) (H : Hp) (i : Nat) (old : Value), L2.Inv X pins σ H s → C H → Sx i s.heap → IsEnum s.heap e it i old →
      ∃ (fpD : List Addr) (PD : Nat → Value → Prop) (SD : Nat → Heap → Prop), Draws X.prog X.w X.A.in1 it fpD n PD SD ∧ SD i s.heap ∧ (∀ h', SD (i + 1) h' → Sx (i + 1) h') ∧ e ∉ fpD ∧ ∀ x, PD i x → ∃ v, RelV v x ∧ Y i v) :
    Turn P w K (.Tuple elts kk tpos) (Itn n C Y) [e, it] e (fun i h => (∃ old, IsEnum h e it ((i : Nat) : Int) old) ∧ Sx i h ∧ i ≤ n ∧ e ≠ it) where
  mem := by simp
  obj := fun i h st b hb => by
    obtain ⟨⟨old, he⟩, hs, _⟩ := st
    have e' : b = e ∨ b = it := by simpa using hb
    rcases e' with z | z
    · rw [z]; exact ⟨_, he, fun v q => nomatch q⟩
    · rw [z]; exact hobj i h hs
  keep := fun i h h' st k => let ⟨⟨old, he⟩, hi, hn, hne⟩ := st; ⟨⟨old, k e (by simp) _ he⟩, hkeep i h h' hi fun o q => k it (by simp) o q, hn, hne⟩
  item := by
    intro X hP hw hK hc i pins s σ H E I hf st hg
    obtain ⟨⟨old, he⟩, hs, hn, hne⟩ := st
    obtain ⟨hC, hi⟩ := hg
    obtain ⟨fpD, PD, SD, Dr, d1, d2, d3, d4⟩ := hd X hP hw hK hc pins s σ H i old I hC hs he
    subst hP hw hK
    have hel : e < s.heap.objs.size := Heap.lt_size he
    have hil : it < s.heap.objs.size := by obtain ⟨o, q, _⟩ := hobj i _ hs; exact Heap.lt_size q
    refine wpAny_pyNext_enum_itemD Dr he d1 hi hne d3 fun u h' tk hP ho hit' hT hsz hk => ?_
    obtain ⟨x, ru, hy⟩ := d4 u hP
    refine ⟨_, rfl, wpAny_letOwnedTupleGo_enum (s := { s with heap := h', toks := tk + 1 }) ho fun h'' he' sb => ?_⟩
    have hT2 : h''.get? s.heap.objs.size = some { cls := .type "tuple", data := .seq #[.int i tk, u] } := (sb.2 _ (Nat.ne_of_gt hel)).trans hT
    have new : ObjOk X.prog X.w (upd H s.heap.objs.size (.tup [.int (i : Nat), x])) h'' s.heap.objs.size (.tup [.int (i : Nat), x]) :=
      ⟨by show 2 ≤ sizeLine; decide, [.int i tk, u], .cons ⟨_, rfl⟩ (.cons ru .nil), ⟨_, hT2, rfl, _, rfl⟩⟩
    have I1 : L2.Inv X pins σ (upd H s.heap.objs.size (.tup [.int (i : Nat), x])) { s with heap := h'', toks := tk + 1 } :=
      I.turnedNew (ch := [e, it]) (fun b ob hb q => (sb.2 b (fun z => hb (by simp [z]))).trans (hk b ob (fun z => hb (by simp [z])) (fun z => hb (by simp [z])) q)) hf (Nat.le_refl _) new
    refine ⟨.ref s.heap.objs.size, _, I1, rfl, ⟨_, x, rfl, I.hok.fresh (Nat.le_refl _), rfl, hy⟩, ⟨⟨u, ?_⟩, hkeep _ _ _ (d2 _ hit') fun o q => (sb.2 it (Ne.symm hne)).trans q, hi, hne⟩, fun b hb => ?_⟩
    · have e1 : ((i + 1 : Nat) : Int) = (i : Int) + 1 := by omega
      rw [e1]; exact he'
    · have hb' : b < s.heap.objs.size := by
        have e' : b = e ∨ b = it := by simpa using hb
        rcases e' with z | z
        · rw [z]; exact hel
        · rw [z]; exact hil
      rw [upd_ne (Nat.ne_of_lt hb')]
      exact (hf b hb).1
  done := by
    intro X hP hw hK hc i pins s σ H E I hf st hg
    obtain ⟨⟨old, he⟩, hs, hn, hne⟩ := st
    obtain ⟨hC, hi⟩ := hg
    obtain ⟨fpD, PD, SD, Dr, d1, d2, d3, d4⟩ := hd X hP hw hK hc pins s σ H i old I hC hs he
    subst hP hw hK
    have ein : i = n := Nat.le_antisymm hn hi
    subst ein
    obtain ⟨f0, f1, f2, f3, f4, f5⟩ := hf it (by simp)
    exact wpAny_pyNext_enum_endD Dr he d1 fun h' eb => ⟨rfl, I.turned (t' := s.toks) (fun b o hb q => eb b o hb q) f0 f1 f3 f4 f5⟩
  self := fun A i s Q E st h => let ⟨⟨_, he⟩, _⟩ := st; wpAny_pyIter_enum he h
theorem turn_enumT {P : Program} {w : World} {K : PySem.W.Frag} {elts : List Expr} {kk : Nat} {tpos : Pos} (a e it : Addr) (vs : List V) :
    Turn P w K (.Tuple elts kk tpos) (Itn vs.length (fun H => SqT K H a vs) fun i x => vs[i]? = some x) [e, it] e (fun i h => (∃ old, IsEnum h e it ((i : Nat) : Int) old) ∧ h.IsTupleIter it a i ∧ i ≤ vs.length ∧ e ≠ it) := by
  refine turn_enumG e it (fun i h ⟨o, ho, hc, hd⟩ => ⟨o, ho, fun v q => by rw [hd] at q; cases q⟩) (fun i h h' st k => st.at fun o q => k o q) ?_
  intro X hP hw hK hc pins s σ H i old I hC st he
  subst hP hw hK
  obtain ⟨its, rv, p, hz⟩ := I.tuple hC
  have p' : s.heap.IsTuple a its.toArray := p
  have hl : its.toArray.size = vs.length := by rw [List.size_toArray, ← rv.length]
  have na : a ≠ it := fun z => by
    subst z
    obtain ⟨o, ho, hc1, _⟩ := st
    obtain ⟨o', ho', hc', _⟩ := p'
    rw [ho] at ho'; cases ho'
    rw [hc1] at hc'
    injection hc' with z
    exact absurd z (by decide)
  have ne : e ≠ a := fun z => by
    subst z
    obtain ⟨o', ho', hc', _⟩ := p'
    rw [he] at ho'; cases ho'
    injection hc' with z
    exact absurd z (by decide)
  have nei : e ≠ it := fun z => by
    subst z
    obtain ⟨o, ho, hc1, _⟩ := st
    rw [he] at ho; cases ho
    injection hc1 with z
    exact absurd z (by decide)
  refine ⟨[it, a], _, _, hl ▸ Draws.tuple (A := X.A.in1) (show X.A.in1.handled = none from I.ok.hd hc) it a na its.toArray, ⟨st, p'⟩, fun h' q => q.1, by simp [nei, ne], fun x hx => ?_⟩
  obtain ⟨v, h1, h2⟩ := vals_get rv (show its[i]? = some x by simpa using hx)
  exact ⟨v, h2, h1⟩
theorem turn_enumS {P : Program} {w : World} {K : PySem.W.Frag} {elts : List Expr} {kk : Nat} {tpos : Pos} (e it : Addr) (x : Str) (t : Tok) :
    Turn P w K (.Tuple elts kk tpos) (Itn x.cps.size (fun _ => True) fun i v => ∃ c, x.cps[i]? = some c ∧ v = .str ⟨#[c]⟩) [e, it] e (fun i h => (∃ old, IsEnum h e it ((i : Nat) : Int) old) ∧ h.IsStrIter it (strIterType x) x t i ∧ i ≤ x.cps.size ∧ e ≠ it) := by
  refine turn_enumG e it (fun i h ⟨o, ho, hc, hd⟩ => ⟨o, ho, fun v q => by rw [hd] at q; cases q⟩) (fun i h h' st k => let ⟨o, ho, r⟩ := st; ⟨o, k o ho, r⟩) ?_
  intro X hP hw hK hc pins s σ H i old I hC st he
  have nei : e ≠ it := fun z => by
    subst z
    obtain ⟨o, ho, hc1, _⟩ := st
    rw [he] at ho; cases ho
    unfold strIterType at hc1
    split at hc1 <;> (injection hc1 with z; exact absurd z (by decide))
  refine ⟨[it], _, _, Draws.text (A := X.A.in1) (show X.A.in1.handled = none from I.ok.hd hc) it x t, st, fun h' q => q, by simp [nei], fun y ⟨c, u, h1, h2⟩ => ?_⟩
  exact ⟨.str ⟨#[c]⟩, ⟨u, h2⟩, c, h1, rfl⟩
/-! enumerate(v): its two new cells -/
set_option maxHeartbeats 4000000 in
theorem meets_enum1 {v : Value} {o : Obj} {H : Heap → Prop} (B : Begins v o H) :
    Meets (Builtin.«enumerate.__new__» ⟨[.type "enumerate", v], []⟩) (fun _ R s => H s.heap ∧
      R (.ok (.ret (.ref (s.heap.push o).objs.size))) { s with heap := (s.heap.push o).push { cls := .type "enumerate", data := .fields #[.none, .bool false, .ref s.heap.objs.size, rawInt 0, .none, .none] } }) :=
  .of_wp fun prog w A R s h => by
    obtain ⟨hp, g, d, tk, os⟩ := s; obtain ⟨h1, h⟩ := h
    have hsub := sub_enumerate
    have q1 : ∀ {A' : Around} {E : Value → Shared → Prop} {Q : Value → Shared → Prop}, Q (.ref hp.objs.size) ⟨hp.push o, g, d, tk, os⟩ → wpAny (model prog w) A' (pyIter v) Q E ⟨hp, g, d, tk, os⟩ :=
      fun q => B.iter prog w _ _ ⟨hp, g, d, tk, os⟩ _ h1 q
    wp_walk using q1
    refine wpAny_stack_any fun st => wpAny_pure ?_
    split
    · rename_i c _ _ _ _ _
      cases (c == Value.type "enumerate")
      · wp_walk using q1
        exact ⟨_, rfl, h⟩
      · wp_walk using q1
        exact ⟨_, rfl, h⟩
    · wp_walk using q1
      exact ⟨_, rfl, h⟩
section
variable {prog : Program} {w : World} {A : Around} {E : Value → Shared → Prop} {s : Shared}
theorem enum1_begins {v : Value} {o : Obj} {H : Heap → Prop} {Q : Value → Shared → Prop} (B : Begins v o H) (h1 : H s.heap)
    (h : ∀ h', IsEnum h' (s.heap.objs.size + 1) s.heap.objs.size 0 .none → h'.get? s.heap.objs.size = some o → h'.objs.size = s.heap.objs.size + 2 →
      (∀ b o, s.heap.get? b = some o → h'.get? b = some o) → Q (.ref (s.heap.objs.size + 1)) { s with heap := h' }) :
    wpAny (model prog w) A (call (.type "enumerate") [v]) Q E s := by
  refine callType_new F.called_enumerate (by decide) (F.typeCall_enumerate_1 _) (F.newCall_enumerate_1 _) (fun obj => F.args_object_init_2 obj _) F.entry_enumerate_new
    (meets_enum1 B) ⟨h1, ?_⟩
  have hz : (s.heap.push o).objs.size = s.heap.objs.size + 1 := Heap.size_push ..
  show _ ∧ _
  rw [hz]
  have he : IsEnum ((s.heap.push o).push { cls := .type "enumerate", data := .fields #[.none, .bool false, .ref s.heap.objs.size, rawInt 0, .none, .none] }) (s.heap.objs.size + 1) s.heap.objs.size 0 .none := by
    have := Heap.get?_push_size (s.heap.push o) (o := { cls := .type "enumerate", data := .fields #[.none, .bool false, .ref s.heap.objs.size, rawInt 0, .none, .none] }) rfl
    rw [hz] at this; exact this
  refine ⟨⟨_, he, rfl⟩, h _ he (Heap.get?_push_of_some _ (Heap.get?_push_size _ B.free)) (by rw [Heap.size_push, hz]) fun b o x => Heap.get?_push_of_some _ (Heap.get?_push_of_some _ x)⟩
end
theorem numb_get : ∀ (xs : List D) (k i : Nat), (numb k xs)[i]? = xs[i]?.map fun x => .tup [.int ((k + i : Nat) : Int), x]
  | [], k, i => by simp [numb]
  | x :: xs, k, 0 => by simp [numb]
  | x :: xs, k, i + 1 => by
    rw [numb, List.getElem?_cons_succ, numb_get xs (k + 1) i, List.getElem?_cons_succ]
    rw [show k + 1 + i = k + (i + 1) by omega]
section
variable {w : World} {K : PySem.W.Frag} {R : List Addr} {H : Hp}
theorem vr_pair {R : List Addr} {H : Hp} {T : Addr} {d1 d2 : D} {v1 v2 : V} (hT : H T = none) (r1 : VR K H R d1 v1) (r2 : VR K H R d2 v2) : VR K (upd H T (.tup [v1, v2])) R (.tup [d1, d2]) (.ref T) :=
  ⟨T, [v1, v2], rfl, SqT.of upd_same, VRs.mono (Ext.new hT) (.cons r1 (.one r2))⟩
theorem ok_itn {xs : List D} {n : Nat} {C : Hp → Prop} {Y : Nat → V → Prop} (hn : n = xs.length) (hC : ∀ R' H', Ext K R H R' H' → C H') (hY : ∀ R' H' i d v, Ext K R H R' H' → xs[i]? = some d → Y i v → VR K H' R' d v) : ItOk w K R H (.sta (numb 0 xs)) (Itn n C Y) := by
  refine ⟨fun R' h H' i x hr e => ⟨hC _ _ x, ?_⟩, fun R' h H' i d x hr e => ⟨hC _ _ x, ?_⟩, fun R' h H' i d y H2 x hr e yl => ?_⟩
  · simp only [Sv.at] at e
    have e' := Option.some.inj e
    rw [numb_get] at e'
    rw [hn]
    cases z : xs[i]? with
    | none => exact List.getElem?_eq_none_iff.mp z
    | some p => rw [z] at e'; cases e'
  · have e' := sta_some e
    rw [numb_get] at e'
    rw [hn]
    cases z : xs[i]? with
    | none => rw [z] at e'; cases e'
    | some p => exact (List.getElem?_eq_some_iff.mp z).1
  · have e' := sta_some e
    rw [numb_get] at e'
    obtain ⟨T, v, rfl, hT, rfl, hy⟩ := yl
    cases z : xs[i]? with
    | none => rw [z] at e'; cases e'
    | some p =>
      rw [z] at e'; cases e'
      refine ⟨Ext.new hT, hr.new hT, vr_pair hT ?_ (hY _ _ _ _ _ x z hy)⟩
      rw [Nat.zero_add]
      exact rfl
theorem ok_enu {a : Addr} {n : Nat} (k : R[n]? = some a) : ItOk w K R H (.enu n) (Ite K a) := by
  have get : ∀ {R' : List Addr} {h : Hh} {H' : Hp} {xs : List D}, Ext K R H R' H' → HRel w K R' h H' → h[n]? = some (.lst xs) → ∃ vs, SqL K H' a vs ∧ VRs K H' R' xs vs := by
    intro R' h H' xs x hr e1
    obtain ⟨vs, h1, h2⟩ := hr.ob n _ a e1 (x.at k)
    exact ⟨vs, SqL.of h1, h2⟩
  refine ⟨fun R' h H' i x hr e => ?_, fun R' h H' i d x hr e => ?_, fun R' h H' i d y H2 x hr e yl => ?_⟩
  all_goals
    simp only [Sv.at] at e
    cases q : lstAt h n with
    | none => rw [q] at e; cases e
    | some xs =>
      rw [q] at e
      obtain ⟨vs, h1, h2⟩ := get x hr (lstAt_some q)
      have e' := Option.some.inj e
      dsimp only at e'
      cases z : xs[i]? with
      | none =>
        first
          | exact ⟨vs, h1, by rw [h2.len]; exact List.getElem?_eq_none_iff.mp z⟩
          | (rw [z] at e'; cases e')
      | some p =>
        rw [z] at e'
        first
          | (cases e'; done)
          | (cases e'
             obtain ⟨v, h3, h4⟩ := h2.get z
             first
               | exact ⟨vs, v, h1, h3⟩
               | (obtain ⟨T, v', rfl, hT, rfl, hy⟩ := yl
                  have := hy vs h1
                  rw [h3] at this
                  cases this
                  exact ⟨Ext.new hT, hr.new hT, vr_pair hT rfl h4⟩))
theorem pairs_get : ∀ (xs ys : List D) (i : Nat), (pairs xs ys)[i]? = match xs[i]?, ys[i]? with
    | some x, some y => some (.tup [x, y])
    | _, _ => none
  | [], ys, i => by simp [pairs]
  | x :: xs, [], i => by
    simp only [pairs, List.getElem?_nil]
    split
    · rename_i h; cases h
    · rfl
  | x :: xs, y :: ys, 0 => by simp [pairs]
  | x :: xs, y :: ys, i + 1 => by rw [pairs, List.getElem?_cons_succ, pairs_get xs ys i, List.getElem?_cons_succ, List.getElem?_cons_succ]
theorem ok_zipT {a b : Addr} {xs ys : List D} {vs us : List V} (ha : SqT K H a vs) (r : VRs K H R xs vs) (hb : SqT K H b us) (r2 : VRs K H R ys us) : ItOk w K R H (.sta (pairs xs ys)) (RZ.ItzT K a b) := by
  refine ⟨fun R' h H' i x hr e => ⟨vs, us, x.2.1 _ _ ha, x.2.1 _ _ hb, ?_⟩, fun R' h H' i d x hr e => ?_, fun R' h H' i d y H2 x hr e yl => ?_⟩
  · simp only [Sv.at] at e
    have e' := Option.some.inj e
    rw [pairs_get] at e'
    rw [r.len, r2.len]
    cases z : xs[i]? with
    | none => exact .inl (List.getElem?_eq_none_iff.mp z)
    | some p =>
      cases z2 : ys[i]? with
      | none => exact .inr (List.getElem?_eq_none_iff.mp z2)
      | some q => rw [z, z2] at e'; cases e'
  · have e' := sta_some e
    rw [pairs_get] at e'
    split at e'
    · rename_i x1 y1 z1 z2
      obtain ⟨v, h1, _⟩ := r.get z1
      obtain ⟨u, h2, _⟩ := r2.get z2
      exact ⟨vs, us, v, u, x.2.1 _ _ ha, x.2.1 _ _ hb, h1, h2⟩
    · cases e'
  · have e' := sta_some e
    rw [pairs_get] at e'
    obtain ⟨T, v, u, rfl, hT, rfl, hy1, hy2⟩ := yl
    split at e'
    · rename_i x1 y1 z1 z2
      cases e'
      obtain ⟨v', h1, k1⟩ := r.get z1
      obtain ⟨u', h2, k2⟩ := r2.get z2
      have q1 := hy1 vs (x.2.1 _ _ ha)
      have q2 := hy2 us (x.2.1 _ _ hb)
      rw [h1] at q1; cases q1
      rw [h2] at q2; cases q2
      exact ⟨Ext.new hT, hr.new hT, vr_pair hT (k1.mono x) (k2.mono x)⟩
    · cases e'
theorem ok_zip {a b : Addr} {n m : Nat} (k : R[n]? = some a) (k2 : R[m]? = some b) : ItOk w K R H (.zip n m) (Itz K a b) := by
  have get : ∀ {n : Nat} {a : Addr} {R' : List Addr} {h : Hh} {H' : Hp} {xs : List D}, R[n]? = some a → Ext K R H R' H' → HRel w K R' h H' → lstAt h n = some xs → ∃ vs, SqL K H' a vs ∧ VRs K H' R' xs vs := by
    intro n a R' h H' xs k x hr e1
    obtain ⟨vs, h1, h2⟩ := hr.ob n _ a (lstAt_some e1) (x.at k)
    exact ⟨vs, SqL.of h1, h2⟩
  refine ⟨fun R' h H' i x hr e => ?_, fun R' h H' i d x hr e => ?_, fun R' h H' i d y H2 x hr e yl => ?_⟩
  · simp only [Sv.at] at e
    split at e
    · rename_i xs ys e1 e2
      obtain ⟨vs, h1, h2⟩ := get k x hr e1
      obtain ⟨us, h3, h4⟩ := get k2 x hr e2
      have e' := Option.some.inj e
      refine ⟨vs, us, h1, h3, ?_⟩
      rw [h2.len, h4.len]
      cases z : xs[i]? with
      | none => exact .inl (List.getElem?_eq_none_iff.mp z)
      | some p =>
        cases z2 : ys[i]? with
        | none => exact .inr (List.getElem?_eq_none_iff.mp z2)
        | some q => rw [z, z2] at e'; cases e'
    · cases e
  · simp only [Sv.at] at e
    split at e
    · rename_i xs ys e1 e2
      obtain ⟨vs, h1, h2⟩ := get k x hr e1
      obtain ⟨us, h3, h4⟩ := get k2 x hr e2
      have e' := Option.some.inj e
      split at e'
      · rename_i x1 y1 z1 z2
        obtain ⟨v, h5, _⟩ := h2.get z1
        obtain ⟨u, h6, _⟩ := h4.get z2
        exact ⟨vs, us, v, u, h1, h3, h5, h6⟩
      · cases e'
    · cases e
  · simp only [Sv.at] at e
    split at e
    · rename_i xs ys e1 e2
      obtain ⟨vs, h1, h2⟩ := get k x hr e1
      obtain ⟨us, h3, h4⟩ := get k2 x hr e2
      have e' := Option.some.inj e
      obtain ⟨T, v, u, rfl, hT, rfl, hy1, hy2⟩ := yl
      split at e'
      · rename_i x1 y1 z1 z2
        cases e'
        obtain ⟨v', h5, k5⟩ := h2.get z1
        obtain ⟨u', h6, k6⟩ := h4.get z2
        have q1 := hy1 vs h1
        have q2 := hy2 us h3
        rw [h5] at q1; cases q1
        rw [h6] at q2; cases q2
        exact ⟨Ext.new hT, hr.new hT, vr_pair hT k5 k6⟩
      · cases e'
    · cases e
end
section
variable {X : Cx} {a b : Expr} {ma mb : Mx} {p pos tpos : Pos} {elts : List Expr} {kk : Nat}
theorem ji_enm (hg : Gl X "enumerate") (hm : X.mg "enumerate" = none) (ha : PE X a (J X ma)) (hs : starEach [a] X.env = [(false, eval a X.env)]) : PI X (.Tuple elts kk tpos) (.Call (.Name "enumerate" p) [a] [] pos) (JI X fun e h => bindM (ma e h) fun x h1 => opt h1 (enumD x h1)) :=
  ⟨fun pins s σ H Rf I ⟨R, h, e, sv, h', hr, en, eq, q⟩ => by
    refine Call_ (ld_blt I hg hm boot_enumerate (PyProof.Rows.callWith_type1 (thn ((pa_cons ha pa_nil hs).run pos pins s σ H (fun vs H1 => ∃ d1 h1 R1 v, vs = [v] ∧ opt h1 (enumD d1 h1) = some (sv, h') ∧ Ext X.K R H R1 H1 ∧ HRel X.w X.K R1 h1 H1 ∧ VR X.K H1 R1 d1 v) I
      (J.step hr en eq fun d1 h1 R1 H1 v e1 x1 hr1 en1 v1 => ⟨d1, h1, R1, v, rfl, e1, x1, hr1, v1⟩)) fun us s1 ⟨vs, H1, I1, r1, d1, h1, R1, x, ex, e1, x1, hr1, v1⟩ => ?_) hs rfl))
    subst ex
    obtain ⟨z, a0⟩ := opt_ok e1
    subst a0
    cases r1 with
    | cons r rr =>
      cases rr
      have fr : ∀ b, b ∈ [s1.heap.objs.size + 1, s1.heap.objs.size] → FpOk X pins H1 b := fun b hb => by
        have e' : b = s1.heap.objs.size + 1 ∨ b = s1.heap.objs.size := by simpa using hb
        have hle : s1.heap.objs.size ≤ b := by
          rcases e' with z | z
          · rw [z]; exact Nat.le_add_right _ _
          · rw [z]; exact Nat.le_refl _
        exact I1.fpOk hle (I1.hok.fresh hle)
      cases d1 <;> simp only [enumD] at z <;> (first | (cases z; done) | skip)
      case str y =>
        cases z
        subst v1
        obtain ⟨t, rfl⟩ := r
        refine enum1_begins (begins_text y t) trivial fun h' he hit hsz hk => wpAny_pyIter_enum he ?_
        have I2 : L2.Inv X pins σ H1 { s1 with heap := h' } := I1.kept (t' := s1.toks) hk
        refine ⟨s1.heap.objs.size + 1, [s1.heap.objs.size + 1, s1.heap.objs.size], _, _, H1, rfl, I2, turn_enumS (s1.heap.objs.size + 1) s1.heap.objs.size y t, ⟨⟨.none, he⟩, ⟨_, hit, rfl, rfl⟩, Nat.zero_le _, Nat.succ_ne_self _⟩, fr, ?_⟩
        refine q R1 H1 _ x1 hr1 (ok_itn (by rw [signs_len]) (fun _ _ _ => trivial) fun R' H' i d v x hd ⟨c, h1, h2⟩ => ?_)
        obtain ⟨c', k1, k2⟩ := signs_get hd
        rw [h1] at k1; cases k1
        subst k2
        exact h2
      case tup xs =>
        cases z
        obtain ⟨c, vs, rfl, hc, rx⟩ := v1
        cases r
        obtain ⟨its, rv, p', hz⟩ := I1.tuple hc
        refine enum1_begins (begins_tuple c its.toArray) (show s1.heap.IsTuple c its.toArray from p') fun h' he hit hsz hk => wpAny_pyIter_enum he ?_
        have I2 : L2.Inv X pins σ H1 { s1 with heap := h' } := I1.kept (t' := s1.toks) hk
        refine ⟨s1.heap.objs.size + 1, [s1.heap.objs.size + 1, s1.heap.objs.size], _, _, H1, rfl, I2, turn_enumT c (s1.heap.objs.size + 1) s1.heap.objs.size vs, ⟨⟨.none, he⟩, ⟨_, hit, rfl, rfl⟩, Nat.zero_le _, Nat.succ_ne_self _⟩, fr, ?_⟩
        refine q R1 H1 _ x1 hr1 (ok_itn rx.len (fun _ _ x => x.2.1 _ _ hc) fun R' H' i d v x hd hv => ?_)
        obtain ⟨v', k1, k2⟩ := rx.get hd
        rw [hv] at k1; cases k1
        exact k2.mono x
      case ref n =>
        obtain ⟨c, k, rfl⟩ := v1
        cases r
        split at z
        · rename_i xs ex
          cases z
          obtain ⟨vs, k1, k2⟩ := hr1.ob n _ c ex k
          obtain ⟨its, rv, p', hz⟩ := I1.list (SqL.of k1)
          refine call_enumerate_list p'.isList fun h' he hit hsz hk => wpAny_pyIter_enum he ?_
          have I2 : L2.Inv X pins σ H1 { s1 with heap := h' } := I1.kept (t' := s1.toks) hk
          exact ⟨s1.heap.objs.size + 1, [s1.heap.objs.size + 1, s1.heap.objs.size], _, _, H1, rfl, I2, turn_enum c (s1.heap.objs.size + 1) s1.heap.objs.size, ⟨⟨.none, he⟩, hit, Nat.succ_ne_self _⟩, fr, q R1 H1 _ x1 hr1 (ok_enu k)⟩
        · cases z⟩
theorem ji_zp (hg : Gl X "zip") (hm : X.mg "zip" = none) (ha : PE X a (J X ma)) (hb : PE X b (J X mb)) (hs : starEach [a, b] X.env = (false, eval a X.env) :: starEach [b] X.env) (hs2 : starEach [b] X.env = (false, eval b X.env) :: starEach [] X.env) (hpl : (backTo pos (starEach [b] X.env)).any (·.1) = false) :
    PI X (.Tuple elts kk tpos) (.Call (.Name "zip" p) [a, b] [] pos) (JI X fun e h => bindM (ma e h) fun x h1 => bindM (mb e h1) fun y h2 => opt h2 (zipD x y h2)) :=
  pi_imp (RZ.pi_zipA hg hm (pa_cons ha (pa_cons hb pa_nil hs2) hs) hs hpl) fun σ H Rf ⟨R, h, e, sv, h', hr, en, eq, q⟩ => J.step hr en eq fun d1 h1 R1 H1 v e1 x1 hr1 en1 v1 =>
    J.step hr1 en1 e1 fun d2 h2 R2 H2 u e2 x2 hr2 en2 v2 => by
      obtain ⟨z, a0⟩ := opt_ok e2
      subst a0
      have v1' := v1.mono x2
      unfold zipD at z
      split at z
      · rename_i xs ys
        cases z
        obtain ⟨c, vs, rfl, hc, rx⟩ := v1'
        obtain ⟨c2, us, rfl, hc2, ry⟩ := v2
        exact ⟨c, c2, vs, us, rfl, .inr ⟨hc, hc2, q R2 H2 _ (x1.trans x2) hr2 (ok_zipT hc rx hc2 ry)⟩⟩
      · rename_i n m
        obtain ⟨c, k, rfl⟩ := v1'
        obtain ⟨c2, k2, rfl⟩ := v2
        split at z
        · rename_i xs ys e3 e4
          cases z
          obtain ⟨vs, w1, w2⟩ := hr2.ob n _ c (lstAt_some e3) k
          obtain ⟨us, w3, w4⟩ := hr2.ob m _ c2 (lstAt_some e4) k2
          exact ⟨c, c2, vs, us, rfl, .inl ⟨SqL.of w1, SqL.of w3, q R2 H2 _ (x1.trans x2) hr2 (ok_zip k k2)⟩⟩
        · cases z
      · cases z
end
end Z
set_option Elab.async false
set_option linter.all false
set_option autoImplicit false
set_option maxRecDepth 100000
set_option maxHeartbeats 4000000
namespace Z
open PySem L2 PyProof.Rows

/-! ### list comprehensions -/
section
variable {w : World} {K : PySem.W.Frag} {H H0 : Hp} {R R0 : List Addr} {h : Hh} {g : Nat}
/-- what is forgotten: the heap from g on -/
theorem gcut_ok (hg : R0.length ≤ g) (x : Ext K R0 H0 R H) (hr : HRel w K R h H) : ∃ R', HRel w K R' (gc g [] h) H ∧ Ext K R0 H0 R' H ∧ R'.take g = R.take g := by
  obtain ⟨R', h1, h2⟩ := gc_ok (n := g) (ds := []) hr
  refine ⟨R', h1, ?_, ?_⟩
  · rcases h2 with rfl | ⟨rfl, _⟩
    · exact x
    · obtain ⟨⟨T, rfl⟩, x2, x3⟩ := x
      exact ⟨⟨T.take (g - R0.length), by rw [List.take_append, List.take_of_length_le hg]⟩, x2, x3⟩
  · rcases h2 with rfl | ⟨rfl, _⟩
    · rfl
    · rw [List.take_take, Nat.min_self]
end
section
variable {X : Cx} {mi mi1 : En → Hh → Option (Sv × Hh)} {mc mc1 : En → Hh → Option (Bool × Hh)} {me : Mx} {t t1 : Tg} {vs vs1 : List Nat}
/-- what the new list's turns do -/
def lcM (mi : En → Hh → Option (Sv × Hh)) (t : Tg) (mc : En → Hh → Option (Bool × Hh)) (me : Mx) (vs : List Nat) : Mx := fun e h => bindM (mi e h) fun sv h1 =>
      (match overI (h1.length + 1) (appI h1.length (turnD t (wipeE e vs) mc me)) sv (sv.len h1 + 1) 0 (h1 ++ [.lst []]) with
      | none => none
      | some h2 => some (.ref h1.length, h2))
theorem en_wipe {K : PySem.W.Frag} {H : Hp} {R : List Addr} {e : En} {σ : L2.St} (r : EnR K H R e σ) (vs : List Nat) : EnR K H R (wipeE e vs) (L2.wipe σ vs) := r.wipe vs
/-- one turn whose item goes to the list -/
theorem app_turn {K : PySem.W.Frag} {σ : L2.St} {H' H0 : Hp} {R R0 : List Addr} {h : Hh} {e0 : En} {n : Nat} {D : Addr} {x : Z.D} {v : V} {h' : Hh} {Nx : Hp → Prop} (hK : K = X.K) (ht : ∀ i ∈ t.ixs, i ∈ vs) (hr : HRel X.w X.K R h H') (en : EnR X.K H' R (wipeE e0 vs) (L2.wipe σ vs)) (vr : VR X.K H' R x v) (hD : R[n]? = some D)
    (eq : appI n (turnD t (wipeE e0 vs) mc me) x h = some h') (q : ∀ R' H'', Ext X.K R H' R' H'' → HRel X.w X.K R' h' H'' → Nx H'') :
    JG X t v (L2.wipe σ vs) H' fun σ2 H2 => L2.wipe σ2 vs = L2.wipe σ vs ∧ JT X mc σ2 H2 fun b H3 => if b = true then J X me σ2 H3 fun y H4 => ∃ acc, H4 D = some (.lst acc) ∧ acc.length < sizeLine ∧ Nx (upd H4 D (.lst (acc ++ [y]))) else Nx H3 := by
  unfold appI at eq
  cases z : turnD t (wipeE e0 vs) mc me x h with
  | none => rw [z] at eq; cases eq
  | some p =>
    rw [z] at eq
    unfold turnD at z
    cases za : assignD t x (wipeE e0 vs) with
    | none => rw [za] at z; cases z
    | some e1 =>
      rw [za] at z
      dsimp only at z
      refine ⟨R, h, _, x, e1, hr, en, vr, za, fun σ2 en2 oa => ⟨?_, ?_⟩⟩
      · exact oa.wipe ht
      · refine JT.step hr en2 z fun b h1 R1 H1 e2 x1 hr1 en1 => ?_
        cases b with
        | false =>
          rw [if_neg (by decide)]
          simp only [Bool.false_eq_true, if_false] at e2
          cases e2
          dsimp only at eq
          cases eq
          exact q R1 H1 x1 hr1
        | true =>
          rw [if_pos rfl] at e2 ⊢
          refine J.step hr1 en1 e2 fun y h2 R2 H2 u e3 x2 hr2 en3 v2 => ?_
          cases e3
          dsimp only at eq
          cases zl : h2[n]? with
          | none => rw [zl] at eq; cases eq
          | some o =>
            rw [zl] at eq
            cases o with
            | dct ep kvs => cases eq
            | lst acc =>
              dsimp only at eq
              have hD2 : R2[n]? = some D := x2.at (x1.at hD)
              obtain ⟨us, k1, k2⟩ := hr2.ob n _ D zl hD2
              split at eq
              · rename_i hz
                cases eq
                exact ⟨us, k1, by rw [k2.len]; exact hz, q R2 _ ((x1.trans x2).trans (hr2.ext hD2)) (hr2.putL hD2 (k2.app (.one v2)))⟩
              · cases eq
theorem lc_imp (ht : ∀ i ∈ t.ixs, i ∈ vs) {σ : L2.St} {H : Hp} {Q : VK} (j : J X (lcM mi t mc me vs) σ H Q) : tLc (JI X mi) (JG X t) (JT X mc) (J X me) vs σ H Q := by
  obtain ⟨R, h, e, d, h', hr, en, eq, q⟩ := j
  unfold lcM at eq
  obtain ⟨sv, h1, e1, e2⟩ := bindM_ok eq
  refine ⟨R, h, e, sv, h1, hr, en, e1, fun R1 H1 Jt x1 hr1 it D hD => ?_⟩
  cases z : overI (h1.length + 1) (appI h1.length (turnD t (wipeE e vs) mc me)) sv (sv.len h1 + 1) 0 (h1 ++ [.lst []]) with
  | none => rw [z] at e2; cases e2
  | some h2 =>
    rw [z] at e2
    obtain ⟨a1, a2⟩ : Z.D.ref h1.length = d ∧ h2 = h' := by cases e2; exact ⟨rfl, rfl⟩
    subst a1; subst a2
    have xD : Ext X.K R1 H1 (R1 ++ [D]) (upd H1 D (.lst [])) := Ext.more D (Ext.new hD)
    have hrD : HRel X.w X.K (R1 ++ [D]) (h1 ++ [.lst []]) (upd H1 D (.lst [])) := hr1.newL .nil hD
    have hl : (R1 ++ [D]).length = h1.length + 1 := by rw [List.length_append, hr1.len]; rfl
    have hDn : (R1 ++ [D])[h1.length]? = some D := by rw [← hr1.len]; simp
    refine ⟨fun i fu H' => ∃ R' ha, Ext X.K (R1 ++ [D]) (upd H1 D (.lst [])) R' H' ∧ HRel X.w X.K R' ha H' ∧ overI (h1.length + 1) (appI h1.length (turnD t (wipeE e vs) mc me)) sv fu i ha = some h2, ⟨_, R1 ++ [D], _, Ext.refl, hrD, z⟩, ?_⟩
    rintro i fu H' ⟨R', ha, xx, hra, eqa⟩
    have en' : EnR X.K H' R' (wipeE e vs) (L2.wipe σ vs) := (((en.mono x1).mono xD).mono xx).wipe vs
    cases fu with
    | zero => simp only [overI] at eqa; cases eqa
    | succ fu =>
      unfold overI at eqa
      cases zs : sv.at ha i with
      | none => rw [zs] at eqa; cases eqa
      | some o =>
        rw [zs] at eqa
        cases o with
        | none =>
          have ea : ha = h2 := Option.some.inj eqa
          subst ea
          exact .inl ⟨it.stop R' ha H' i (xD.trans xx) hra zs, q R' H' _ ((x1.trans xD).trans xx) hra ⟨D, xx.at hDn, rfl⟩⟩
        | some y =>
          dsimp only at eqa
          refine .inr ⟨it.go R' ha H' i y (xD.trans xx) hra zs, ?_⟩
          cases zb : appI h1.length (turnD t (wipeE e vs) mc me) y ha with
          | none => rw [zb] at eqa; cases eqa
          | some hb =>
            rw [zb] at eqa
            dsimp only at eqa
            refine ⟨fun H2 => ∃ R2, Ext X.K (R1 ++ [D]) (upd H1 D (.lst [])) R2 H2 ∧ HRel X.w X.K R2 hb H2, fun H2 ⟨R2, x2, hr2⟩ => ?_, fun v H2 yl => ?_⟩
            · obtain ⟨R3, hr3, x3, _⟩ := gcut_ok (g := h1.length + 1) (by rw [hl]; exact Nat.le_refl _) x2 hr2
              exact ⟨fu, Nat.lt_succ_self _, R3, _, x3, hr3, eqa⟩
            · obtain ⟨y1, y2, y3⟩ := it.yld R' ha H' i y v H2 (xD.trans xx) hra zs yl
              exact app_turn (K := X.K) (H0 := H) (R0 := R) rfl ht y2 (en'.mono y1) y3 (xx.at hDn) zb fun R3 H3 x3 hr3 => ⟨R3, (xx.trans y1).trans x3, hr3⟩
end
section
variable {X : Cx} {c : Cc} {k : Nat} {mi mi1 : En → Hh → Option (Sv × Hh)} {mc mc1 : En → Hh → Option (Bool × Hh)} {me : Mx} {t t1 : Tg} {vs1 : List Nat} {elt tg iter tg1 iter1 : Expr} {ifs ifs1 : List Expr} {scope : Scope} {own : List (Str × Nat)} {pos spos py : Pos}
/-- what holds in a block, for each way it may be entered -/
def InBlk (X : Cx) (scope : Scope) (P : Cx → Prop) : Prop := ∀ (s : Shared) (H : Hp) (C : Addr) (cl : List (Str × Addr)) (fp : List Addr), P (X.blk s H scope (compEnvC scope cl C X.env) fp)
theorem j_lc (hc : X.calm = true) (hN : X.N.Nodup) (hi : PI X tg iter (JI X mi)) (ok : BlkOk X.N X.env.scope scope own) (hg : InBlk X scope fun Y => PG Y tg (JG X t)) (ht : InBlk X scope fun Y => PTs Y ifs (JT X mc)) (he : InBlk X scope fun Y => PE Y elt (J X me)) (hs : ∀ x, foldedSetIterable iter X.env x = pure x) (hv : ∀ i ∈ t.ixs, i ∈ own.map (·.2)) :
    PE X (.ListComp elt [⟨tg, iter, ifs, 0⟩] scope pos) (J X (lcM mi t mc me (own.map (·.2)))) :=
  pe_imp (pe_lc hc hN hi ok hg ht he hs) fun σ H Q j => lc_imp hv j
theorem js_lc {i : Nat} {y : Str} (hc : X.calm = true) (hN : X.N.Nodup) (hy : X.N[i]? = some y) (hyl : X.env.scope.names.lookup y = some .local) (hsw : swapsWith (.ListComp elt [⟨tg, iter, ifs, 0⟩] scope pos) (some (.Name y py)) spos.line X.env = pure true)
    (hi : PI X tg iter (JI X mi)) (ok : BlkOk X.N X.env.scope scope own) (hg : InBlk X scope fun Y => PG Y tg (JG X t)) (ht : InBlk X scope fun Y => PTs Y ifs (JT X mc)) (he : InBlk X scope fun Y => PE Y elt (J X me)) (hs : ∀ x, foldedSetIterable iter X.env x = pure x) (hv : ∀ i ∈ t.ixs, i ∈ own.map (·.2)) :
    PS X (.Assign [.Name y py] (.ListComp elt [⟨tg, iter, ifs, 0⟩] scope pos) spos) (JS X fun e h => bindM (lcM mi t mc me (own.map (·.2)) e h) fun d h1 => opt h1 ((assignD (.nm i) d e).map .nx)) :=
  ps_imp (ps_setLc hc hN hy hyl hsw hi ok hg ht he hs) fun D σ H ⟨R, h, e, f, h', hr, en, eq, q⟩ => lc_imp hv (J.step hr en eq fun d1 h1 R1 H1 v e1 x1 hr1 en1 v1 => by
    obtain ⟨z, a0⟩ := opt_ok e1
    subst a0
    have z' : f = .nx (e.set i (some d1)) := (Option.some.inj z).symm
    subst z'
    exact q R1 H1 x1 hr1 _ (en1.set v1 i))
end
end Z
set_option Elab.async false
set_option linter.all false
set_option autoImplicit false
set_option maxRecDepth 100000
set_option maxHeartbeats 4000000
namespace Z
open PySem L2 PyProof.Rows

section
variable {X : Cx} {mi mi1 : En → Hh → Option (Sv × Hh)} {mc mc1 : En → Hh → Option (Bool × Hh)} {me : Mx} {t t1 : Tg} {vs vs1 : List Nat}
/-- the second clause's own loop -/
def lc2B (n : Nat) (t : Tg) (mc : En → Hh → Option (Bool × Hh)) (mi1 : En → Hh → Option (Sv × Hh)) (t1 : Tg) (mc1 : En → Hh → Option (Bool × Hh)) (me : Mx) (vs1 : List Nat) (e0 : En) (x : D) (h2 : Hh) : Option Hh := match assignD t x e0 with
          | none => none
          | some e1 => match mc e1 h2 with
            | none => none
            | some (false, h3) => some h3
            | some (true, h3) => match mi1 e1 h3 with
              | none => none
              | some (sv1, h4) => overI h4.length (appI n (turnD t1 (wipeE e1 vs1) mc1 me)) sv1 (sv1.len h4 + 1) 0 h4
def lc2M (mi : En → Hh → Option (Sv × Hh)) (t : Tg) (mc : En → Hh → Option (Bool × Hh)) (mi1 : En → Hh → Option (Sv × Hh)) (t1 : Tg) (mc1 : En → Hh → Option (Bool × Hh)) (me : Mx) (vs vs1 : List Nat) : Mx := fun e h => bindM (mi e h) fun sv h1 =>
      (match overI (h1.length + 1) (lc2B h1.length t mc mi1 t1 mc1 me vs1 (wipeE e vs)) sv (sv.len h1 + 1) 0 (h1 ++ [.lst []]) with
      | none => none
      | some h2 => some (.ref h1.length, h2))
theorem lc2_imp (ht : ∀ i ∈ t.ixs, i ∈ vs) (ht1 : ∀ i ∈ t1.ixs, i ∈ vs1) {σ : L2.St} {H : Hp} {Q : VK} (j : J X (lc2M mi t mc mi1 t1 mc1 me vs vs1) σ H Q) : tLc2 (JI X mi) (JG X t) (JT X mc) (JI X mi1) (JG X t1) (JT X mc1) (J X me) vs vs1 σ H Q := by
  obtain ⟨R, h, e, d, h', hr, en, eq, q⟩ := j
  unfold lc2M at eq
  obtain ⟨sv, h1, e1, e2⟩ := bindM_ok eq
  refine ⟨R, h, e, sv, h1, hr, en, e1, fun R1 H1 Jt x1 hr1 it D hD => ?_⟩
  cases z : overI (h1.length + 1) (lc2B h1.length t mc mi1 t1 mc1 me vs1 (wipeE e vs)) sv (sv.len h1 + 1) 0 (h1 ++ [.lst []]) with
  | none => rw [z] at e2; cases e2
  | some h2 =>
    rw [z] at e2
    obtain ⟨a1, a2⟩ : Z.D.ref h1.length = d ∧ h2 = h' := by cases e2; exact ⟨rfl, rfl⟩
    subst a1; subst a2
    have xD : Ext X.K R1 H1 (R1 ++ [D]) (upd H1 D (.lst [])) := Ext.more D (Ext.new hD)
    have hrD : HRel X.w X.K (R1 ++ [D]) (h1 ++ [.lst []]) (upd H1 D (.lst [])) := hr1.newL .nil hD
    have hl : (R1 ++ [D]).length = h1.length + 1 := by rw [List.length_append, hr1.len]; rfl
    have hDn : (R1 ++ [D])[h1.length]? = some D := by rw [← hr1.len]; simp
    refine ⟨fun i fu H' => ∃ R' ha, Ext X.K (R1 ++ [D]) (upd H1 D (.lst [])) R' H' ∧ HRel X.w X.K R' ha H' ∧ overI (h1.length + 1) (lc2B h1.length t mc mi1 t1 mc1 me vs1 (wipeE e vs)) sv fu i ha = some h2, ⟨_, R1 ++ [D], _, Ext.refl, hrD, z⟩, ?_⟩
    rintro i fu H' ⟨R', ha, xx, hra, eqa⟩
    have en' : EnR X.K H' R' (wipeE e vs) (L2.wipe σ vs) := (((en.mono x1).mono xD).mono xx).wipe vs
    cases fu with
    | zero => simp only [overI] at eqa; cases eqa
    | succ fu =>
      unfold overI at eqa
      cases zs : sv.at ha i with
      | none => rw [zs] at eqa; cases eqa
      | some o =>
        rw [zs] at eqa
        cases o with
        | none =>
          have ea : ha = h2 := Option.some.inj eqa
          subst ea
          exact .inl ⟨it.stop R' ha H' i (xD.trans xx) hra zs, q R' H' _ ((x1.trans xD).trans xx) hra ⟨D, xx.at hDn, rfl⟩⟩
        | some y =>
          dsimp only at eqa
          refine .inr ⟨it.go R' ha H' i y (xD.trans xx) hra zs, ?_⟩
          cases zb : lc2B h1.length t mc mi1 t1 mc1 me vs1 (wipeE e vs) y ha with
          | none => rw [zb] at eqa; cases eqa
          | some hb =>
            rw [zb] at eqa
            dsimp only at eqa
            refine ⟨fun H2 => ∃ R2, Ext X.K (R1 ++ [D]) (upd H1 D (.lst [])) R2 H2 ∧ HRel X.w X.K R2 hb H2, fun H2 ⟨R2, x2, hr2⟩ => ?_, fun v H2 yl => ?_⟩
            · obtain ⟨R3, hr3, x3, _⟩ := gcut_ok (g := h1.length + 1) (by rw [hl]; exact Nat.le_refl _) x2 hr2
              exact ⟨fu, Nat.lt_succ_self _, R3, _, x3, hr3, eqa⟩
            · obtain ⟨y1, y2, y3⟩ := it.yld R' ha H' i y v H2 (xD.trans xx) hra zs yl
              unfold lc2B at zb
              cases za : assignD t y (wipeE e vs) with
              | none => rw [za] at zb; cases zb
              | some ey =>
                rw [za] at zb
                dsimp only at zb
                refine ⟨R', ha, _, y, ey, y2, en'.mono y1, y3, za, fun σ2 en2 oa => ⟨oa.wipe ht, ?_⟩⟩
                cases zc : mc ey ha with
                | none => rw [zc] at zb; cases zb
                | some p =>
                  obtain ⟨b, h3⟩ := p
                  rw [zc] at zb
                  refine ⟨R', ha, ey, b, h3, y2, en2, zc, fun R3 H3 x3 hr3 => ?_⟩
                  cases b with
                  | false =>
                    rw [if_neg (by decide)]
                    have ea : h3 = hb := Option.some.inj zb
                    subst ea
                    exact ⟨R3, (xx.trans y1).trans x3, hr3⟩
                  | true =>
                    rw [if_pos rfl]
                    dsimp only at zb
                    cases zi : mi1 ey h3 with
                    | none => rw [zi] at zb; cases zb
                    | some p =>
                      obtain ⟨sv1, h4⟩ := p
                      rw [zi] at zb
                      dsimp only at zb
                      refine ⟨R3, h3, ey, sv1, h4, hr3, en2.mono x3, zi, fun R4 H4 J1 x4 hr4 it1 => ?_⟩
                      have D4 : R4[h1.length]? = some D := x4.at (x3.at (y1.at (xx.at hDn)))
                      have en4 : EnR X.K H4 R4 ey σ2 := (en2.mono x3).mono x4
                      have xx4 : Ext X.K (R1 ++ [D]) (upd H1 D (.lst [])) R4 H4 := ((xx.trans y1).trans x3).trans x4
                      refine ⟨fun j k H5 => ∃ R5 hc, Ext X.K R4 H4 R5 H5 ∧ HRel X.w X.K R5 hc H5 ∧ overI h4.length (appI h1.length (turnD t1 (wipeE ey vs1) mc1 me)) sv1 k j hc = some hb, ⟨_, R4, h4, Ext.refl, hr4, zb⟩, ?_⟩
                      rintro j k H5 ⟨R5, hc, x5, hr5, eq5⟩
                      cases k with
                      | zero => simp only [overI] at eq5; cases eq5
                      | succ k =>
                        unfold overI at eq5
                        cases zs1 : sv1.at hc j with
                        | none => rw [zs1] at eq5; cases eq5
                        | some o1 =>
                          rw [zs1] at eq5
                          cases o1 with
                          | none =>
                            have ea : hc = hb := Option.some.inj eq5
                            subst ea
                            exact .inl ⟨it1.stop R5 hc H5 j x5 hr5 zs1, R5, xx4.trans x5, hr5⟩
                          | some y1' =>
                            dsimp only at eq5
                            refine .inr ⟨it1.go R5 hc H5 j y1' x5 hr5 zs1, ?_⟩
                            cases zd : appI h1.length (turnD t1 (wipeE ey vs1) mc1 me) y1' hc with
                            | none => rw [zd] at eq5; cases eq5
                            | some hd =>
                              rw [zd] at eq5
                              dsimp only at eq5
                              refine ⟨fun H6 => ∃ R6, Ext X.K R4 H4 R6 H6 ∧ HRel X.w X.K R6 hd H6, fun H6 ⟨R6, x6, hr6⟩ => ?_, fun v1 H6 yl1 => ?_⟩
                              · obtain ⟨R7, hr7, x7, _⟩ := gcut_ok (g := h4.length) (by rw [hr4.len]; exact Nat.le_refl _) x6 hr6
                                exact ⟨k, Nat.lt_succ_self _, R7, _, x7, hr7, eq5⟩
                              · obtain ⟨w1, w2, w3⟩ := it1.yld R5 hc H5 j y1' v1 H6 x5 hr5 zs1 yl1
                                exact app_turn (K := X.K) (H0 := H) (R0 := R) rfl ht1 w2 (((en4.mono x5).mono w1).wipe vs1) w3 (w1.at (x5.at D4)) zd fun R7 H7 x7 hr7 => ⟨R7, (x5.trans w1).trans x7, hr7⟩
end
section
variable {X : Cx} {mi mi1 : En → Hh → Option (Sv × Hh)} {mc mc1 : En → Hh → Option (Bool × Hh)} {me : Mx} {t t1 : Tg} {vs1 : List Nat} {elt tg iter tg1 iter1 : Expr} {ifs ifs1 : List Expr} {scope : Scope} {own : List (Str × Nat)} {pos spos py : Pos}
theorem j_lc2 (hc : X.calm = true) (hN : X.N.Nodup) (hi : PI X tg iter (JI X mi)) (ok : BlkOk X.N X.env.scope scope own) (hv1 : ∀ i ∈ vs1, i ∈ own.map (·.2)) (hg : InBlk X scope fun Y => PG Y tg (JG X t)) (ht : InBlk X scope fun Y => PTs Y ifs (JT X mc)) (hi1 : InBlk X scope fun Y => PI Y tg1 iter1 (JI X mi1)) (hg1 : InBlk X scope fun Y => PG Y tg1 (JG X t1)) (ht1 : InBlk X scope fun Y => PTs Y ifs1 (JT X mc1))
    (he : InBlk X scope fun Y => PE Y elt (J X me)) (hs : ∀ x, foldedSetIterable iter X.env x = pure x) (hs1 : ∀ env x, foldedSetIterable iter1 env x = pure x) (hv : ∀ i ∈ t.ixs, i ∈ own.map (·.2)) (hv2 : ∀ i ∈ t1.ixs, i ∈ vs1) :
    PE X (.ListComp elt [⟨tg, iter, ifs, 0⟩, ⟨tg1, iter1, ifs1, 0⟩] scope pos) (J X (lc2M mi t mc mi1 t1 mc1 me (own.map (·.2)) vs1)) :=
  pe_imp (pe_lc2 hc hN hi ok hv1 hg ht hi1 hg1 ht1 he hs hs1) fun σ H Q j => lc2_imp hv hv2 j
end
end Z
set_option Elab.async false
set_option linter.all false
set_option autoImplicit false
set_option maxRecDepth 100000
set_option maxHeartbeats 4000000
namespace Z
open PySem L2 PyProof.Rows SeqAt

/-! ### methods -/
def Mt.name : Mt → Str
  | .append => "append" | .pop => "pop" | .popAt => "pop" | .join => "join" | .strip => "strip" | .index => "index" | .get2 => "get" | .clear => "clear" | .count => "count" | .setdef => "setdefault"
def Mt.on : Mt → Nat → Option (String × String)
  | .append, 1 => some ("list", "list.append")
  | .pop, 1 => some ("list", "list.pop")
  | .popAt, 1 => some ("list", "list.pop")
  | .join, 3 => some ("str", "str.join")
  | .strip, 3 => some ("str", "str.strip")
  | .index, 1 => some ("list", "list.index")
  | .get2, 2 => some ("dict", "dict.get")
  | .clear, 1 => some ("list", "list.clear")
  | .count, 1 => some ("list", "list.count")
  | .setdef, 2 => some ("dict", "dict.setdefault")
  | _, _ => none
def kindT : Nat → String
  | 1 => "list" | 2 => "dict" | 3 => "str" | _ => "tuple"
theorem mth_facts {m : Mt} {k : Nat} {T id : String} (h : m.on k = some (T, id)) : T = kindT k ∧ k ≠ 0 ∧ k ≤ 3 ∧ PlainAttrs T ∧ Slot T m.name id ∧ typeOf (.builtin id) = pure (.type "method_descriptor") := by
  unfold Mt.on at h
  split at h <;> first | (cases h; done) | (cases h; refine ⟨rfl, by decide, by decide, ?_⟩)
  · exact ⟨F.plainAttrs_list, F.slot_list_append, F.type_list_append⟩
  · exact ⟨F.plainAttrs_list, F.slot_list_pop, F.type_list_pop⟩
  · exact ⟨F.plainAttrs_list, F.slot_list_pop, F.type_list_pop⟩
  · exact ⟨F.plainAttrs_str, F.slot_str_join, F.type_str_join⟩
  · exact ⟨F.plainAttrs_str, F.slot_str_strip, F.type_str_strip⟩
  · exact ⟨F.plainAttrs_list, F.slot_list_index, F.type_list_index⟩
  · exact ⟨F.plainAttrs_dict, F.slot_dict_get, F.type_dict_get⟩
  · exact ⟨F.plainAttrs_list, F.slot_list_clear, F.type_list_clear⟩
  · exact ⟨F.plainAttrs_list, F.slot_list_count, F.type_list_count⟩
  · exact ⟨F.plainAttrs_dict, F.slot_dict_setdefault, F.type_dict_setdefault⟩
section
variable {X : Cx} {pins : List (Addr × Obj)} {σ : L2.St} {H : Hp} {s : Shared} {R : List Addr} {h : Hh}
theorem kind_type (I : L2.Inv X pins σ H s) (hr : HRel X.w X.K R h H) {x : D} {v : V} {u : Value} (vr : VR X.K H R x v) (rv : RelV v u) (hk : kindD h x ≠ 0) (hk3 : kindD h x ≤ 3) : s.TypeIs u (kindT (kindD h x)) ∧ ∀ a, u = .ref a → ∃ ob, s.heap.get? a = some ob ∧ ob.dict = none := by
  cases x <;> simp only [kindD] at hk ⊢ <;> (first | exact absurd rfl hk | skip)
  case str z =>
    subst vr
    obtain ⟨t, rfl⟩ := rv
    exact ⟨typeIs_str s z t, fun a e => nomatch e⟩
  case tup xs => exact absurd hk3 (by simp only [kindD]; decide)
  case ref n =>
    obtain ⟨a, k, rfl⟩ := vr
    cases rv
    split at hk
    · rename_i xs e1
      obtain ⟨vs, h1, h2⟩ := hr.ob n _ a e1 k
      obtain ⟨its, _, pl, _⟩ := I.list (SqL.of h1)
      refine ⟨pl.isList.typeIs, fun b e => ?_⟩
      cases e
      obtain ⟨o, n', e, c, hd, _⟩ := pl
      exact ⟨o, e, hd⟩
    · rename_i ep kvs e1
      obtain ⟨es, h1, h2⟩ := hr.ob n _ a e1 k
      obtain ⟨⟨e2, e3, o, ds, e4, e5, e6, e7⟩, _, _⟩ := I.hok a _ h1
      refine ⟨⟨o, e4, e5.1⟩, fun b e => ?_⟩
      cases e
      exact ⟨o, e4, e5.2.1⟩
    · exact absurd rfl hk

/-! counting, seeking -/
theorem cnt_ok (I : L2.Inv X pins σ H s) (hr : HRel X.w X.K R h H) {x : D} {A : Around} {vx : V} {ux : Value} (rx : VR X.K H R x vx) (r1 : RelV vx ux) (hu : A.units + 30 < cLine) : ∀ {ys : List D} {n : Nat} {vs : List V} {us : List Value}, cntD h x ys = some n → VRs X.K H R ys vs → Vals vs us →
    n = us.countP (fun u => (Classical.propDecidable (∃ d v, VR X.K H R d v ∧ RelV v u ∧ eqF h 30 d x = some true)).decide) ∧ ∀ y ∈ us, SeqAt.EqAt A s y ux ((Classical.propDecidable (∃ d v, VR X.K H R d v ∧ RelV v y ∧ eqF h 30 d x = some true)).decide)
  | [], n, vs, us, e, r, q => by
    rw [show vs = [] from r] at q
    cases q
    simp only [cntD] at e
    cases e
    exact ⟨rfl, fun y hy => nomatch hy⟩
  | y :: ys, n, vs, us, e, r, q => by
    obtain ⟨v, t, rfl, k1, k2⟩ := r
    cases q with
    | cons q1 q2 =>
      rename_i u us'
      simp only [cntD] at e
      split at e
      · rename_i a m e1 e2
        have e' := Option.some.inj e
        subst e'
        obtain ⟨z1, z2⟩ := cnt_ok I hr rx r1 hu e2 k2 q2
        have key : (Classical.propDecidable (∃ d v, VR X.K H R d v ∧ RelV v u ∧ eqF h 30 d x = some true)).decide = a := by
          cases a with
          | true => exact @decide_eq_true _ (Classical.propDecidable _) ⟨y, v, k1, q1, e1⟩
          | false =>
            refine @decide_eq_false _ (Classical.propDecidable _) ?_
            rintro ⟨d2, v2, m1, m2, m3⟩
            rw [relV_inj m2 q1] at m1
            rw [vr_inj I hr d2 y v m1 k1] at m3
            rw [e1] at m3; cases m3
        refine ⟨?_, fun w hw => ?_⟩
        · rw [List.countP_cons, ← z1, key]
          cases a <;> simp
        · rcases List.mem_cons.mp hw with rfl | hw
          · rw [key]; exact eqF_ok I hr 30 y x a A v vx w ux e1 k1 rx q1 r1 hu
          · exact z2 w hw
      · cases e
/-- the first place -/
theorem fst_ok {x : D} : ∀ {ys : List D} {n : Nat}, fstD h x ys = some n → n < ys.length ∧ (∀ (i : Nat) (y : D), ys[i]? = some y → ∃ b, eqF h 30 y x = some b ∧ (i < n → b = false) ∧ (i = n → b = true))
  | [], n, e => by simp only [fstD] at e; cases e
  | y :: ys, n, e => by
    simp only [fstD] at e
    split at e
    · rename_i e1
      split at e
      · rename_i ha
        have e' := Option.some.inj e
        subst e'
        refine ⟨Nat.succ_pos _, fun i z hz => ?_⟩
        cases i with
        | zero => simp at hz; subst hz; exact ⟨true, e1, (fun q => absurd q (Nat.lt_irrefl _)), fun _ => rfl⟩
        | succ i =>
          have hz' : ys[i]? = some z := by simpa using hz
          have := List.all_eq_true.mp ha z (List.mem_of_getElem? hz')
          obtain ⟨b, hb⟩ := Option.isSome_iff_exists.mp this
          exact ⟨b, hb, (fun q => absurd q (by omega)), fun q => absurd q (by omega)⟩
      · cases e
    · rename_i e1
      cases z : fstD h x ys with
      | none => rw [z] at e; cases e
      | some m =>
        rw [z] at e
        have e' : m + 1 = n := Option.some.inj e
        subst e'
        obtain ⟨h1, h2⟩ := fst_ok z
        refine ⟨Nat.succ_lt_succ h1, fun i w hw => ?_⟩
        cases i with
        | zero => simp at hw; subst hw; exact ⟨false, e1, (fun _ => rfl), fun q => absurd q (by omega)⟩
        | succ i =>
          obtain ⟨b, b1, b2, b3⟩ := h2 i w (by simpa using hw)
          exact ⟨b, b1, (fun q => b2 (by omega)), fun q => b3 (by omega)⟩
    · cases e
theorem strsOf_ok {K : PySem.W.Frag} : ∀ {ds : List D} {zs : List Str} {vs : List V}, strsOf ds = some zs → VRs K H R ds vs → vs = zs.map V.str
  | [], zs, vs, e, r => by simp only [strsOf] at e; cases e; exact r
  | .str x :: ds, zs, vs, e, r => by
    simp only [strsOf] at e
    cases q : strsOf ds with
    | none => rw [q] at e; cases e
    | some ms =>
      rw [q] at e; cases e
      obtain ⟨v, t, rfl, h1, h2⟩ := r
      rw [show v = V.str x from h1, strsOf_ok q h2]; rfl
  | .non :: _, zs, vs, e, r => by simp only [strsOf] at e; cases e
  | .bl _ :: _, zs, vs, e, r => by simp only [strsOf] at e; cases e
  | .int _ :: _, zs, vs, e, r => by simp only [strsOf] at e; cases e
  | .tup _ :: _, zs, vs, e, r => by simp only [strsOf] at e; cases e
  | .rol _ :: _, zs, vs, e, r => by simp only [strsOf] at e; cases e
  | .ref _ :: _, zs, vs, e, r => by simp only [strsOf] at e; cases e
theorem vrs_erase {K : PySem.W.Frag} : ∀ (j : Nat) {ds : List D} {vs : List V}, VRs K H R ds vs → VRs K H R (ds.eraseIdx j) (vs.eraseIdx j)
  | _, [], vs, r => by rw [show vs = [] from r]; exact rfl
  | 0, d :: ds, vs, r => by
    obtain ⟨v, t, rfl, k1, k2⟩ := r
    exact k2
  | j + 1, d :: ds, vs, r => by
    obtain ⟨v, t, rfl, k1, k2⟩ := r
    exact .cons k1 (vrs_erase j k2)
def eAt (h : Hh) (w : D) (ys : List D) (j : Nat) : Bool := match ys[j]? with
  | some y => eqF h 30 y w == some true
  | none => false
theorem eAt_is {h : Hh} {w : D} {ys : List D} (j : Nat) (y : D) (b : Bool) (h1 : ys[j]? = some y) (h2 : eqF h 30 y w = some b) : eAt h w ys j = b := by
  unfold eAt
  rw [h1]
  show (eqF h 30 y w == some true) = b
  rw [h2]
  cases b <;> rfl
/-- a method does what it says -/
theorem mt_ok (hu : X.A.units + 64 < cLine) (m : Mt) {x d : D} {xs : List D} {h' : Hh} {v : V} {u : Value} {vs : List V} {us : List Value} {Q : VK} {T id : String} (I : L2.Inv X pins σ H s) (hr : HRel X.w X.K R h H) (vr : VR X.K H R x v) (rv : RelV v u) (r1 : VRs X.K H R xs vs) (r2 : Vals vs us)
    (e : semM m x xs h = some (d, h')) (q : Fin X.w X.K R H d h' Q) (on : m.on (kindD h x) = some (T, id)) : wpAny (model X.prog X.w) X.A (call (.builtin id) (u :: us)) (EP X pins σ Q) X.xe s := by
  unfold semM at e
  split at e
  · -- append
    rename_i n w
    split at e
    · rename_i ys e1
      split at e
      · rename_i hz
        have ed := congrArg Prod.fst (Option.some.inj e)
        have eh := congrArg Prod.snd (Option.some.inj e)
        dsimp only at ed eh
        subst ed; subst eh
        simp only [kindD, e1, Mt.on] at on
        cases on
        obtain ⟨a, k, rfl⟩ := vr
        obtain ⟨ls, hl, rl⟩ := hr.ob n _ a e1 k
        obtain ⟨w', t, rfl, k1, k2⟩ := r1
        rw [show t = [] from k2] at r2
        refine mt_append pins s σ H _ _ u us Q I rv r2 ⟨a, ls, w', rfl, rfl, hl, by rw [rl.len]; exact hz, ?_⟩
        exact q R _ .non (hr.ext k) (hr.putL k (rl.app (.one k1))) rfl
      · cases e
    · cases e
  · -- pop at
    rename_i n w
    split at e
    · rename_i ys e1
      split at e
      · rename_i i
        cases z : ixN ys.length i with
        | none => rw [z] at e; cases e
        | some j =>
          rw [z] at e
          simp only [Option.bind_some] at e
          cases z2 : ys[j]? with
          | none => rw [z2] at e; cases e
          | some y =>
            rw [z2] at e
            have ed := congrArg Prod.fst (Option.some.inj e)
            have eh := congrArg Prod.snd (Option.some.inj e)
            dsimp only at ed eh
            subst ed; subst eh
            simp only [kindD, e1, Mt.on] at on
            cases on
            obtain ⟨a, k, rfl⟩ := vr
            obtain ⟨ls, hl, rl⟩ := hr.ob n _ a e1 k
            obtain ⟨w', t, rfl, k1, k2⟩ := r1
            rw [show t = [] from k2] at r2
            rw [show w' = V.int i from k1] at r2
            obtain ⟨q1, q2, q3, q4⟩ := ixN_seq z
            obtain ⟨z', hz'⟩ := I.lstM hl
            have sl : sizeLine < 2 ^ 62 := by decide
            have ll := rl.len
            obtain ⟨vy, k3, k4⟩ := rl.get z2
            refine mt_popAt pins s σ H _ _ u us Q I rv r2 ⟨a, ls, i, j, vy, rfl, rfl, hl, by omega, by omega, by rw [ll]; exact q1, k3, ?_⟩
            have ex : Ext X.K R H R (upd H a (.lst (ls.eraseIdx j))) := hr.ext k
            exact q R _ vy ex (hr.putL k (vrs_erase j rl)) (k4.mono ex)
      · cases e
    · cases e
  · -- pop
    rename_i n
    split at e
    · rename_i ys e1
      cases z2 : ys.getLast? with
      | none => rw [z2] at e; cases e
      | some y =>
        rw [z2] at e
        have ed := congrArg Prod.fst (Option.some.inj e)
        have eh := congrArg Prod.snd (Option.some.inj e)
        dsimp only at ed eh
        subst ed; subst eh
        simp only [kindD, e1, Mt.on] at on
        cases on
        obtain ⟨a, k, rfl⟩ := vr
        obtain ⟨ls, hl, rl⟩ := hr.ob n _ a e1 k
        rw [show vs = [] from r1] at r2
        rw [List.getLast?_eq_getElem?] at z2
        obtain ⟨vy, k3, k4⟩ := rl.get z2
        refine mt_pop pins s σ H _ _ u us Q I rv r2 ⟨a, ls, vy, rfl, rfl, hl, by rw [rl.len]; exact k3, ?_⟩
        have ex : Ext X.K R H R (upd H a (.lst ls.dropLast)) := hr.ext k
        refine q R _ vy ex (hr.putL k ?_) (k4.mono ex)
        rw [List.dropLast_eq_take, List.dropLast_eq_take, rl.len]
        exact rl.take _
    · cases e
  · -- join
    rename_i a w
    cases z : seqOf h w with
    | none => rw [z] at e; cases e
    | some ys =>
      rw [z] at e
      simp only [Option.bind_some] at e
      cases z2 : strsOf ys with
      | none => rw [z2] at e; cases e
      | some zs =>
        rw [z2] at e
        simp only [Option.bind_some] at e
        split at e
        · rename_i hz
          have ed := congrArg Prod.fst (Option.some.inj e)
          have eh := congrArg Prod.snd (Option.some.inj e)
          dsimp only at ed eh
          subst ed; subst eh
          simp only [kindD, Mt.on] at on
          cases on
          subst vr
          obtain ⟨w', t, rfl, k1, k2⟩ := r1
          rw [show t = [] from k2] at r2
          have key : ∃ p, w' = .ref p ∧ (SqL X.K H p (zs.map V.str) ∨ SqT X.K H p (zs.map V.str)) := by
            cases w <;> simp only [seqOf] at z <;> (first | (cases z; done) | skip)
            case tup xs =>
              cases z
              obtain ⟨p, ls, rfl, hp, rp⟩ := k1
              exact ⟨p, rfl, .inr (by rw [← strsOf_ok z2 rp]; exact hp)⟩
            case rol xs =>
              cases z
              obtain ⟨p, ls, rfl, hp, rp⟩ := k1
              exact ⟨p, rfl, .inl (by rw [← strsOf_ok z2 rp]; exact hp.l)⟩
            case ref n =>
              obtain ⟨p, kp, rfl⟩ := k1
              split at z
              · rename_i xs e1
                cases z
                obtain ⟨ls, hl, rl⟩ := hr.ob n _ p e1 kp
                exact ⟨p, rfl, .inl (by rw [← strsOf_ok z2 rl]; exact SqL.of hl)⟩
              · cases z
          obtain ⟨p, rfl, hp⟩ := key
          refine mt_join pins s σ H _ _ u us Q I rv r2 ⟨a, p, zs, rfl, rfl, hp, ?_, q.same hr rfl⟩
          exact hz
        · cases e
  · -- get
    rename_i n dk dv
    split at e
    · rename_i ep kvs e1
      cases z : keyOf dk with
      | none => rw [z] at e; cases e
      | some kk =>
        rw [z] at e
        have ed := congrArg Prod.fst (Option.some.inj e)
        have eh := congrArg Prod.snd (Option.some.inj e)
        dsimp only at ed eh
        subst ed; subst eh
        simp only [kindD, e1, Mt.on] at on
        cases on
        obtain ⟨a, k, rfl⟩ := vr
        cases rv
        obtain ⟨v1, t1, rfl, k1, v2, t2, rfl, k2, k3⟩ := r1
        rw [show t2 = [] from k3] at r2
        obtain ⟨u1, u2, rfl, ru1, ru2⟩ := r2.two
        obtain ⟨q1, q2⟩ := keyOf_ok z
        obtain ⟨sy, hz', es, ob, ds, xs', hH, Dd, pr⟩ := dct_at I hr e1 k
        refine get2_ok (by omega) sy Dd (key_is I dk kk v1 u1 q1 k1 ru1) q2 ?_
        rcases kx_find (k := kk) pr with ⟨a1, a2⟩ | ⟨d0, uu, vv, a1, a2, a3, a4⟩
        · rw [a2]
          rw [a1] at q
          exact ⟨v2, H, I.tok _, ru2, q.same hr k2⟩
        · rw [a2]
          rw [a1] at q
          exact ⟨vv, H, I.tok _, a4, q.same hr a3⟩
    · cases e
  · -- setdefault
    rename_i n dk dv
    split at e
    · rename_i ep kvs e1
      cases z : keyOf dk with
      | none => rw [z] at e; cases e
      | some kk =>
        rw [z] at e
        simp only [Option.bind_some] at e
        simp only [kindD, e1, Mt.on] at on
        cases on
        obtain ⟨a, k, rfl⟩ := vr
        cases rv
        obtain ⟨v1, t1, rfl, k1, v2, t2, rfl, k2, k3⟩ := r1
        rw [show t2 = [] from k3] at r2
        obtain ⟨u1, u2, rfl, ru1, ru2⟩ := r2.two
        obtain ⟨q1, q2⟩ := keyOf_ok z
        obtain ⟨sy, hz', es, ob, ds, xs', hH, Dd, pr⟩ := dct_at I hr e1 k
        have hl := Paired.length pr
        refine setdefault_ok (by omega) sy Dd (key_is I dk kk v1 u1 q1 k1 ru1) q2 (by rw [← hl]; exact hz') (fun vv hv => ?_) fun hn h2 o2 es2 D2 sb => ?_
        · rcases kx_find (k := kk) pr with ⟨a1, a2⟩ | ⟨d0, uu, vv', a1, a2, a3, a4⟩
          · rw [hv] at a2; cases a2
          · rw [hv] at a2; cases a2
            rw [a1] at e
            have ed := congrArg Prod.fst (Option.some.inj e)
            have eh := congrArg Prod.snd (Option.some.inj e)
            dsimp only at ed eh
            subst ed; subst eh
            exact ⟨vv', H, I.tok _, a4, q.same hr a3⟩
        · rcases kx_find (k := kk) pr with ⟨a1, a2⟩ | ⟨d0, uu, vv', a1, a2, a3, a4⟩
          · rw [a1] at e
            dsimp only at e
            split at e
            · rename_i hz
              have ed := congrArg Prod.fst (Option.some.inj e)
              have eh := congrArg Prod.snd (Option.some.inj e)
              dsimp only at ed eh
              subst ed; subst eh
              obtain ⟨H2, x1, x2, x3⟩ := dct_put (t' := s.toks + kk.draws) I hr e1 k D2 sb (paired_app pr (.cons (a := (dk, dv)) (b := (kk, u1, u2)) ⟨q1, q2, ⟨v1, k1, ru1⟩, v2, k2, ru2⟩ .nil)) (by rw [List.length_append]; exact hz)
              exact ⟨v2, H2, x3, ru2, q R H2 v2 x1 x2 (k2.mono x1)⟩
            · cases e
          · rw [hn] at a2; cases a2
    · cases e
  · -- strip
    rename_i a b
    split at e
    · rename_i hz
      have ed := congrArg Prod.fst (Option.some.inj e)
      have eh := congrArg Prod.snd (Option.some.inj e)
      dsimp only at ed eh
      subst ed; subst eh
      simp only [kindD, Mt.on] at on
      cases on
      subst vr
      obtain ⟨w', t, rfl, k1, k2⟩ := r1
      rw [show t = [] from k2] at r2
      rw [show w' = V.str b from k1] at r2
      exact mt_stripChars pins s σ H _ _ u us Q I rv r2 ⟨a, b, rfl, rfl, hz, q.same hr rfl⟩
    · cases e
  · -- count
    rename_i n w
    split at e
    · rename_i ys e1
      cases z : cntD h w ys with
      | none => rw [z] at e; cases e
      | some c =>
        rw [z] at e
        have ed := congrArg Prod.fst (Option.some.inj e)
        have eh := congrArg Prod.snd (Option.some.inj e)
        dsimp only at ed eh
        subst ed; subst eh
        simp only [kindD, e1, Mt.on] at on
        cases on
        obtain ⟨a, k, rfl⟩ := vr
        cases rv
        obtain ⟨ls, hl, rl⟩ := hr.ob n _ a e1 k
        obtain ⟨w', t, rfl, k1, k2⟩ := r1
        rw [show t = [] from k2] at r2
        obtain ⟨u1, rfl, ru1⟩ := r2.one
        obtain ⟨z', its, m0, rr, hll, eo⟩ := I.lstM hl
        obtain ⟨c1, c2⟩ := cnt_ok (A := X.A.in1) I hr k1 ru1 (by show X.A.units + 1 + 30 < cLine; omega) z rl rr
        refine call_meets PySem.F.slot_list_count ⟨_, eo, rfl⟩ PySem.F.entry_list_count (PySem.F.args_list_count_2 _ _) (list_countAt a its.toArray m0 none #[] u1 _) ⟨eo, fun y hy => c2 y (by simpa using hy), ?_⟩
        rw [show its.toArray.toList = its from rfl, ← c1]
        exact ⟨.int c, H, I.tok _, ⟨_, rfl⟩, q.same hr rfl⟩
    · cases e
  · -- index
    rename_i n w
    split at e
    · rename_i ys e1
      cases z : fstD h w ys with
      | none => rw [z] at e; cases e
      | some c =>
        rw [z] at e
        have ed := congrArg Prod.fst (Option.some.inj e)
        have eh := congrArg Prod.snd (Option.some.inj e)
        dsimp only at ed eh
        subst ed; subst eh
        simp only [kindD, e1, Mt.on] at on
        cases on
        obtain ⟨a, k, rfl⟩ := vr
        cases rv
        obtain ⟨ls, hl, rl⟩ := hr.ob n _ a e1 k
        obtain ⟨w', t, rfl, k1, k2⟩ := r1
        rw [show t = [] from k2] at r2
        obtain ⟨u1, rfl, ru1⟩ := r2.one
        obtain ⟨z', its, m0, rr, hll, eo⟩ := I.lstM hl
        obtain ⟨c1, c2⟩ := fst_ok z
        have sl : sizeLine < 2 ^ 62 := by decide
        have ll := rl.len
        have hlen : its.toArray.size = ys.length := by rw [List.size_toArray, ← hll, ll]
        refine call_meets F.slot_list_index ⟨_, eo, rfl⟩ F.entry_list_index (F.args_list_index_2 _ _)
          (list_index2_found a its.toArray m0 none #[] u1 (eAt h w ys) c (by omega) (Nat.zero_le _) (by omega) ?_ fun m hm _ hlt => ?_) ⟨eo, fun j hj => ?_, ⟨.int c, H, I.tok _, ⟨_, rfl⟩, q.same hr rfl⟩⟩
        · obtain ⟨b, b1, b2, b3⟩ := c2 c _ (List.getElem?_eq_getElem c1)
          exact (eAt_is c _ b (List.getElem?_eq_getElem c1) b1).trans (b3 rfl)
        · have hm' : m < ys.length := by omega
          obtain ⟨b, b1, b2, b3⟩ := c2 m _ (List.getElem?_eq_getElem hm')
          exact (eAt_is m _ b (List.getElem?_eq_getElem hm') b1).trans (b2 hlt)
        · have hj' : j < ys.length := by omega
          obtain ⟨b, b1, b2, b3⟩ := c2 j _ (List.getElem?_eq_getElem hj')
          rw [eAt_is j _ b (List.getElem?_eq_getElem hj') b1]
          obtain ⟨v', g1, g2⟩ := rl.get (List.getElem?_eq_getElem hj')
          obtain ⟨u', g3, g4⟩ := rr.get g1
          have gg : its.toArray[j] = u' := by
            have hji : j < its.length := by rw [List.size_toArray] at hj; exact hj
            have : its[j]? = some its[j] := List.getElem?_eq_getElem hji
            rw [g3] at this
            simpa using (Option.some.inj this).symm
          rw [gg]
          exact eqF_ok I hr 30 ys[j] w b X.A.in1 v' w' u' u1 b1 g2 k1 g4 ru1 (by show X.A.units + 1 + 30 < cLine; omega)
    · cases e
  · -- clear
    rename_i n
    split at e
    · rename_i ys e1
      have ed := congrArg Prod.fst (Option.some.inj e)
      have eh := congrArg Prod.snd (Option.some.inj e)
      dsimp only at ed eh
      subst ed; subst eh
      simp only [kindD, e1, Mt.on] at on
      cases on
      obtain ⟨a, k, rfl⟩ := vr
      obtain ⟨ls, hl, rl⟩ := hr.ob n _ a e1 k
      rw [show vs = [] from r1] at r2
      refine mt_clear pins s σ H _ _ u us Q I rv r2 ⟨a, ls, rfl, rfl, hl, ?_⟩
      exact q R _ .non (hr.ext k) (hr.putL k .nil) rfl
    · cases e
  · cases e
theorem on_some {m : Mt} {x : D} {xs : List D} {h : Hh} {r : D × Hh} (e : semM m x xs h = some r) : ∃ T id, m.on (kindD h x) = some (T, id) := by
  unfold semM at e
  split at e
  all_goals first
    | (cases e; done)
    | exact ⟨_, _, rfl⟩
    | (split at e
       · rename_i e1
         simp only [kindD, e1, Mt.on]
         exact ⟨_, _, rfl⟩
       · cases e)
def attrPlain : Expr → Bool
  | .Call _ [] _ _ => false
  | _ => true
theorem attr_plain {o : Expr} (ho : attrPlain o = true) (name : Str) (env : Env) (whole : Sem Value) : attributeBase o name env whole = whole := by
  cases o <;> first | rfl | skip
  rename_i f args kw pos
  cases args with
  | nil => cases ho
  | cons a as => cases f <;> rfl
theorem j_mth {o e : Expr} {es : List Expr} {mo : Mx} {ms : En → Hh → Option (List D × Hh)} {apos cpos : Pos} (hu : X.A.units + 64 < cLine) (m : Mt) (ho : PE X o (J X mo)) (ha : PA X (e :: es) (JA X ms)) (hb : attrPlain o = true)
    (hfew : ((backTo cpos (starEach (e :: es) X.env)).all (fun x => !x.1) && (backToKw cpos (keywordEach [] X.env)).all (fun x => x.1.isSome)
      && decide ((e :: es).length + ([] : List Keyword).length + (if ([] : List Keyword).isEmpty then 0 else 1) < 30)) = true)
    (hline : (apos.endLine == cpos.line) = true) (hs : starEach (e :: es) X.env = (false, eval e X.env) :: starEach es X.env) (hplain : (backTo cpos (starEach es X.env)).any (·.1) = false) :
    PE X (.Call (.Attribute o m.name apos) (e :: es) [] cpos) (J X fun e h => bindM (mo e h) fun x h1 => bindM (ms e h1) fun xs h2 => if kindD h2 x = kindD h1 x then semM m x xs h2 else none) :=
  ⟨fun pins s σ H Q I ⟨R, h, en, d, h', hr, enr, eq, q⟩ => by
    refine wpAny_Call_method_late (attr_plain hb _ _ _) hfew hline rfl (thn (ho.run pins s σ H (fun v H1 => ∃ x h1 R1, (bindM (ms en h1) fun xs h2 => if kindD h2 x = kindD h1 x then semM m x xs h2 else none) = some (d, h') ∧ Ext X.K R H R1 H1 ∧ HRel X.w X.K R1 h1 H1 ∧ EnR X.K H1 R1 en σ ∧ VR X.K H1 R1 x v) I
      (J.step hr enr eq fun d1 h1 R1 H1 v e1 x1 hr1 en1 v1 => ⟨d1, h1, R1, e1, x1, hr1, en1, v1⟩)) fun u s1 ⟨v, H1, I1, r1, x, h1, R1, e1, x1, hr1, en1, v1⟩ => ?_)
    obtain ⟨xs, h2, e2, e3⟩ := bindM_ok e1
    split at e3
    · rename_i hk
      obtain ⟨T, id, on⟩ := on_some e3
      obtain ⟨rfl, k0, k3, pa, sl, ty⟩ := mth_facts on
      rw [hk] at k0 k3
      obtain ⟨t1, t2⟩ := kind_type I1 hr1 v1 r1 k0 k3
      rw [← hk] at t1
      refine ⟨_, id, pa, sl, ty, t1, t2, ?_⟩
      have hA := ha.run cpos pins s1 σ H1 (fun vs H2 => ∃ R2, Ext X.K R1 H1 R2 H2 ∧ HRel X.w X.K R2 h2 H2 ∧ VRs X.K H2 R2 xs vs) I1 ⟨R1, h1, en, xs, h2, hr1, en1, e2, fun R2 H2 vs x2 hr2 v2 => ⟨R2, x2, hr2, v2⟩⟩
      rw [hs] at hA ⊢
      refine Calls.callWith_builtin (by show (false || (backTo cpos (starEach es X.env)).any (·.1)) = false; rw [hplain] <;> rfl) (Calls.evalArgs_plain ?_)
      exact thn hA fun us s2 ⟨vs, H2, I2, r2, R2, x2, hr2, v2⟩ => mt_ok hu m I2 hr2 (v1.mono x2) r1 v2 r2 e3 (q.ext (x1.trans x2)) on
    · cases e3⟩
theorem j_mth0 {o : Expr} {mo : Mx} {apos cpos : Pos} (hu : X.A.units + 64 < cLine) (m : Mt) (ho : PE X o (J X mo)) (hb : attrPlain o = true) (hline : (apos.endLine == cpos.line) = true) :
    PE X (.Call (.Attribute o m.name apos) [] [] cpos) (J X fun e h => bindM (mo e h) fun x h1 => bindM (some ([], h1)) fun xs h2 => if kindD h2 x = kindD h1 x then semM m x xs h2 else none) :=
  ⟨fun pins s σ H Q I ⟨R, h, en, d, h', hr, enr, eq, q⟩ => by
    refine wpAny_Call_method0_late (attr_plain hb _ _ _) hline (thn (ho.run pins s σ H (fun v H1 => ∃ x h1 R1, (bindM (some ([], h1)) fun xs h2 => if kindD h2 x = kindD h1 x then semM m x xs h2 else none) = some (d, h') ∧ Ext X.K R H R1 H1 ∧ HRel X.w X.K R1 h1 H1 ∧ EnR X.K H1 R1 en σ ∧ VR X.K H1 R1 x v) I
      (J.step hr enr eq fun d1 h1 R1 H1 v e1 x1 hr1 en1 v1 => ⟨d1, h1, R1, e1, x1, hr1, en1, v1⟩)) fun u s1 ⟨v, H1, I1, r1, x, h1, R1, e1, x1, hr1, en1, v1⟩ => ?_)
    rw [bindM_some, if_pos rfl] at e1
    obtain ⟨T, id, on⟩ := on_some e1
    obtain ⟨rfl, k0, k3, pa, sl, ty⟩ := mth_facts on
    obtain ⟨t1, t2⟩ := kind_type I1 hr1 v1 r1 k0 k3
    exact ⟨_, id, pa, sl, ty, t1, t2, Calls.callWith_builtin rfl (PySem.evalArgs_none (mt_ok hu m I1 hr1 v1 r1 .nil .nil e1 (q.ext x1) on))⟩⟩
end
end Z
set_option Elab.async false
set_option linter.all false
set_option autoImplicit false
set_option maxRecDepth 100000
set_option maxHeartbeats 4000000
namespace Z
open PySem L2 PyProof.Rows

/-! ### built-ins by value -/
/-- a call that does what g says -/
def rG (w : World) (K : PySem.W.Frag) (g : Fn) : List V → Hp → VK → Prop := fun vs H Q => ∃ R h ds d h', HRel w K R h H ∧ VRs K H R ds vs ∧ g ds h = some (d, h') ∧ Fin w K R H d h' Q
section
variable {X : Cx}
theorem one_of {α : Type} {a b : α} {h h' : Hh} (e : some (a, h) = some (b, h')) : a = b ∧ h = h' := by cases e; exact ⟨rfl, rfl⟩
/-- one argument -/
theorem arg1 {b : Bf} {ds : List D} {h : Hh} {r : D × Hh} {vs : List V} {us : List Value} {R : List Addr} {H : Hp} {K : PySem.W.Frag} (e : semB b ds h = some r) (vr : VRs K H R ds vs) (rv : Vals vs us) : ∃ x v u, ds = [x] ∧ vs = [v] ∧ us = [u] ∧ VR K H R x v ∧ RelV v u := by
  unfold semB at e
  split at e
  · obtain ⟨v, t, rfl, k1, k2⟩ := vr
    rw [show t = [] from k2] at rv ⊢
    obtain ⟨u, rfl, ru⟩ := rv.one
    exact ⟨_, v, u, rfl, rfl, rfl, k1, ru⟩
  · cases e
theorem cr_len : CallR X (.builtin "len") (rG X.w X.K (semB .len)) := by
  intro pins s σ H vs us Q I r ⟨R, h, ds, d, h', hr, vr, e, q⟩
  obtain ⟨x, v, u, rfl, rfl, rfl, k1, ru⟩ := arg1 e vr r
  replace e : opt h (lenD h x) = some (d, h') := e
  obtain ⟨z0, a2⟩ := opt_ok e
  clear e
  have e := z0
  clear z0
  subst a2
  cases x <;> simp only [lenD] at e <;> (first | (cases e; done) | skip)
  case str x =>
    split at e
    · rename_i hz
      have e' := Option.some.inj e
      subst e'
      rw [show v = V.str x from k1] at r
      exact call_len pins s σ H _ _ Q I r ⟨_, x.length, rfl, ⟨hz, rfl⟩, q.same hr rfl⟩
    · cases e
  case tup ys =>
    have e' := Option.some.inj e
    subst e'
    obtain ⟨a, ls, rfl, ha, rl⟩ := k1
    exact call_len pins s σ H _ _ Q I r ⟨_, ys.length, rfl, .inr ⟨ls, ha, rl.len.symm⟩, q.same hr rfl⟩
  case rol ys =>
    have e' := Option.some.inj e
    subst e'
    obtain ⟨a, ls, rfl, ha, rl⟩ := k1
    exact call_len pins s σ H _ _ Q I r ⟨_, ys.length, rfl, .inl ⟨ls, ha.l, rl.len.symm⟩, q.same hr rfl⟩
  case ref n =>
    obtain ⟨a, k, rfl⟩ := k1
    split at e
    · rename_i ys e1
      have e' := Option.some.inj e
      subst e'
      obtain ⟨ls, hl, rl⟩ := hr.ob n _ a e1 k
      exact call_len pins s σ H _ _ Q I r ⟨_, ys.length, rfl, .inl ⟨ls, SqL.of hl, rl.len.symm⟩, q.same hr rfl⟩
    · rename_i ep kvs e1
      have e' := Option.some.inj e
      subst e'
      cases ru
      obtain ⟨sy, hz', es, ob, dsx, xs', hH, Dd, pr⟩ := dct_at I hr e1 k
      have hl := Paired.length pr
      refine lenCall_ok sy Dd (by rw [← hl]; exact hz') ⟨.int kvs.length, H, I.tok _, ?_, q.same hr rfl⟩
      rw [← hl]
      exact ⟨_, rfl⟩
    · cases e
theorem cr_int : CallR X (.type "int") (rG X.w X.K (semB .int)) := by
  intro pins s σ H vs us Q I r ⟨R, h, ds, d, h', hr, vr, e, q⟩
  obtain ⟨x, v, u, rfl, rfl, rfl, k1, ru⟩ := arg1 e vr r
  replace e : opt h (intD x) = some (d, h') := e
  obtain ⟨z0, a2⟩ := opt_ok e
  clear e
  have e := z0
  clear z0
  subst a2
  cases x <;> simp only [intD] at e <;> (first | (cases e; done) | skip)
  case int i =>
    have e' := Option.some.inj e
    subst e'
    rw [show v = V.int i from k1] at r
    exact call_int1 pins s σ H _ _ Q I r (.inl ⟨i, rfl, q.same hr rfl⟩)
  case bl b =>
    have e' := Option.some.inj e
    subst e'
    rw [show v = V.bl b from k1] at r
    exact call_int1 pins s σ H _ _ Q I r (.inr ⟨b, rfl, q.same hr (by cases b <;> rfl)⟩)
theorem vals_signs {x : Str} {acc : Array Value} (h : ItemsOf (SignAt x) acc x.cps.size) : ∃ vs, Vals vs acc.toList ∧ ∀ K H R, VRs K H R (signs x) vs := by
  refine ⟨(x.cps.toList.map fun c => V.str ⟨#[c]⟩), vals_of_at (by rw [List.length_map, Array.length_toList, Array.length_toList, h.1]) fun j v w h1 h2 => ?_, fun K H R => ?_⟩
  · obtain ⟨c, t, hc, rfl⟩ := h.2 j w (by rw [← Array.getElem?_toList]; exact h2)
    rw [List.getElem?_map, Array.getElem?_toList, hc] at h1
    cases h1
    exact ⟨t, rfl⟩
  · unfold signs
    induction x.cps.toList with
    | nil => exact rfl
    | cons c l ih => exact .cons rfl ih
theorem keys_rs {w : World} {K : PySem.W.Frag} {H : Hp} {R : List Addr} : ∀ {kvs : List (D × D)} {es : List DE}, Paired (fun (p : D × D) (e : DE) => VR K H R p.1 e.1 ∧ VR K H R p.2 e.2.2 ∧ ∃ k, p.1.key = some k ∧ k.depth ≤ 8 ∧ e.2.1 = k.hash w) kvs es → VRs K H R (kvs.map (·.1)) (es.map (·.1))
  | _, _, .nil => rfl
  | _, _, .cons a b => .cons a.1 (keys_rs b)
theorem cr_list (hc : X.calm = true) : CallR X (.type "list") (rG X.w X.K (semB .list)) := by
  intro pins s σ H vs us Q I r ⟨R, h, ds, d, h', hr, vr, e, q⟩
  obtain ⟨x, v, u, rfl, rfl, rfl, k1, ru⟩ := arg1 e vr r
  replace e : lstM x h = some (d, h') := e
  unfold lstM at e
  cases z : listOf h x with
  | none => rw [z] at e; cases e
  | some ys =>
    rw [z] at e
    obtain ⟨hz, a1, a2⟩ := lst_of e
    subst a1; subst a2
    cases x <;> simp only [listOf] at z <;> (first | (cases z; done) | skip)
    case str x =>
      have e' := Option.some.inj z
      subst e'
      rw [show v = V.str x from k1] at ru
      obtain ⟨t, rfl⟩ := ru
      rw [signs_len] at hz
      refine call_list_str (hn := hz) (I.ok.hd hc) x t (fun h2 tk acc c' hk e2 hi => ?_)
      obtain ⟨vs', w1, w2⟩ := vals_signs hi
      have hp : H s.heap.objs.size = none := I.hok.fresh (Nat.le_refl _)
      refine ⟨.ref s.heap.objs.size, upd H s.heap.objs.size (.lst vs'), I.laid hk (Nat.le_refl _) (show ObjOk X.prog X.w _ _ _ (.lst vs') from ⟨?_, acc.toList, c', w1, ?_⟩), rfl, q.lst hr (w2 _ _ _) hp⟩
      · rw [w1.length, Array.length_toList, hi.1]; exact hz
      · rw [Array.toArray_toList]; exact e2
    case tup xs =>
      have e' := Option.some.inj z
      subst e'
      obtain ⟨a, ls, rfl, ha, rl⟩ := k1
      exact call_list_of pins s σ H _ _ Q I r ⟨a, ls, rfl, .inr ha, fun p hp => q.lst hr rl hp⟩
    case rol xs =>
      have e' := Option.some.inj z
      subst e'
      obtain ⟨a, ls, rfl, ha, rl⟩ := k1
      exact call_list_of pins s σ H _ _ Q I r ⟨a, ls, rfl, .inl ha.l, fun p hp => q.lst hr rl hp⟩
    case ref n =>
      obtain ⟨a, k, rfl⟩ := k1
      split at z
      · rename_i xs e1
        have e' := Option.some.inj z
        subst e'
        obtain ⟨ls, hl, rl⟩ := hr.ob n _ a e1 k
        exact call_list_of pins s σ H _ _ Q I r ⟨a, ls, rfl, .inl (SqL.of hl), fun p hp => q.lst hr rl hp⟩
      · rename_i ep kvs e1
        have e' := Option.some.inj z
        subst e'
        cases ru
        obtain ⟨es, hl, dr⟩ := hr.ob n _ a e1 k
        obtain ⟨⟨e2, e3, o, dsx, e4, e5, e6, e7⟩, _, _⟩ := I.hok a _ hl
        have l1 := Paired.length dr.rel
        have l2 := Paired.length e7
        have l3 : dsx.size = kvs.length := by rw [← Array.length_toList, ← l2, ← l1]
        have hp : H s.heap.objs.size = none := I.hok.fresh (Nat.le_refl _)
        refine PySem.W.kdl_call (kdl_raw (prog := X.prog) (w := X.w) e2 e5 e6) (I.ok.hd hc) e4 (by rw [l3]; rw [List.length_map] at hz; exact hz) fun h2 tk acc c' hk e8 hi => ?_
        have w1 : Vals (es.map (·.1)) acc.toList := by
          refine vals_of_at (by rw [List.length_map, show acc.toList.length = acc.size from Array.length_toList, hi.1, l3, l1]) fun j v w h1 h2 => ?_
          obtain ⟨en, g1, rfl⟩ := hi.2 j w (by rw [← Array.getElem?_toList]; exact h2)
          rw [List.getElem?_map] at h1
          cases gq : es[j]? with
          | none => rw [gq] at h1; cases h1
          | some p =>
            rw [gq] at h1
            cases h1
            obtain ⟨b, g2, g3, _⟩ := paired_at e7 gq
            rw [Array.getElem?_toList] at g2
            rw [g1] at g2
            cases g2
            exact g3
        have w2 : VRs X.K H R (kvs.map (·.1)) (es.map (·.1)) := keys_rs dr.rel
        refine ⟨.ref s.heap.objs.size, upd H s.heap.objs.size (.lst (es.map (·.1))), I.laid hk (Nat.le_refl _) (show ObjOk X.prog X.w _ _ _ (.lst (es.map (·.1))) from ⟨?_, acc.toList, c', w1, ?_⟩), rfl, q.lst hr w2 hp⟩
        · rw [List.length_map, ← l1]; rw [List.length_map] at hz; exact hz
        · rw [Array.toArray_toList]; exact e8
      · cases z
theorem cr_tuple : CallR X (.type "tuple") (rG X.w X.K (semB .tuple)) := by
  intro pins s σ H vs us Q I r ⟨R, h, ds, d, h', hr, vr, e, q⟩
  obtain ⟨x, v, u, rfl, rfl, rfl, k1, ru⟩ := arg1 e vr r
  replace e : tupM x h = some (d, h') := e
  unfold tupM at e
  cases z : seqOf h x with
  | none => rw [z] at e; cases e
  | some ys =>
    rw [z] at e
    obtain ⟨hz, a1, a2⟩ := tup_of (w := X.w) (K := X.K) (H := H) (R := R) e
    subst a1; subst a2
    cases x <;> simp only [seqOf] at z <;> (first | (cases z; done) | skip)
    case tup xs =>
      have e' := Option.some.inj z
      subst e'
      obtain ⟨a, ls, rfl, ha, rl⟩ := k1
      exact call_tuple_of pins s σ H _ _ Q I r ⟨a, ls, rfl, .inr ⟨ha, q.same hr ⟨a, ls, rfl, ha, rl⟩⟩⟩
    case rol xs =>
      have e' := Option.some.inj z
      subst e'
      obtain ⟨a, ls, rfl, ha, rl⟩ := k1
      exact call_tuple_of pins s σ H _ _ Q I r ⟨a, ls, rfl, .inl ⟨ha.l, fun p hp => q.tup hr rl hp⟩⟩
    case ref n =>
      obtain ⟨a, k, rfl⟩ := k1
      split at z
      · rename_i xs e1
        have e' := Option.some.inj z
        subst e'
        obtain ⟨ls, hl, rl⟩ := hr.ob n _ a e1 k
        exact call_tuple_of pins s σ H _ _ Q I r ⟨a, ls, rfl, .inl ⟨SqL.of hl, fun p hp => q.tup hr rl hp⟩⟩
      · cases z
end
end Z
set_option Elab.async false
set_option linter.all false
set_option autoImplicit false
set_option maxRecDepth 100000
set_option maxHeartbeats 4000000
namespace Z
open PySem L2 PyProof.Rows

/-! ### isinstance -/
def Ty.nm : Ty → String
  | .int => "int" | .str => "str" | .bool => "bool" | .tuple => "tuple" | .list => "list" | .dict => "dict"
def Ty.nms : Ty → Str
  | .int => "int" | .str => "str" | .bool => "bool" | .tuple => "tuple" | .list => "list" | .dict => "dict"
def tyD (h : Hh) : D → Option String
  | .non => some "NoneType"
  | .bl _ => some "bool"
  | .int _ => some "int"
  | .str _ => some "str"
  | .tup _ => some "tuple"
  | .rol _ => some "list"
  | .ref n => match h[n]? with
    | some (.lst _) => some "list"
    | some (.dct _ _) => some "dict"
    | none => none
theorem isi_kit {K : PySem.W.Frag} {h : Hh} {d : D} {t : Ty} {b : Bool} {T : String} (hT : tyD h d = some T) (e : isiD h d t = some b) : PySem.W.kitOne K (.type T) (.type t.nm) = some b := by
  cases d
  case ref n =>
    simp only [tyD] at hT
    split at hT
    · rename_i xs e1
      cases hT
      cases t <;> simp only [isiD, e1] at e <;> exact kit_ty (by rw [← e]; decide +kernel)
    · rename_i ep kvs e1
      cases hT
      cases t <;> simp only [isiD, e1] at e <;> exact kit_ty (by rw [← e]; decide +kernel)
    · cases hT
  all_goals
    cases hT
    cases t <;> simp only [isiD] at e <;> exact kit_ty (by rw [← e]; decide +kernel)
section
variable {X : Cx} {pins : List (Addr × Obj)} {σ : L2.St} {H : Hp} {s : Shared} {R : List Addr} {h : Hh}
theorem kit_d (I : L2.Inv X pins σ H s) (hr : HRel X.w X.K R h H) {d : D} {v : V} {u : Value} (vr : VR X.K H R d v) (rv : RelV v u) : ∃ T, tyD h d = some T ∧ ∃ P : Heap → Prop, PySem.W.KitX X.K u (.type T) P ∧ P s.heap ∧ u ≠ .builtin "__main__.__loader__#opaque" := by
  cases d
  case non => subst vr; cases (show u = Value.none from rv); exact ⟨_, rfl, _, PySem.W.kitx_none, True.intro, fun z => nomatch z⟩
  case bl b => subst vr; cases (show u = Value.bool b from rv); exact ⟨_, rfl, _, PySem.W.kitx_bool, True.intro, fun z => nomatch z⟩
  case int i => subst vr; obtain ⟨t, q⟩ := (show ∃ t, u = Value.int i t from rv); cases q; exact ⟨_, rfl, _, PySem.W.kitx_int, True.intro, fun z => nomatch z⟩
  case str y => subst vr; obtain ⟨t, q⟩ := (show ∃ t, u = Value.str y t from rv); cases q; exact ⟨_, rfl, _, PySem.W.kitx_str, True.intro, fun z => nomatch z⟩
  case tup xs =>
    obtain ⟨a, vs, rfl, ha, r⟩ := vr
    cases rv
    obtain ⟨its, _, ⟨o, h1, h2, n, h3⟩, _⟩ := I.tuple ha
    exact ⟨_, rfl, _, PySem.W.kitx_tuple, ⟨o, h1, h2⟩, fun z => nomatch z⟩
  case rol xs =>
    obtain ⟨a, vs, rfl, ha, r⟩ := vr
    cases rv
    obtain ⟨its, _, pl, _⟩ := I.list ha.l
    obtain ⟨o, e, c, _⟩ := pl.isList
    exact ⟨_, rfl, _, PySem.W.kitx_list, ⟨o, e, c⟩, fun z => nomatch z⟩
  case ref n =>
    obtain ⟨a, k, rfl⟩ := vr
    cases rv
    have hn : n < h.length := by rw [← hr.len]; exact (List.getElem?_eq_some_iff.mp k).1
    have e1 : h[n]? = some h[n] := List.getElem?_eq_getElem hn
    cases z : h[n] with
    | lst xs =>
      rw [z] at e1
      obtain ⟨vs, h1, h2⟩ := hr.ob n _ a e1 k
      obtain ⟨its, _, pl, _⟩ := I.list (SqL.of h1)
      obtain ⟨o, e, c, _⟩ := pl.isList
      exact ⟨_, by simp only [tyD, e1], _, PySem.W.kitx_list, ⟨o, e, c⟩, fun z => nomatch z⟩
    | dct ep kvs =>
      rw [z] at e1
      obtain ⟨es, h1, h2⟩ := hr.ob n _ a e1 k
      obtain ⟨⟨e2, e3, o, ds, e4, e5, e6, e7⟩, _, _⟩ := I.hok a _ h1
      exact ⟨_, by simp only [tyD, e1], _, PySem.W.kitx_dict, ⟨o, e4, e5.1⟩, fun z => nomatch z⟩
theorem isis_kit {K : PySem.W.Frag} {h : Hh} {d : D} {T : String} (hT : tyD h d = some T) : ∀ {ts : List Ty} {b : Bool}, isisD h d ts = some b → PySem.W.kitAny K (.type T) (ts.map fun t => .type t.nm) = some b
  | [], b, e => by simp only [isisD] at e; exact e
  | t :: ts, b, e => by
    simp only [isisD] at e
    split at e
    · rename_i a c e1 e2
      have e' := Option.some.inj e
      subst e'
      rw [List.map_cons]
      refine kitAny_cons (isi_kit hT e1) (fun ha => ?_) fun ha => ?_
      · rw [ha, Bool.false_or]; exact isis_kit hT e2
      · rw [ha]; rfl
    · cases e
end
/-- the names of built-in types -/
def tyNames (gl : Str → Bool) : List Ty → List Expr → Bool
  | [], [] => true
  | t :: ts, .Name x _ :: es => (x == t.nms) && gl x && tyNames gl ts es
  | _, _ => false
theorem ty_boot (t : Ty) : bootBuiltins t.nms = some (.type t.nm) := by
  cases t
  · exact boot_int
  · exact boot_str
  · exact boot_bool
  · exact boot_tuple
  · exact boot_list
  · exact boot_dict
theorem ty_nn (t : Ty) : t.nms ≠ "__name__" ∧ (t.nms == ("__debug__" : Str)) = false := by cases t <;> exact ⟨by decide, by decide⟩
section
variable {X : Cx} {a : Expr} {ma : Mx} {p q pos pos2 : Pos}
def tTys (ts : List Ty) : TA := fun _ H Q => Q (ts.map fun t => V.ty t.nm) H
theorem pa_tys {gl : Str → Bool} (hgl : ∀ x, gl x = true → Gl X x ∧ X.mg x = none) : ∀ {ts : List Ty} {es : List Expr}, tyNames gl ts es = true → PA X es (tTys ts)
  | [], [], _ => pa_nil
  | t :: ts, .Name x po :: es, h => by
    simp only [tyNames, Bool.and_eq_true] at h
    obtain ⟨⟨h1, h2⟩, h3⟩ := h
    have hx : x = t.nms := by simpa using h1
    subst hx
    obtain ⟨g1, g2⟩ := hgl _ h2
    exact pa_imp (pa_cons (pe_bltn (v := V.ty t.nm) g1 g2 (ty_boot t) rfl (ty_nn t).1 (ty_nn t).2) (pa_tys hgl h3) rfl) fun σ H Q h => h
  | [], .Name _ _ :: _, h => by simp only [tyNames] at h; cases h
theorem isi1 : CallR X (.builtin "isinstance") (fun xs H Q => ∃ R h d v t, xs = [v, .ty (Ty.nm t)] ∧ HRel X.w X.K R h H ∧ VR X.K H R d v ∧ ∃ b, isisD h d [t] = some b ∧ Q (.bl b) H) := by
  intro pins s σ H xs us Q I r ⟨R, h, d, v, t, ex, hr, vr, b, e, qq⟩
  subst ex
  obtain ⟨u1, u2, rfl, r1, r2⟩ := vals2 r
  cases (show u2 = Value.type t.nm from r2)
  obtain ⟨T, hT, P, Z, pp, hx⟩ := kit_d I hr vr r1
  simp only [isisD] at e
  split at e
  · rename_i a c e1 e2
    have e' := Option.some.inj e
    subst e'
    have e2' : c = false := (Option.some.inj e2).symm
    subst e2'
    rw [Bool.or_false] at qq
    exact PySem.W.kia_one Z I.kIn pp (isi_kit hT e1) hx fun tk => ⟨.bl _, H, I.tok tk, rfl, qq⟩
  · cases e
theorem tys_vals : ∀ {ts : List Ty} {its : List Value}, Vals (ts.map fun t => V.ty t.nm) its → its = ts.map fun t => Value.type t.nm
  | [], _, .nil => rfl
  | t :: ts, _, .cons q1 q2 => by
    rw [show _ = Value.type t.nm from q1, tys_vals q2]
    rfl
theorem isiN : CallR X (.builtin "isinstance") (fun xs H Q => ∃ R h d v ts tp, xs = [v, .ref tp] ∧ H tp = some (.tup (ts.map fun t => V.ty (Ty.nm t))) ∧ HRel X.w X.K R h H ∧ VR X.K H R d v ∧ ∃ b, isisD h d ts = some b ∧ Q (.bl b) H) := by
  intro pins s σ H xs us Q I r ⟨R, h, d, v, ts, tp, ex, hT', hr, vr, b, e, qq⟩
  subst ex
  obtain ⟨u1, u2, rfl, r1, r2⟩ := vals2 r
  cases (show u2 = Value.ref tp from r2)
  obtain ⟨T, hT, P, Z, pp, hx⟩ := kit_d I hr vr r1
  obtain ⟨_, its, rv, o, h1, h2, n, h3⟩ := (show ObjOk X.prog X.w H s.heap tp (.tup _) from I.hok tp _ hT')
  have e3 : its = ts.map fun t => Value.type t.nm := tys_vals rv
  subst e3
  obtain ⟨oc, od, dt, sl⟩ := o
  simp only at h2 h3
  subst h2 h3
  exact PySem.W.kia_tup Z I.kIn pp h1 (isis_kit hT e) hx fun tk => ⟨.bl b, H, I.tok tk, rfl, qq⟩
theorem j_isi1 {x : Str} {t : Ty} {gl : Str → Bool} (hgl : ∀ x, gl x = true → Gl X x ∧ X.mg x = none) (hg : Gl X "isinstance") (hm : X.mg "isinstance" = none) (ha : PE X a (J X ma)) (ht : tyNames gl [t] [.Name x q] = true) (he : starEach [a, .Name x q] X.env = (false, eval a X.env) :: starEach [.Name x q] X.env) :
    PE X (.Call (.Name "isinstance" p) [a, .Name x q] [] pos) (J X fun e h => bindM (ma e h) fun d h1 => opt h1 ((isisD h1 d [t]).map .bl)) :=
  pe_imp (pe_callB isi1 hg hm boot_isinstance (pa_cons ha (pa_tys hgl ht) he) (by decide) (by decide) he rfl) fun σ H Q ⟨R, h, e, d, h', hr, en, eq, qq⟩ => J.step hr en eq fun d1 h1 R1 H1 v e1 x1 hr1 en1 v1 => by
    obtain ⟨z, a0⟩ := opt_ok e1
    subst a0
    cases k : isisD h' d1 [t] with
    | none => rw [k] at z; cases z
    | some b =>
      rw [k] at z
      cases z
      exact ⟨R1, h', d1, v, t, rfl, hr1, v1, b, k, (qq.ext x1).same hr1 rfl⟩
theorem j_isiN {ts : List Ty} {es : List Expr} {kk : Nat} {gl : Str → Bool} (hgl : ∀ x, gl x = true → Gl X x ∧ X.mg x = none) (hg : Gl X "isinstance") (hm : X.mg "isinstance" = none) (ha : PE X a (J X ma)) (ht : tyNames gl ts es = true) (hl : ts.length ≤ 10) (he : starEach [a, .Tuple es kk q] X.env = (false, eval a X.env) :: starEach [.Tuple es kk q] X.env) :
    PE X (.Call (.Name "isinstance" p) [a, .Tuple es kk q] [] pos) (J X fun e h => bindM (ma e h) fun d h1 => opt h1 ((isisD h1 d ts).map .bl)) :=
  pe_imp (pe_callB isiN hg hm boot_isinstance (pa_cons ha (pa_cons (pe_tup (pa_tys hgl ht)) pa_nil rfl) he) (by decide) (by decide) he rfl) fun σ H Q ⟨R, h, e, d, h', hr, en, eq, qq⟩ => J.step hr en eq fun d1 h1 R1 H1 v e1 x1 hr1 en1 v1 => by
    obtain ⟨z, a0⟩ := opt_ok e1
    subst a0
    cases k : isisD h' d1 ts with
    | none => rw [k] at z; cases z
    | some b =>
      rw [k] at z
      cases z
      have sl : 10 ≤ sizeLine := by decide
      refine ⟨by rw [List.length_map]; omega, fun tp htp => ?_⟩
      have ex : Ext X.K R1 H1 R1 (upd H1 tp (.tup (ts.map fun t => V.ty (Ty.nm t)))) := Ext.new htp
      exact ⟨R1, h', d1, v, ts, tp, rfl, upd_same, hr1.new htp, v1.mono ex, b, k, qq R1 _ _ (x1.trans ex) (hr1.new htp) rfl⟩
end
end Z
set_option Elab.async false
set_option linter.all false
set_option autoImplicit false
set_option maxRecDepth 100000
set_option maxHeartbeats 4000000
namespace Z
open PySem L2 PyProof.Rows
theorem j_dic0 {X : Cx} {pos : Pos} : PE X (.Dict [] [] pos) (J X fun _ h => some (.ref h.length, h ++ [.dct 0 []])) :=
  ⟨fun pins s σ H Q I ⟨R, h, e, d, h', hr, en, eq, q⟩ => by
    obtain ⟨a1, a2⟩ : D.ref h.length = d ∧ h ++ [.dct 0 []] = h' := by cases eq; exact ⟨rfl, rfl⟩
    subst a1; subst a2
    refine wpAny_Dict_empty ?_
    obtain ⟨H', hn, ex, hr', I'⟩ := dct_new (t' := s.toks) I hr (a := s.heap.objs.size) (kvs' := []) (xs' := []) (fun b u q => Heap.get?_push_of_some _ q) (Nat.le_refl _) (by have := I.big; simpa [bne_iff_ne] using (Nat.ne_of_gt this)) (DAt.new (w := X.w) s.heap) .nil (Nat.zero_le _)
    exact ⟨.ref s.heap.objs.size, H', I', rfl, q _ H' _ ex hr' ⟨s.heap.objs.size, by rw [← hr.len]; simp, rfl⟩⟩⟩
end Z
set_option Elab.async false
set_option linter.all false
set_option autoImplicit false
set_option maxRecDepth 100000
set_option maxHeartbeats 4000000
namespace Z
open PySem L2 PyProof.Rows SrtO

/-! ### sorting, the pure part -/
theorem ins_mem {lt : D → D → Bool} {x z : D} : ∀ {l : List D}, z ∈ sortB.insB lt x l → z = x ∨ z ∈ l
  | [], h => by simp [sortB.insB] at h; exact .inl h
  | y :: ys, h => by
    unfold sortB.insB at h
    split at h
    · rcases List.mem_cons.mp h with rfl | h
      · exact .inr (List.mem_cons_self ..)
      · rcases ins_mem h with e | e
        · exact .inl e
        · exact .inr (List.mem_cons_of_mem _ e)
    · rcases List.mem_cons.mp h with rfl | h
      · exact .inl rfl
      · exact .inr h
theorem ins_srtd {lt : D → D → Bool} (O : Swo lt) {x : D} : ∀ {l : List D}, Srtd lt l → Srtd lt (sortB.insB lt x l)
  | [], h => List.pairwise_singleton _ _
  | y :: ys, h => by
    unfold sortB.insB
    split
    · rename_i hy
      refine List.pairwise_cons.mpr ⟨fun z hz => ?_, ins_srtd O (List.pairwise_cons.mp h).2⟩
      rcases ins_mem hz with rfl | hz
      · exact O.asym y _ hy
      · exact srtd_head h z hz
    · rename_i hy
      have hy' : lt y x = false := by simpa using hy
      exact List.pairwise_cons.mpr ⟨O.le_all h hy', h⟩
theorem ins_perm {lt : D → D → Bool} {x : D} : ∀ {l : List D}, (sortB.insB lt x l).Perm (x :: l)
  | [] => List.Perm.refl _
  | y :: ys => by
    unfold sortB.insB
    split
    · exact (ins_perm.cons y).trans (List.Perm.swap ..)
    · exact List.Perm.refl _
theorem ins_cls {lt : D → D → Bool} (O : Swo lt) {x z : D} : ∀ {l : List D}, (sortB.insB lt x l).filter (eqv lt z) = (x :: l).filter (eqv lt z)
  | [] => rfl
  | y :: ys => by
    unfold sortB.insB
    split
    · rename_i hy
      have ih := ins_cls O (x := x) (z := z) (l := ys)
      simp only [List.filter_cons] at ih ⊢
      rw [ih]
      rcases bcase (eqv lt z x) with a | a <;> rcases bcase (eqv lt z y) with b | b <;> simp only [a, b, if_true, Bool.false_eq_true, if_false]
      obtain ⟨a1, a2⟩ := eqv_iff.mp a
      obtain ⟨b1, b2⟩ := eqv_iff.mp b
      have := O.tr x z y a1 b2
      rw [hy] at this; cases this
    · rfl
theorem sort_srtd {lt : D → D → Bool} (O : Swo lt) : ∀ {l : List D}, Srtd lt (sortB lt l)
  | [] => List.Pairwise.nil
  | x :: l => by unfold sortB; exact ins_srtd O (sort_srtd O)
theorem sort_stb {lt : D → D → Bool} (O : Swo lt) : ∀ {l : List D}, Stb lt (sortB lt l) l
  | [] => Stb.refl []
  | x :: l => by
    have ih := sort_stb O (l := l)
    unfold sortB
    refine ⟨ins_perm.trans (ih.perm.cons x), fun z => ?_⟩
    rw [ins_cls O, List.filter_cons, List.filter_cons, ih.cls z]
/-- what comes out of any stable sort is that -/
theorem sort_is {lt : D → D → Bool} (O : Swo lt) {l out : List D} (h1 : Srtd lt out) (h2 : Stb lt out l) : out = sortB lt l :=
  stb_uniq O h1 (sort_srtd O) (h2.trans ⟨(sort_stb O).perm.symm, fun x => ((sort_stb O).cls x).symm⟩)
theorem ins_congr {lt lt' : D → D → Bool} {x : D} : ∀ {l : List D}, (∀ y ∈ l, lt y x = lt' y x) → sortB.insB lt x l = sortB.insB lt' x l
  | [], _ => rfl
  | y :: ys, h => by
    unfold sortB.insB
    rw [h y (List.mem_cons_self ..), ins_congr fun z hz => h z (List.mem_cons_of_mem _ hz)]
theorem sort_congr {lt lt' : D → D → Bool} : ∀ {l : List D}, (∀ x ∈ l, ∀ y ∈ l, lt x y = lt' x y) → sortB lt l = sortB lt' l
  | [], _ => rfl
  | x :: l, h => by
    have ih := sort_congr (l := l) fun a ha b hb => h a (List.mem_cons_of_mem _ ha) b (List.mem_cons_of_mem _ hb)
    unfold sortB
    rw [ih]
    refine ins_congr fun y hy => h y ?_ x (List.mem_cons_self ..)
    have pm : ∀ (l : List D), (sortB lt' l).Perm l := fun l => by
      induction l with
      | nil => exact List.Perm.refl _
      | cons a l ih => unfold sortB; exact ins_perm.trans (ih.cons a)
    exact List.mem_cons_of_mem _ ((pm l).mem_iff.mp hy)
/-! the three orders -/
theorem swoI : Swo ltI := ⟨fun x y h => by unfold ltI at *; simp only [decide_eq_true_eq, decide_eq_false_iff_not] at *; omega, fun x y z h1 h2 => by unfold ltI at *; simp only [decide_eq_false_iff_not] at *; omega⟩
theorem swoP : Swo ltPr := by
  refine ⟨fun x y h => ?_, fun x y z h1 h2 => ?_⟩
  · have a := lexB_iff.mp (show lexB (kP x) (kP y) = true from h)
    refine (lexB_no (p := kP y) (q := kP x)).mpr ?_
    omega
  · have a := lexB_no.mp (show lexB (kP y) (kP x) = false from h1)
    have b := lexB_no.mp (show lexB (kP z) (kP y) = false from h2)
    refine (lexB_no (p := kP z) (q := kP x)).mpr ?_
    omega
theorem swoS : Swo ltS := ⟨fun x y h => by
    unfold ltS at *
    simp only [decide_eq_true_eq, decide_eq_false_iff_not] at *
    exact List.lt_asymm h, fun x y z h1 h2 => by
    unfold ltS at *
    simp only [decide_eq_false_iff_not, List.not_lt] at *
    exact List.le_trans h1 h2⟩
/-! ### sorted(..) -/
section
variable {X : Cx} {pins : List (Addr × Obj)} {σ : L2.St} {H : Hp} {s : Shared} {R : List Addr} {h : Hh}
/-- the items of what is sorted -/
theorem coll_ok (hc : X.calm = true) (I : L2.Inv X pins σ H s) (hr : HRel X.w X.K R h H) {x : D} {v : V} {u : Value} {ys : List D} {A : Around} {E : Value → Shared → Prop} {Q : List Value → Shared → Prop} (hA : A.handled = none) (vr : VR X.K H R x v) (rv : RelV v u) (z : seqOf h x = some ys ∨ (∃ n ep kvs, x = .ref n ∧ h[n]? = some (.dct ep kvs) ∧ ys = kvs.map (·.1))) (hz : ys.length ≤ sizeLine)
    (q : ∀ h' tk us vs, (∀ b o, s.heap.get? b = some o → h'.get? b = some o) → VRs X.K H R ys vs → Vals vs us → Q us { s with heap := h', toks := tk }) : wpAny (model X.prog X.w) A (collect u) Q E s := by
  have fromL : ∀ {a : Addr} {ls : List V}, SqL X.K H a ls → VRs X.K H R ys ls → wpAny (model X.prog X.w) A (collect (.ref a)) Q E s := by
    intro a ls hl rl
    obtain ⟨its, rvs, pl, _⟩ := I.list hl
    obtain ⟨o, e, c, n, hd⟩ := pl.isList
    refine wpAny_collect_seq a (T := "list") (.inl rfl) e c hd (fun h' hk => ?_) (by rw [List.size_toArray, ← rvs.length, rl.len]; exact hz)
    exact q h' s.toks _ ls hk rl (by simpa using rvs)
  rcases z with z | ⟨n, ep, kvs, rfl, e1, rfl⟩
  · cases x <;> simp only [seqOf] at z <;> (first | (cases z; done) | skip)
    case tup xs =>
      have e' := Option.some.inj z
      subst e'
      obtain ⟨a, ls, rfl, ha, rl⟩ := vr
      cases rv
      obtain ⟨its, rvs, ⟨o, e, c, n, hd⟩, _⟩ := I.tuple ha
      refine wpAny_collect_seq a (T := "tuple") (.inr rfl) e c hd (fun h' hk => ?_) (by rw [List.size_toArray, ← rvs.length, rl.len]; exact hz)
      exact q h' s.toks _ ls hk rl (by simpa using rvs)
    case rol xs =>
      have e' := Option.some.inj z
      subst e'
      obtain ⟨a, ls, rfl, ha, rl⟩ := vr
      cases rv
      exact fromL ha.l rl
    case ref n =>
      obtain ⟨a, k, rfl⟩ := vr
      cases rv
      split at z
      · rename_i xs e1
        have e' := Option.some.inj z
        subst e'
        obtain ⟨ls, hl, rl⟩ := hr.ob n _ a e1 k
        exact fromL (SqL.of hl) rl
      · cases z
  · obtain ⟨a, k, rfl⟩ := vr
    cases rv
    obtain ⟨es, hl, dr⟩ := hr.ob n _ a e1 k
    obtain ⟨⟨e2, e3, o, dsx, e4, e5, e6, e7⟩, _, _⟩ := I.hok a _ hl
    have l1 := Paired.length dr.rel
    have l2 := Paired.length e7
    have l3 : dsx.size = kvs.length := by rw [← Array.length_toList, ← l2, ← l1]
    refine PySem.W.kdu_collect (kdl_raw (prog := X.prog) (w := X.w) e2 e5 e6) hA e4 (by rw [l3]; rw [List.length_map] at hz; exact hz) fun h2 tk acc hk hi => ?_
    refine q h2 tk _ (es.map (·.1)) hk (keys_rs dr.rel) (vals_of_at (by rw [List.length_map, show acc.toList.length = acc.size from Array.length_toList, hi.1, l3, l1]) fun j v w h1 h2 => ?_)
    obtain ⟨en, g1, rfl⟩ := hi.2 j w (by rw [← Array.getElem?_toList]; exact h2)
    rw [List.getElem?_map] at h1
    cases gq : es[j]? with
    | none => rw [gq] at h1; cases h1
    | some p =>
      rw [gq] at h1
      cases h1
      obtain ⟨b, g2, g3, _⟩ := paired_at e7 gq
      rw [Array.getElem?_toList] at g2
      rw [g1] at g2
      cases g2
      exact g3
/-- values back to data -/
theorem back_ok (I : L2.Inv X pins σ H s) (hr : HRel X.w X.K R h H) : ∀ {ds : List D} {vs : List V} {us : List Value}, VRs X.K H R ds vs → Vals vs us → ∀ (g : Value → D), (∀ u d v, VR X.K H R d v → RelV v u → u ∈ us → g u = d) → us.map g = ds
  | [], vs, us, r, q, g, hg => by rw [show vs = [] from r] at q; cases q; rfl
  | d :: ds, vs, us, r, q, g, hg => by
    obtain ⟨v, t, rfl, k1, k2⟩ := r
    cases q with
    | cons q1 q2 =>
      rw [List.map_cons, hg _ d v k1 q1 (List.mem_cons_self ..), back_ok I hr k2 q2 g fun u d v a b c => hg u d v a b (List.mem_cons_of_mem _ c)]
theorem vrs_map {g : Value → D} : ∀ {us : List Value}, (∀ u ∈ us, ∃ v, VR X.K H R (g u) v ∧ RelV v u) → ∃ vs, VRs X.K H R (us.map g) vs ∧ Vals vs us
  | [], _ => ⟨[], rfl, .nil⟩
  | u :: us, hh => by
    obtain ⟨v, a, b⟩ := hh u (List.mem_cons_self ..)
    obtain ⟨vs, c, d⟩ := vrs_map fun w hw => hh w (List.mem_cons_of_mem _ hw)
    exact ⟨v :: vs, .cons a c, .cons b d⟩
theorem itm_src {x : D} {ys : List D} (e : itmOf h x = some ys) : seqOf h x = some ys ∨ (∃ n ep kvs, x = .ref n ∧ h[n]? = some (.dct ep kvs) ∧ ys = kvs.map (·.1)) := by
  cases x <;> simp only [itmOf, listOf] at e <;> (first | (cases e; done) | skip)
  · exact .inl e
  · exact .inl e
  · rename_i n
    split at e
    · rename_i xs e1
      exact .inl (by simp only [seqOf, e1]; exact e)
    · rename_i ep kvs e1
      exact .inr ⟨n, ep, kvs, rfl, e1, (Option.some.inj e).symm⟩
    · cases e
/-- a new list, sorted -/
theorem sort_run (hc : X.calm = true) (I : L2.Inv X pins σ H s) (hr : HRel X.w X.K R h H) {x : D} {v : V} {u : Value} {ys zs : List D} {Q : VK} (vr : VR X.K H R x v) (rv : RelV v u) (z : itmOf h x = some ys) (hz : zs.length ≤ sizeLine) {lt : D → D → Bool} (O : Swo lt) (hzs : zs = sortB lt ys)
    (hS : ∀ (g : Value → D) (us : List Value) (s1 : Shared) (a : Addr), (∀ w d v, VR X.K H R d v → RelV v w → g w = d) → (∀ w, (¬ ∃ d v, VR X.K H R d v ∧ RelV v w) → g w = .non) → L2.Inv X pins σ H { s1 with heap := s1.heap } → us.map g = ys → (∀ w ∈ us, ∃ v, VR X.K H R (g w) v ∧ RelV v w) → 2 ≤ us.length → H a = none → (∀ b o, s1.heap.get? b = some o → b ≠ a) →
      ∀ s2 : Shared, (∀ b o, s1.heap.get? b = some o → s2.heap.get? b = some o) → s2.heap.get? a = some (seqObj "list" us.toArray 0) → SortableO X.prog X.w X.A.in1.in1 s2 a us fun p q => lt (g p) (g q))
    (q : ∀ p vs, H p = none → VRs X.K H R zs vs → Q (.ref p) (upd H p (.lst vs))) : wpAny (model X.prog X.w) X.A (call (.builtin "sorted") [u]) (EP X pins σ Q) X.xe s := by
  have hl : zs.length = ys.length := by rw [hzs]; exact (sort_stb O).perm.length_eq
  refine Calls.call_function_entry PyProof.Rows.kind_sorted PyProof.Rows.plain_sorted PyProof.Rows.entry_sorted (PyProof.Rows.args_sorted1 _) ?_
  unfold Builtin.«sorted»
  refine wpAny_bind (m := checkCount "sorted" 1 1 _) (wpAny_pure ?_)
  refine wpAny_bind (coll_ok hc I hr (A := X.A.in1) (I.ok.hd hc) vr rv (itm_src z) (by rw [← hl]; exact hz) fun h' tk us vs hk rs ru => ?_)
  have I1 : L2.Inv X pins σ H { s with heap := h', toks := tk } := I.kept hk
  have dec : ∀ w : Value, Decidable (∃ d v, VR X.K H R d v ∧ RelV v w) := fun w => Classical.propDecidable _
  let g : Value → D := fun w => if hw : ∃ d v, VR X.K H R d v ∧ RelV v w then Classical.choose hw else .non
  have hg : ∀ w d v, VR X.K H R d v → RelV v w → g w = d := fun w d v a b => by
    have hw : ∃ d v, VR X.K H R d v ∧ RelV v w := ⟨d, v, a, b⟩
    show (if hw : ∃ d v, VR X.K H R d v ∧ RelV v w then Classical.choose hw else .non) = d
    rw [dif_pos hw]
    obtain ⟨v2, a2, b2⟩ := Classical.choose_spec hw
    rw [relV_inj b2 b] at a2
    exact vr_inj I hr _ d v a2 a
  have hg0 : ∀ w, (¬ ∃ d v, VR X.K H R d v ∧ RelV v w) → g w = .non := fun w hw => dif_neg hw
  have e1 : us.map g = ys := back_ok I hr rs ru g fun w d v a b _ => hg w d v a b
  have hus : ∀ w ∈ us, ∃ v, VR X.K H R (g w) v ∧ RelV v w := fun w hw => by
    obtain ⟨j, hj⟩ := List.mem_iff_getElem?.mp hw
    obtain ⟨v, k1, k2⟩ := vals_get ru hj
    obtain ⟨d, k3, k4⟩ := rs.get' k1
    exact ⟨v, by rw [hg w d v k4 k2]; exact k4, k2⟩
  have hlen : us.length = ys.length := by rw [← e1, List.length_map]
  have husz : us.length ≤ sizeLine := by rw [hlen, ← hl]; exact hz
  refine wpAny_bind (wpAny_newList ?_ husz)
  have hoL : (h'.push (seqObj "list" us.toArray 0)).get? h'.objs.size = some (seqObj "list" us.toArray 0) := Heap.get?_push_size _ rfl
  show wpAny _ _ _ _ _ { s with heap := h'.push (seqObj "list" us.toArray 0), toks := tk }
  have hp : H h'.objs.size = none := I1.hok.fresh (Nat.le_refl _)
  refine wpAny_bind (wpAny_holding (wpAny_call_entry PyProof.Rows.slot_list_sort ⟨_, hoL, rfl⟩ PyProof.Rows.entry_list_sort
    (list_sort_ord (s := { s with heap := h'.push (seqObj "list" us.toArray 0), toks := tk }) (ltv := fun p q => lt (g p) (g q)) ⟨fun a b => O.asym _ _, fun a b c => O.tr _ _ _⟩ hoL husz
      (fun h2 => hS g us { s with heap := h', toks := tk } h'.objs.size hg hg0 I1 e1 hus h2 hp (fun b o e => Nat.ne_of_lt (Heap.lt_size e)) _ (fun b o e => Heap.get?_push_of_some _ e) hoL) fun out hs hb => ⟨_, rfl, ?_⟩) (PyProof.Rows.args_list_sort _)))
  have e2 : out.map g = zs := by
    rw [hzs, ← e1]
    exact sort_is O (srtd_map hs) (Stb.map O g hb)
  obtain ⟨vs', w1, w2⟩ := vrs_map (g := g) (R := R) (H := H) (X := X) (us := out) fun w hw => hus w (hb.perm.mem_iff.mp hw)
  rw [e2] at w1
  obtain ⟨e', he'⟩ := PyProof.Rows.sortedHeap_at (vs := us) (out := out.toArray) hoL
  refine wpAny_pure ⟨_, rfl, .ref h'.objs.size, upd H h'.objs.size (.lst vs'), I1.laid (t' := tk) (fun b u e => ?_) (Nat.le_refl _)
    (show ObjOk X.prog X.w _ _ _ (.lst vs') from ⟨by rw [w1.len]; exact hz, out, e', w2, he'⟩), rfl, q _ vs' hp w1⟩
  have hb : b < h'.objs.size := Heap.lt_size e
  rw [PyProof.Rows.sortedHeap_old (Nat.ne_of_lt hb) (by rw [size_push']; exact Nat.lt_succ_of_lt hb)]
  exact Heap.get?_push_of_some _ e
end
end Z
set_option Elab.async false
set_option linter.all false
set_option autoImplicit false
set_option maxRecDepth 100000
set_option maxHeartbeats 4000000
namespace Z
open PySem L2 PyProof.Rows SrtO
section
variable {X : Cx}
theorem all_get {p : D → Bool} {g : Value → D} {us : List Value} {ys : List D} (e : us.map g = ys) (h : ys.all p = true) {w : Value} (hw : w ∈ us) : p (g w) = true := List.all_eq_true.mp h _ (by rw [← e]; exact List.mem_map.mpr ⟨w, hw, rfl⟩)
theorem cr_sorted (hc : X.calm = true) : CallR X (.builtin "sorted") (rG X.w X.K (semB .sorted)) := by
  intro pins s σ H vs us Q I r ⟨R, h, ds, d, h', hr, vr, e, q⟩
  obtain ⟨x, v, u, rfl, rfl, rfl, k1, ru⟩ := arg1 e vr r
  replace e : srtM x h = some (d, h') := e
  unfold srtM at e
  cases z : itmOf h x with
  | none => rw [z] at e; cases e
  | some ys =>
    rw [z] at e
    simp only [Option.bind_some] at e
    cases z2 : sortD ys with
    | none => rw [z2] at e; cases e
    | some zs =>
      rw [z2] at e
      obtain ⟨hz, a1, a2⟩ := lst_of e
      subst a1; subst a2
      unfold sortD at z2
      split at z2
      · rename_i hI
        have ez := (Option.some.inj z2).symm
        refine sort_run hc I hr k1 ru z hz swoI ez (fun g us s1 a hg hg0 I1 e1 hus h2 ha hb s2 hk hs => ?_) fun p vs hp rs => q.lst hr rs hp
        have hints : ∀ w ∈ us, ∃ i t, w = Value.int i t := fun w hw => by
          obtain ⟨v, g1, g2⟩ := hus w hw
          have := all_get e1 hI hw
          cases gw : g w <;> rw [gw] at this g1 <;> first | (cases this; done) | skip
          rename_i i
          rw [show v = V.int i from g1] at g2
          obtain ⟨t, rfl⟩ := g2
          exact ⟨i, t, rfl⟩
        have hkey : ∀ w, iv w = kI (g w) := fun w => by
          by_cases hi : ∃ i t, w = Value.int i t
          · obtain ⟨i, t, rfl⟩ := hi
            rw [hg _ (.int i) (.int i) rfl ⟨t, rfl⟩]
            rfl
          · have h0 : iv w = 0 := by
              cases w <;> first | rfl | skip
              exact absurd ⟨_, _, rfl⟩ hi
            rw [h0]
            cases gw : g w <;> first | rfl | skip
            rename_i i
            exfalso
            by_cases hw : ∃ d v, VR X.K H R d v ∧ RelV v w
            · obtain ⟨d, v, b1, b2⟩ := hw
              rw [hg w d v b1 b2] at gw
              subst gw
              rw [show v = V.int i from b1] at b2
              obtain ⟨t, rfl⟩ := b2
              exact hi ⟨_, _, rfl⟩
            · rw [hg0 w hw] at gw
              cases gw
        have hfun : (fun p q => ltI (g p) (g q)) = ltIv := funext fun p => funext fun q => by
          show decide (kI (g p) < kI (g q)) = decide (iv p < iv q)
          rw [hkey p, hkey q]
        rw [hfun]
        exact ints_sortable (ints_iv hints) h2
      · split at z2
        · rename_i hP
          have ez := (Option.some.inj z2).symm
          refine sort_run hc I hr k1 ru z hz swoP ez (fun g us s1 a hg hg0 I1 e1 hus h2 ha hb s2 hk hs => ?_) fun p vs hp rs => q.lst hr rs hp
          refine pairs_sortableO (k := fun w => kP (g w)) (by omega) (fun w hw => ?_) fun o ho c => ?_
          · obtain ⟨v, g1, g2⟩ := hus w hw
            have := all_get e1 hP hw
            have hpq : ∃ i j, g w = .tup [.int i, .int j] := by
              unfold isP at this
              split at this
              · exact ⟨_, _, by assumption⟩
              · cases this
            obtain ⟨i, j, gw⟩ := hpq
            rw [gw] at g1
            rw [gw]
            obtain ⟨b, ls, rfl, hb1, rl⟩ := g1
            cases g2
            obtain ⟨w1, t1, rfl, q1, w2, t2, rfl, q2, q3⟩ := rl
            rw [show t2 = [] from q3, show w1 = V.int i from q1, show w2 = V.int j from q2] at hb1
            obtain ⟨its, rvs, ⟨o, ho, hcl, n, hd⟩, _⟩ := I1.tuple hb1
            obtain ⟨u1, u2, rfl, ri, rj⟩ := vals2 rvs
            obtain ⟨t1, rfl⟩ := ri
            obtain ⟨t2, rfl⟩ := rj
            exact ⟨b, o, t1, t2, n, rfl, hk b o ho, hcl, hd⟩
          · rw [hs] at ho
            cases ho
            exact absurd (Value.type.inj c) (by decide)
        · cases z2
end
end Z
set_option Elab.async false
set_option linter.all false
set_option autoImplicit false
set_option maxRecDepth 100000
set_option maxHeartbeats 4000000
namespace Z
open PySem L2 PyProof.Rows
section
variable {X : Cx} {pins : List (Addr × Obj)} {σ : L2.St} {H : Hp} {s : Shared} {R : List Addr} {h : Hh}
theorem rd_list {a : Addr} {vs : List V} {ps : List PyData} (I : L2.Inv X pins σ H s) (hq : SqL X.K H a vs) (hr : ∀ us, Vals vs us → ∃ as, ReadsAll s.heap us ps as) : ∃ as, Reads s.heap (.ref a) (.list ps) as := by
  obtain ⟨its, rv, pl, _⟩ := I.list hq
  obtain ⟨o, e, c, n, d⟩ := pl.isList
  obtain ⟨as, ra⟩ := hr its rv
  exact ⟨_, .list e c d (by simpa using ra)⟩
theorem rd_tup {a : Addr} {vs : List V} {ps : List PyData} (I : L2.Inv X pins σ H s) (hq : SqT X.K H a vs) (hr : ∀ us, Vals vs us → ∃ as, ReadsAll s.heap us ps as) : ∃ as, Reads s.heap (.ref a) (.tuple ps) as := by
  obtain ⟨its, rv, ⟨o, e, c, n, d⟩, _⟩ := I.tuple hq
  obtain ⟨as, ra⟩ := hr its rv
  exact ⟨_, .tuple e c d (by simpa using ra)⟩
mutual
theorem rd_py (I : L2.Inv X pins σ H s) (f : Nat → Option PyData) (hf : ∀ n p a, f n = some p → R[n]? = some a → ∃ as, Reads s.heap (.ref a) p as) : ∀ (d : D) (p : PyData) (v : V) (u : Value), py0 f d = some p → VR X.K H R d v → RelV v u → ∃ as, Reads s.heap u p as
  | .non, p, v, u, e, r, q => by
    simp only [py0] at e; cases e; subst r; cases q; exact ⟨_, .none⟩
  | .bl b, p, v, u, e, r, q => by
    simp only [py0] at e; cases e; subst r; cases q; exact ⟨_, .bool b⟩
  | .int i, p, v, u, e, r, q => by
    simp only [py0] at e; cases e; subst r; obtain ⟨t, rfl⟩ := q; exact ⟨_, .int _ _⟩
  | .str x, p, v, u, e, r, q => by
    simp only [py0] at e; cases e; subst r; obtain ⟨t, rfl⟩ := q; exact ⟨_, .str _ _⟩
  | .tup xs, p, v, u, e, r, q => by
    simp only [py0] at e
    cases z : pys0 f xs with
    | none => rw [z] at e; cases e
    | some ps =>
      rw [z] at e; cases e
      obtain ⟨a, vs, rfl, ha, rl⟩ := r
      cases q
      exact rd_tup I ha fun us ru => rd_pys I f hf xs ps vs us z rl ru
  | .rol xs, p, v, u, e, r, q => by
    simp only [py0] at e
    cases z : pys0 f xs with
    | none => rw [z] at e; cases e
    | some ps =>
      rw [z] at e; cases e
      obtain ⟨a, vs, rfl, ha, rl⟩ := r
      cases q
      exact rd_list I ha.l fun us ru => rd_pys I f hf xs ps vs us z rl ru
  | .ref n, p, v, u, e, r, q => by
    simp only [py0] at e
    obtain ⟨a, k, rfl⟩ := r
    cases q
    exact hf n p a e k
theorem rd_pys (I : L2.Inv X pins σ H s) (f : Nat → Option PyData) (hf : ∀ n p a, f n = some p → R[n]? = some a → ∃ as, Reads s.heap (.ref a) p as) : ∀ (ds : List D) (ps : List PyData) (vs : List V) (us : List Value), pys0 f ds = some ps → VRs X.K H R ds vs → Vals vs us → ∃ as, ReadsAll s.heap us ps as
  | [], ps, vs, us, e, r, q => by
    simp only [pys0] at e; cases e
    rw [show vs = [] from r] at q
    cases q
    exact ⟨_, .nil⟩
  | d :: ds, ps, vs, us, e, r, q => by
    simp only [pys0] at e
    split at e
    · rename_i p ps' e1 e2
      cases e
      obtain ⟨v, t, rfl, r1, r2⟩ := r
      cases q with
      | cons q1 q2 =>
        obtain ⟨as, h1⟩ := rd_py I f hf d p v _ e1 r1 q1
        obtain ⟨bs, h2⟩ := rd_pys I f hf ds ps' t _ e2 r2 q2
        exact ⟨_, .cons h1 h2⟩
    · cases e
end
theorem rd_kvs {w : World} (I : L2.Inv X pins σ H s) (f : Nat → Option PyData) (hf : ∀ n p a, f n = some p → R[n]? = some a → ∃ as, Reads s.heap (.ref a) p as) : ∀ {kvs : List (D × D)} {es : List DE} {ds : List DictEntry},
    Paired (fun (p : D × D) (e : DE) => VR X.K H R p.1 e.1 ∧ VR X.K H R p.2 e.2.2 ∧ ∃ k, p.1.key = some k ∧ k.depth ≤ 8 ∧ e.2.1 = k.hash w) kvs es → Paired (fun (p : DE) (e : DictEntry) => RelV p.1 e.key ∧ e.hash = p.2.1 ∧ RelV p.2.2 e.val) es ds → ∀ {ps : List (PyData × PyData)}, kvs0 f kvs = some ps →
    (∃ as, ReadsAll s.heap (ds.map (·.key)) (ps.map (·.1)) as) ∧ ∃ bs, ReadsAll s.heap (ds.map (·.val)) (ps.map (·.2)) bs
  | _, _, _, .nil, .nil, ps, e => by simp only [kvs0] at e; cases e; exact ⟨⟨_, .nil⟩, _, .nil⟩
  | _, _, _, .cons (a := p) a b, .cons c d, ps, e => by
    simp only [kvs0] at e
    split at e
    · rename_i d1 e1 r1 z1 z2 z3
      cases e
      obtain ⟨⟨as, h1⟩, bs, h2⟩ := rd_kvs I f hf b d z3
      obtain ⟨as', h3⟩ := rd_py I f hf p.1 d1 _ _ z1 a.1 c.1
      obtain ⟨bs', h4⟩ := rd_py I f hf p.2 e1 _ _ z2 a.2.1 c.2.2
      exact ⟨⟨_, .cons h3 h1⟩, _, .cons h4 h2⟩
    · cases e
theorem rd_ref (I : L2.Inv X pins σ H s) (hr : HRel X.w X.K R h H) : ∀ (k : Nat) (n : Nat) (p : PyData) (a : Addr), pyR h k n = some p → R[n]? = some a → ∃ as, Reads s.heap (.ref a) p as
  | 0, n, p, a, e, hk => by simp only [pyR] at e; cases e
  | k + 1, n, p, a, e, hk => by
    simp only [pyR] at e
    split at e
    · rename_i xs e1
      cases z : pys0 (pyR h k) xs with
      | none => rw [z] at e; cases e
      | some ps =>
        rw [z] at e; cases e
        obtain ⟨vs, h1, h2⟩ := hr.ob n _ a e1 hk
        exact rd_list I (SqL.of h1) fun us ru => rd_pys I _ (fun n p a => rd_ref I hr k n p a) xs ps vs us z h2 ru
    · rename_i ep kvs e1
      cases z : kvs0 (pyR h k) kvs with
      | none => rw [z] at e; cases e
      | some ps =>
        rw [z] at e; cases e
        obtain ⟨es, h1, dr⟩ := hr.ob n _ a e1 hk
        obtain ⟨⟨e2, e3, o, dsx, e4, e5, e6, e7⟩, _, _⟩ := I.hok a _ h1
        obtain ⟨⟨as, g1⟩, bs, g2⟩ := rd_kvs (w := X.w) I (pyR h k) (fun n p a => rd_ref I hr k n p a) dr.rel e7 z
        exact ⟨_, .dict e4 e5.1 e6 g1 g2⟩
    · cases e
theorem cr_repr (hg : X.A.guards = some []) (hu : X.A.units + 64 < cLine) : CallR X (.builtin "repr") (rG X.w X.K (semB .repr)) := by
  intro pins s σ H vs us Q I r ⟨R, h, ds, d, h', hr, vr, e, q⟩
  obtain ⟨x, v, u, rfl, rfl, rfl, k1, ru⟩ := arg1 e vr r
  replace e : opt h ((reprD x h).map .str) = some (d, h') := e
  obtain ⟨z0, a2⟩ := opt_ok e
  subst a2
  have main : ∀ {a : Addr} {y : Str}, RelV v (.ref a) → reprD.rep0 x h' = some y → d = .str y → wpAny (model X.prog X.w) X.A (call (.builtin "repr") [.ref a]) (EP X pins σ Q) X.xe s := fun {a y} rva e0 ed => by
    unfold reprD.rep0 at e0
    split at e0
    · rename_i p hp
      split at e0
      · rename_i hh
        obtain ⟨s1, s2, s3, s4⟩ := hh
        have ey := Option.some.inj e0
        subst ey
        subst ed
        obtain ⟨as, rd⟩ := rd_py I _ (fun n p a => rd_ref I hr 40 n p a) x p v (.ref a) hp k1 rva
        exact repr_of_reads' rd s1 (fun c => by rw [s4] at c; cases c) hg (by omega) (fun b o e => e) (fun h2 u tk hk => ⟨.str p.shown, H, I.kept hk, ⟨u, rfl⟩, q.same hr rfl⟩) s2
      · cases e0
    · cases e0
  cases x <;> simp only [reprD] at z0 <;> (first | (cases z0; done) | skip)
  case tup xs =>
    obtain ⟨a, ls, rfl, ha, rl⟩ := k1
    cases ru
    cases zz : reprD.rep0 (.tup xs) h' with
    | none => rw [zz] at z0; cases z0
    | some y => rw [zz] at z0; exact main rfl zz (Option.some.inj z0).symm
  case rol xs =>
    obtain ⟨a, ls, rfl, ha, rl⟩ := k1
    cases ru
    cases zz : reprD.rep0 (.rol xs) h' with
    | none => rw [zz] at z0; cases z0
    | some y => rw [zz] at z0; exact main rfl zz (Option.some.inj z0).symm
  case ref n =>
    obtain ⟨a, k, rfl⟩ := k1
    cases ru
    cases zz : reprD.rep0 (.ref n) h' with
    | none => rw [zz] at z0; cases z0
    | some y => rw [zz] at z0; exact main rfl zz (Option.some.inj z0).symm
end
end Z
set_option Elab.async false
set_option linter.all false
set_option autoImplicit false
set_option maxRecDepth 100000
set_option maxHeartbeats 4000000
namespace Z
open PySem L2 PyProof.Rows

/-! ### the check of a text against a mini text -/
def Cc.vis (c : Cc) (x : Str) (i : Nat) : Bool := decide (c.N[i]? = some x) && (match c.sc.names.lookup x with | some .local => true | some .cell => true | some .free => true | _ => false) && decide (x ≠ "__debug__") && decide (x ≠ "__classdict__")
def Cc.loc (c : Cc) (x : Str) (i : Nat) : Bool := decide (c.N[i]? = some x) && (match c.sc.names.lookup x with | some .local => true | some .cell => c.fnb x | _ => false)
def Cc.gl (c : Cc) (x : Str) : Bool := decide (c.sc.names.lookup x = some .globalImplicit) && decide (x ≠ "__debug__")
def Cc.bg (c : Cc) (x : Str) : Bool := c.gl x && decide (x ∈ c.bn)
def cstC : D → Const → Bool
  | .non, .none => true
  | .bl a, .bool b => a == b
  | .int i, .int j => decide (i = j)
  | .str x, .str y => decide (x = y)
  | _, _ => false
def notStar : Expr → Bool
  | .Starred .. => false
  | _ => true
def noStar (es : List Expr) : Bool := es.all notStar
def notSet : Expr → Bool
  | .Set .. => false
  | _ => true
def plainT : Expr → Bool
  | .UnaryOp .Not _ _ => false
  | .BoolOp .. => false
  | .IfExp .. => false
  | .Compare .. => false
  | _ => true
def tailE (op : BoolOp) (y : Expr) (r : List Expr) (p : Pos) : Expr := match r with
  | [] => y
  | _ => .BoolOp op (y :: r) p
def Bf.nms : Bf → Str
  | .len => "len" | .int => "int" | .list => "list" | .tuple => "tuple" | .sorted => "sorted" | .repr => "repr" | .dict => "dict" | .all => "all" | .any => "any"
def bfOk : Bf → Bool
  | .len => true | .int => true | .list => true | .tuple => true | .sorted => true | .repr => true | _ => false
def chkNs (c : Cc) : List Nat → List Expr → Bool
  | [], [] => true
  | i :: is, .Name x _ :: es => c.loc x i && chkNs c is es
  | _, _ => false
def chkG (c : Cc) : Tg → Expr → Bool
  | .nm i, .Name x _ => c.loc x i
  | .tp is, .Tuple es _ _ => chkNs c is es
  | _, _ => false
def inOwn (own : List (Str × Nat)) (is : List Nat) : Bool := is.all fun i => decide (i ∈ own.map (·.2))
def len12 : List Expr → Bool
  | [_] => true
  | [_, _] => true
  | _ => false
mutual
def chk (c : Cc) : Ex → Expr → Bool
  | .var i, .Name x _ => c.vis x i
  | .cst d, .Constant k _ _ => cstC d k
  | .gcst x _, .Name y _ => decide (x = y) && c.gl y
  | .bin o a b, .BinOp l o' r _ => decide (o = o') && chk c a l && chk c b r
  | .neg a, .UnaryOp .USub x _ => chk c a x
  | .nt a, .UnaryOp .Not x _ => chk c a x
  | .and2 a b, .BoolOp .And (x :: y :: r) p => chk c a x && chk c b (tailE .And y r p)
  | .or2 a b, .BoolOp .Or (x :: y :: r) p => chk c a x && chk c b (tailE .Or y r p)
  | .cmp o a b, .Compare l [o'] [r] _ => decide (o = o') && chk c a l && chk c b r && !behindInMarks o' r
  | .chn o p a b d, .Compare l [o', p'] [r, t] _ => decide (o = o') && decide (p = p') && chk c a l && chk c b r && chk c d t && !lastMarks [o', p'] [r, t]
  | .ife t a b, .IfExp u x y _ => chkT c t u && chk c a x && chk c b y
  | .call x _ es, .Call (.Name y _) args [] _ => decide (x = y) && c.gl y && noStar args && chks c es args
  | .blt b es, .Call (.Name y _) [a] [] _ => decide (y = b.nms) && c.bg y && bfOk b && notStar a && chks c es [a]
  | .mth m o es, .Call (.Attribute ob nm ap) args [] cp => decide (nm = m.name) && chk c o ob && attrPlain ob && (ap.endLine == cp.line) && noStar args && decide (args.length < 20) && chks c es args
  | .isi a [t], .Call (.Name y _) [e, .Name x q] [] _ => decide (y = "isinstance") && c.bg y && chk c a e && notStar e && tyNames c.bg [t] [.Name x q]
  | .isi a ts, .Call (.Name y _) [e, .Tuple es _ _] [] _ => decide (y = "isinstance") && c.bg y && chk c a e && notStar e && decide (ts.length ≤ 10) && tyNames c.bg ts es
  | .idx a i, .Subscript x y _ => chk c a x && chk c i y && notSlc y
  | .slc a lo hi, .Subscript x (.Slice l u none _) _ => chk c a x && chko c lo l && chko c hi u
  | .lst es, .List xs _ => noStar xs && chks c es xs
  | .tup es, .Tuple xs _ _ => noStar xs && chks c es xs
  | .dic [] [], .Dict [] [] _ => true
  | .lc own tg src cond elt, .ListComp e [⟨t, it, ifs, as⟩] scope _ => decide (as = 0) && blkC c.N c.sc scope own && chkI c src t it && chkG (c.blk scope) tg t && chkC (c.blk scope) cond ifs && chk (c.blk scope) elt e && notSet it && inOwn own tg.ixs
  | .lc2 own vs1 tg src cond tg1 src1 cond1 elt, .ListComp e [⟨t, it, ifs, as⟩, ⟨t1, it1, ifs1, as1⟩] scope _ => decide (as = 0) && decide (as1 = 0) && blkC c.N c.sc scope own && chkI c src t it && chkG (c.blk scope) tg t && chkC (c.blk scope) cond ifs && chkI (c.blk scope) src1 t1 it1 && chkG (c.blk scope) tg1 t1 && chkC (c.blk scope) cond1 ifs1 &&
      chk (c.blk scope) elt e && notSet it && notSet it1 && inOwn own tg.ixs && inOwn own vs1 && tg1.ixs.all (fun i => decide (i ∈ vs1))
  | _, _ => false
def chks (c : Cc) : List Ex → List Expr → Bool
  | [], [] => true
  | a :: r, e :: es => chk c a e && chks c r es
  | _, _ => false
def chko (c : Cc) : List Ex → Option Expr → Bool
  | [], none => true
  | [a], some e => chk c a e
  | _, _ => false
def chkT (c : Cc) : Te → Expr → Bool
  | .nt t, .UnaryOp .Not x _ => chkT c t x
  | .and2 t u, .BoolOp .And (x :: y :: r) p => chkT c t x && chkT c u (tailE .And y r p)
  | .or2 t u, .BoolOp .Or (x :: y :: r) p => chkT c t x && chkT c u (tailE .Or y r p)
  | .cm o a b, .Compare l [o'] [r] _ => decide (o = o') && chk c a l && chk c b r && !behindInMarks o' r
  | .ch o p a b d, .Compare l [o', p'] [r, t] _ => decide (o = o') && decide (p = p') && chk c a l && chk c b r && chk c d t && !lastMarks [o', p'] [r, t]
  | .val x, e => plainT e && chk c x e
  | _, _ => false
def chkC (c : Cc) : List Te → List Expr → Bool
  | [], [] => true
  | [t], [e] => chkT c t e
  | _, _ => false
def chkI (c : Cc) : Sr → Expr → Expr → Bool
  | .rng es, _, .Call (.Name y _) args [] _ => decide (y = "range") && c.bg y && len12 args && noStar args && chks c es args
  | .enm a, .Tuple .., .Call (.Name y _) [e] [] _ => decide (y = "enumerate") && c.bg y && notStar e && chk c a e
  | .zp a b, .Tuple .., .Call (.Name y _) [e, f] [] _ => decide (y = "zip") && c.bg y && notStar e && notStar f && chk c a e && chk c b f
  | .over a, _, e => chk c a e
  | _, _, _ => false
end
/-! what a mini text's names must stand for -/
section
variable (P : Str → Fn → Prop) (G : Str → D → Prop)
mutual
def Cal : Ex → Prop
  | .var _ => True
  | .cst _ => True
  | .gcst x d => G x d
  | .bin _ a b => Cal a ∧ Cal b
  | .neg a => Cal a
  | .nt a => Cal a
  | .and2 a b => Cal a ∧ Cal b
  | .or2 a b => Cal a ∧ Cal b
  | .cmp _ a b => Cal a ∧ Cal b
  | .chn _ _ a b d => Cal a ∧ Cal b ∧ Cal d
  | .ife t a b => CalT t ∧ Cal a ∧ Cal b
  | .call x g es => P x g ∧ Cals es
  | .blt _ es => Cals es
  | .mth _ o es => Cal o ∧ Cals es
  | .isi a _ => Cal a
  | .idx a i => Cal a ∧ Cal i
  | .slc a lo hi => Cal a ∧ Cals lo ∧ Cals hi
  | .lst es => Cals es
  | .tup es => Cals es
  | .dic ks vs => Cals ks ∧ Cals vs
  | .lc _ _ src cond elt => CalI src ∧ CalC cond ∧ Cal elt
  | .lc2 _ _ _ src cond _ src1 cond1 elt => CalI src ∧ CalC cond ∧ CalI src1 ∧ CalC cond1 ∧ Cal elt
  | .dc _ _ src k v => CalI src ∧ Cal k ∧ Cal v
  | .sset e => Cal e
  | .lset e => Cal e
def Cals : List Ex → Prop
  | [] => True
  | a :: r => Cal a ∧ Cals r
def CalT : Te → Prop
  | .val e => Cal e
  | .cm _ a b => Cal a ∧ Cal b
  | .ch _ _ a b d => Cal a ∧ Cal b ∧ Cal d
  | .nt t => CalT t
  | .and2 t u => CalT t ∧ CalT u
  | .or2 t u => CalT t ∧ CalT u
def CalC : List Te → Prop
  | [] => True
  | t :: r => CalT t ∧ CalC r
def CalI : Sr → Prop
  | .over e => Cal e
  | .rng es => Cals es
  | .enm e => Cal e
  | .zp a b => Cal a ∧ Cal b
  | .itms e => Cal e
end
end
/-! small facts -/
section
variable {c : Cc} {X : Cx} {k : Nat}
theorem vis_ok (o : CtxOk c X k) {x : Str} {i : Nat} (h : c.vis x i = true) : X.N[i]? = some x ∧ Vis X.env.scope x ∧ (x == ("__debug__" : Str)) = false ∧ (x == ("__classdict__" : Str)) = false := by
  unfold Cc.vis at h
  simp only [Bool.and_eq_true, decide_eq_true_eq] at h
  obtain ⟨⟨⟨h1, h2⟩, h3⟩, h4⟩ := h
  refine ⟨by rw [o.N]; exact h1, ?_, by simpa using h3, by simpa using h4⟩
  unfold Vis
  rw [o.sc]
  split at h2 <;> first | (rename_i e; exact .inl e) | (rename_i e; exact .inr (.inl e)) | (rename_i e; exact .inr (.inr e)) | cases h2
theorem loc_ok (o : CtxOk c X k) {x : Str} {i : Nat} (h : c.loc x i = true) : X.N[i]? = some x ∧ L2.Loc X.env.scope x ∧ (X.fn x = true ∨ X.env.scope.names.lookup x = some .local) := by
  unfold Cc.loc at h
  simp only [Bool.and_eq_true, decide_eq_true_eq] at h
  obtain ⟨h1, h2⟩ := h
  refine ⟨by rw [o.N]; exact h1, ?_⟩
  unfold L2.Loc
  rw [o.sc]
  split at h2
  · rename_i e; exact ⟨.inl e, .inr e⟩
  · rename_i e; exact ⟨.inr e, .inl (o.fn x h2)⟩
  · cases h2
theorem gl_ok (o : CtxOk c X k) {x : Str} (h : c.gl x = true) : Gl X x ∧ (x == ("__debug__" : Str)) = false := by
  unfold Cc.gl at h
  simp only [Bool.and_eq_true, decide_eq_true_eq] at h
  refine ⟨?_, by simpa using h.2⟩
  unfold Gl Env.kindOf
  rw [o.sc]
  exact h.1
theorem bg_ok (o : CtxOk c X k) {x : Str} (h : c.bg x = true) : Gl X x ∧ X.mg x = none := by
  unfold Cc.bg at h
  simp only [Bool.and_eq_true, decide_eq_true_eq] at h
  exact ⟨(gl_ok o h.1).1, o.bn x h.2⟩
theorem star_ok {e : Expr} (h : notStar e = true) (es : List Expr) (env : Env) : starEach (e :: es) env = (false, eval e env) :: starEach es env := by
  cases e <;> first | rfl | cases h
theorem stars_ok : ∀ {es : List Expr}, noStar es = true → ∀ (env : Env), starEach es env = es.map fun e => (false, eval e env)
  | [], _, env => rfl
  | e :: es, h, env => by
    have h' : notStar e = true ∧ noStar es = true := by simpa only [noStar, List.all_cons, Bool.and_eq_true] using h
    rw [star_ok h'.1, stars_ok h'.2]; rfl
theorem back_any {es : List Expr} (h : noStar es = true) (env : Env) (pos : Pos) : (backTo pos (starEach es env)).any (·.1) = false := by
  rw [stars_ok h]
  unfold backTo
  induction es with
  | nil => rfl
  | cons e es ih =>
    have h' : notStar e = true ∧ noStar es = true := by simpa only [noStar, List.all_cons, Bool.and_eq_true] using h
    rw [List.map_cons, List.map_cons, List.any_cons, ih h'.2]; rfl
theorem back_few {es : List Expr} (h : noStar es = true) (hl : es.length < 20) (env : Env) (pos : Pos) : ((backTo pos (starEach es env)).all (fun x => !x.1) && (backToKw pos (keywordEach [] env)).all (fun x => x.1.isSome)
      && decide (es.length + ([] : List Keyword).length + (if ([] : List Keyword).isEmpty then 0 else 1) < 30)) = true := by
  have h1 : (backTo pos (starEach es env)).all (fun x => !x.1) = true := by
    have := back_any h env pos
    rw [List.any_eq_false] at this
    rw [List.all_eq_true]
    intro x hx
    have := this x hx
    simpa using this
  rw [h1]
  have h2 : decide (es.length + ([] : List Keyword).length + (if ([] : List Keyword).isEmpty then 0 else 1) < 30) = true := decide_eq_true (by show es.length + 0 + 0 < 30; omega)
  rw [h2]
  rfl
theorem plain_ix {b : Expr} (h : notSlc b = true) : PlainIx b := by
  intro o i
  cases b <;> first | rfl | cases h
theorem set_ok' {e : Expr} (h : notSet e = true) (env : Env) (x : Value) : foldedSetIterable e env x = pure x := by
  cases e <;> first | rfl | cases h
theorem plain_t {e : Expr} (h : plainT e = true) (env : Env) (whole : Sem Value) : isTrue e env whole = (do let v ← whole; standAt e.pos; holding [v] (truthy v)) := by
  cases e <;> first | rfl | (cases h; done) | skip
  rename_i op x p
  cases op <;> first | rfl | cases h
theorem cst_ok {d : D} {kk : Const} {j : Nat} {pos : Pos} (h : cstC d kk = true) : PE X (.Constant kk j pos) (J X fun _ h => some (d, h)) := by
  cases d <;> cases kk <;> simp only [cstC] at h <;> (first | (cases h; done) | skip)
  · exact j_cst pe_non fun _ _ => rfl
  · have : _ = _ := eq_of_beq h
    subst this
    exact j_cst pe_bl fun _ _ => rfl
  · have : _ = _ := of_decide_eq_true h
    subst this
    exact j_cst pe_int fun _ _ => rfl
  · have : _ = _ := of_decide_eq_true h
    subst this
    exact j_cst pe_str fun _ _ => rfl
theorem jgs_ok (o : CtxOk c X k) : ∀ {is : List Nat} {es : List Expr}, chkNs c is es = true → PGs X es (JGs X is) ∧ (assignEach es X.env).length = is.length ∧ (assignEach es X.env).findIdx? (·.1) = none
  | [], [], _ => ⟨jgs_nil, rfl, rfl⟩
  | i :: is, .Name x p :: es, h => by
    simp only [chkNs, Bool.and_eq_true] at h
    obtain ⟨h1, h2, h3⟩ := loc_ok o h.1
    obtain ⟨g1, g2, g3⟩ := jgs_ok o h.2
    refine ⟨jgs_cons o.nd h1 h2 h3 g1, by show (assignEach es X.env).length + 1 = _; rw [g2]; rfl, ?_⟩
    show (((false, assign (.Name x p) X.env) :: assignEach es X.env).findIdx? (·.1)) = none
    rw [List.findIdx?_cons, g3]; rfl
  | [], .Name .. :: _, h => by simp only [chkNs] at h; cases h
theorem jg_ok (o : CtxOk c X k) {t : Tg} {e : Expr} (h : chkG c t e = true) : PG X e (JG X t) := by
  cases t with
  | nm i =>
    cases e <;> simp only [chkG] at h <;> (first | (cases h; done) | skip)
    obtain ⟨h1, h2, h3⟩ := loc_ok o h
    exact jg_name o.nd h1 h2 h3
  | tp is =>
    cases e <;> simp only [chkG] at h <;> (first | (cases h; done) | skip)
    obtain ⟨g1, g2, g3⟩ := jgs_ok o h
    exact jg_tup o.calm g1 g2 g3
theorem own_ok {own : List (Str × Nat)} {is : List Nat} (h : inOwn own is = true) : ∀ i ∈ is, i ∈ own.map (·.2) := fun i hi => of_decide_eq_true (List.all_eq_true.mp h i hi)
end
end Z
set_option Elab.async false
set_option linter.all false
set_option autoImplicit false
set_option maxRecDepth 100000
set_option maxHeartbeats 4000000
namespace Z
open PySem L2 PyProof.Rows

/-- the names of a mini text stand for what it says -/
structure Tied (X : Cx) (k : Nat) (P : Str → Fn → Prop) (G : Str → D → Prop) : Prop where
  cal : ∀ x g, P x g → CalOk X.prog X.w X.K X.mg X.base k x g
  glb : ∀ x d, G x d → ∃ u v, X.mg x = some u ∧ RelV v u ∧ ∀ H R, VR X.K H R d v
theorem Tied.blk {X : Cx} {k : Nat} {P : Str → Fn → Prop} {G : Str → D → Prop} (t : Tied X k P G) {scope : Scope} (s : Shared) (H : Hp) (C : Addr) (cl : List (Str × Addr)) (fp : List Addr) : Tied (X.blk s H scope (compEnvC scope cl C X.env) fp) k P G := ⟨t.cal, t.glb⟩
theorem blk_kind {N : List Str} {sc scope : Scope} {own : List (Str × Nat)} (h : blkC N sc scope own = true) : scope.kind = .function := (blkOk_by h).kind
theorem j_cb {X : Cx} {e : Expr} {ms : En → Hh → Option (List D × Hh)} {g : Fn} (h : PE X e (tCB (rG X.w X.K g) (JA X ms))) : PE X e (J X fun e h => bindM (ms e h) fun xs h1 => g xs h1) :=
  pe_imp h fun σ H Q ⟨R, h, e, d, h', hr, en, eq, q⟩ => JA.step hr en eq fun d1 h1 R1 H1 v e1 x1 hr1 en1 v1 => ⟨R1, h1, d1, d, h', hr1, v1, e1, q.ext x1⟩
theorem chain_den {o p : CmpOp} {a b d : Ex} : chainD o p (den a) (den b) (den d) = den (.chn o p a b d) := rfl
theorem dens_len : ∀ {es : List Ex} {e : En} {h h' : Hh} {ds : List D}, dens es e h = some (ds, h') → ds.length = es.length
  | [], e, h, h', ds, q => by simp only [dens] at q; cases q; rfl
  | a :: r, e, h, h', ds, q => by
    simp only [dens] at q
    obtain ⟨x, h1, e1, e2⟩ := bindM_ok q
    obtain ⟨xs, h2, e3, e4⟩ := bindM_ok e2
    cases e4
    rw [List.length_cons, List.length_cons, dens_len e3]
theorem chks_len {c : Cc} : ∀ {xs : List Ex} {es : List Expr}, chks c xs es = true → xs.length = es.length
  | [], [], _ => rfl
  | [], _ :: _, h => by simp only [chks] at h; cases h
  | _ :: _, [], h => by simp only [chks] at h; cases h
  | _ :: r, _ :: es, h => by simp only [chks, Bool.and_eq_true] at h; rw [List.length_cons, List.length_cons, chks_len h.2]
theorem chn_shape {c : Cc} {op op' : CmpOp} {a b d : Ex} {l : Expr} {ops : List CmpOp} {cs : List Expr} {p : Pos} (h : chk c (.chn op op' a b d) (.Compare l ops cs p) = true) : ∃ o1 o2 c1 c2, ops = [o1, o2] ∧ cs = [c1, c2] ∧ op = o1 ∧ op' = o2 ∧ chk c a l = true ∧ chk c b c1 = true ∧ chk c d c2 = true ∧ lastMarks [o1, o2] [c1, c2] = false := by
  cases ops with
  | nil => simp only [chk] at h; cases h
  | cons o1 r1 =>
    cases r1 with
    | nil => cases cs <;> simp only [chk] at h <;> cases h
    | cons o2 r1 =>
      cases r1 with
      | cons _ _ => cases cs <;> simp only [chk] at h <;> cases h
      | nil =>
        cases cs with
        | nil => simp only [chk] at h; cases h
        | cons c1 r2 =>
          cases r2 with
          | nil => simp only [chk] at h; cases h
          | cons c2 r2 =>
            cases r2 with
            | cons _ _ => simp only [chk] at h; cases h
            | nil =>
              simp only [chk, Bool.and_eq_true, decide_eq_true_eq, Bool.not_eq_true'] at h
              obtain ⟨⟨⟨⟨⟨h1, h2⟩, h3⟩, h4⟩, h5⟩, h6⟩ := h
              exact ⟨o1, o2, c1, c2, rfl, rfl, h1, h2, h3, h4, h5, h6⟩
theorem cm_shape {c : Cc} {op : CmpOp} {a b : Ex} {e : Expr} (h : chkT c (.cm op a b) e = true) : ∃ l o1 c1 p, e = .Compare l [o1] [c1] p ∧ op = o1 ∧ chk c a l = true ∧ chk c b c1 = true ∧ behindInMarks o1 c1 = false := by
  cases e <;> (first | (simp only [chkT] at h; cases h; done) | skip)
  rename_i l ops cs p
  cases ops with
  | nil => simp only [chkT] at h; cases h
  | cons o1 r1 =>
    cases r1 with
    | cons _ _ => cases cs <;> simp only [chkT] at h <;> cases h
    | nil =>
      cases cs with
      | nil => simp only [chkT] at h; cases h
      | cons c1 r2 =>
        cases r2 with
        | cons _ _ => simp only [chkT] at h; cases h
        | nil =>
          simp only [chkT, Bool.and_eq_true, decide_eq_true_eq, Bool.not_eq_true'] at h
          exact ⟨l, o1, c1, p, rfl, h.1.1.1, h.1.1.2, h.1.2, h.2⟩
theorem ch_shape {c : Cc} {op op' : CmpOp} {a b d : Ex} {e : Expr} (h : chkT c (.ch op op' a b d) e = true) : ∃ l o1 o2 c1 c2 p, e = .Compare l [o1, o2] [c1, c2] p ∧ op = o1 ∧ op' = o2 ∧ chk c a l = true ∧ chk c b c1 = true ∧ chk c d c2 = true ∧ lastMarks [o1, o2] [c1, c2] = false := by
  cases e <;> (first | (simp only [chkT] at h; cases h; done) | skip)
  rename_i l ops cs p
  cases ops with
  | nil => simp only [chkT] at h; cases h
  | cons o1 r1 =>
    cases r1 with
    | nil => cases cs <;> simp only [chkT] at h <;> cases h
    | cons o2 r1 =>
      cases r1 with
      | cons _ _ => cases cs <;> simp only [chkT] at h <;> cases h
      | nil =>
        cases cs with
        | nil => simp only [chkT] at h; cases h
        | cons c1 r2 =>
          cases r2 with
          | nil => simp only [chkT] at h; cases h
          | cons c2 r2 =>
            cases r2 with
            | cons _ _ => simp only [chkT] at h; cases h
            | nil =>
              simp only [chkT, Bool.and_eq_true, decide_eq_true_eq, Bool.not_eq_true'] at h
              obtain ⟨⟨⟨⟨⟨h1, h2⟩, h3⟩, h4⟩, h5⟩, h6⟩ := h
              exact ⟨l, o1, o2, c1, c2, p, rfl, h1, h2, h3, h4, h5, h6⟩
theorem isi_shape {c : Cc} {a : Ex} {ts : List Ty} {e : Expr} (h : chk c (.isi a ts) e = true) : ∃ (e1 e2 : Expr) (kw : List Keyword) (y : Str) (p q : Pos), e = .Call (.Name y p) [e1, e2] kw q ∧ kw = [] ∧ y = "isinstance" ∧ c.bg y = true ∧ chk c a e1 = true ∧ notStar e1 = true ∧
    ((∃ t x q', ts = [t] ∧ e2 = .Name x q' ∧ tyNames c.bg [t] [.Name x q'] = true) ∨ ∃ es kk q', e2 = .Tuple es kk q' ∧ ts.length ≤ 10 ∧ tyNames c.bg ts es = true) := by
  cases e <;> (try simp only [chk] at h) <;> (first | (cases h; done) | (cases ts with | nil => simp only [chk] at h; cases h | cons t ts => cases ts <;> simp only [chk] at h <;> cases h) | skip)
  rename_i f args kw q
  have nope : ∀ {b : Bool}, (false : Bool) = true → b = true := fun z => by cases z
  cases f <;> (try (cases ts with | nil => (simp only [chk] at h; cases h) | cons t ts => (cases ts <;> simp only [chk] at h <;> cases h)))
  rename_i y p
  cases args with
  | nil => cases ts with | nil => simp only [chk] at h; cases h | cons t ts => cases ts <;> simp only [chk] at h <;> cases h
  | cons e1 as =>
    cases as with
    | nil => cases ts with | nil => simp only [chk] at h; cases h | cons t ts => cases ts <;> simp only [chk] at h <;> cases h
    | cons e2 as =>
      cases as with
      | cons _ _ => cases ts with | nil => simp only [chk] at h; cases h | cons t ts => cases ts <;> simp only [chk] at h <;> cases h
      | nil =>
        cases kw with
        | cons _ _ => cases e2 <;> (cases ts with | nil => (simp only [chk] at h; cases h) | cons t ts => (cases ts <;> simp only [chk] at h <;> cases h))
        | nil =>
          refine ⟨e1, e2, [], y, p, q, rfl, rfl, ?_⟩
          cases e2
          case Name x q' =>
            cases ts with
            | nil => simp only [chk] at h; cases h
            | cons t ts =>
              cases ts with
              | cons _ _ => simp only [chk] at h; cases h
              | nil =>
                simp only [chk, Bool.and_eq_true, decide_eq_true_eq] at h
                exact ⟨h.1.1.1.1, h.1.1.1.2, h.1.1.2, h.1.2, .inl ⟨t, x, q', rfl, rfl, h.2⟩⟩
          case Tuple es kk q' =>
            cases ts with
            | nil =>
              simp only [chk, Bool.and_eq_true, decide_eq_true_eq] at h
              exact ⟨h.1.1.1.1.1, h.1.1.1.1.2, h.1.1.1.2, h.1.1.2, .inr ⟨es, kk, q', rfl, h.1.2, h.2⟩⟩
            | cons t ts =>
              cases ts <;>
              (simp only [chk, Bool.and_eq_true, decide_eq_true_eq] at h
               exact ⟨h.1.1.1.1.1, h.1.1.1.1.2, h.1.1.1.2, h.1.1.2, .inr ⟨es, kk, q', rfl, h.1.2, h.2⟩⟩)
          all_goals (cases ts with | nil => (simp only [chk] at h; cases h) | cons t ts => (cases ts <;> simp only [chk] at h <;> cases h))
theorem dic_shape {c : Cc} {ks vs : List Ex} {e : Expr} (h : chk c (.dic ks vs) e = true) : ∃ pos, ks = [] ∧ vs = [] ∧ e = .Dict [] [] pos := by
  cases e <;> (first | (cases ks <;> cases vs <;> simp only [chk] at h <;> cases h; done) | skip)
  rename_i es fs pos
  cases ks with
  | cons _ _ => simp only [chk] at h; cases h
  | nil =>
    cases vs with
    | cons _ _ => simp only [chk] at h; cases h
    | nil =>
      cases es with
      | cons _ _ => simp only [chk] at h; cases h
      | nil =>
        cases fs with
        | cons _ _ => simp only [chk] at h; cases h
        | nil => exact ⟨pos, rfl, rfl, rfl⟩
theorem enm_shape {c : Cc} {a : Ex} {t e : Expr} (h : chkI c (.enm a) t e = true) : ∃ elts kk tp p e1 q, t = .Tuple elts kk tp ∧ e = .Call (.Name "enumerate" p) [e1] [] q ∧ c.bg "enumerate" = true ∧ notStar e1 = true ∧ chk c a e1 = true := by
  cases t <;> cases e <;> (first | (simp only [chkI] at h; cases h; done) | skip)
  rename_i f args kw q
  cases f <;> (first | (simp only [chkI] at h; cases h; done) | skip)
  cases args with
  | nil => simp only [chkI] at h; cases h
  | cons e1 as =>
    cases as with
    | cons _ _ => simp only [chkI] at h; cases h
    | nil =>
      cases kw with
      | cons _ _ => simp only [chkI] at h; cases h
      | nil =>
        simp only [chkI, Bool.and_eq_true, decide_eq_true_eq] at h
        obtain ⟨⟨⟨rfl, h1⟩, h2⟩, h3⟩ := h
        exact ⟨_, _, _, _, e1, q, rfl, rfl, h1, h2, h3⟩
theorem zp_shape {c : Cc} {a b : Ex} {t e : Expr} (h : chkI c (.zp a b) t e = true) : ∃ elts kk tp p e1 e2 q, t = .Tuple elts kk tp ∧ e = .Call (.Name "zip" p) [e1, e2] [] q ∧ c.bg "zip" = true ∧ notStar e1 = true ∧ notStar e2 = true ∧ chk c a e1 = true ∧ chk c b e2 = true := by
  cases t <;> cases e <;> (first | (simp only [chkI] at h; cases h; done) | skip)
  rename_i f args kw q
  cases f <;> (first | (simp only [chkI] at h; cases h; done) | skip)
  cases args with
  | nil => simp only [chkI] at h; cases h
  | cons e1 as =>
    cases as with
    | nil => simp only [chkI] at h; cases h
    | cons e2 as =>
      cases as with
      | cons _ _ => simp only [chkI] at h; cases h
      | nil =>
        cases kw with
        | cons _ _ => simp only [chkI] at h; cases h
        | nil =>
          simp only [chkI, Bool.and_eq_true, decide_eq_true_eq] at h
          obtain ⟨⟨⟨⟨⟨rfl, h1⟩, h2⟩, h3⟩, h4⟩, h5⟩ := h
          exact ⟨_, _, _, _, e1, e2, q, rfl, rfl, h1, h2, h3, h4, h5⟩
theorem rng_shape {c : Cc} {es : List Ex} {t e : Expr} (h : chkI c (.rng es) t e = true) : ∃ p args q, e = .Call (.Name "range" p) args [] q ∧ c.bg "range" = true ∧ len12 args = true ∧ noStar args = true ∧ chks c es args = true := by
  cases e <;> (first | (simp only [chkI] at h; cases h; done) | skip)
  rename_i f args kw q
  cases f <;> (first | (simp only [chkI] at h; cases h; done) | skip)
  cases kw with
  | cons _ _ => simp only [chkI] at h; cases h
  | nil =>
    simp only [chkI, Bool.and_eq_true, decide_eq_true_eq] at h
    obtain ⟨⟨⟨⟨rfl, h1⟩, h2⟩, h3⟩, h4⟩ := h
    exact ⟨_, args, q, rfl, h1, h2, h3, h4⟩
theorem ji_rng {X : Cx} {tg : Expr} {es : List Ex} {args : List Expr} {p q : Pos} (g1 : Gl X "range") (g2 : X.mg "range" = none) (hs : PA X args (JA X (dens es))) (h2 : len12 args = true) (h3 : noStar args = true) (hl : es.length = args.length) :
    PI X tg (.Call (.Name "range" p) args [] q) (JI X fun e h => bindM (dens es e h) fun xs h1 => opt h1 (rangeD xs)) := by
  cases args with
  | nil => cases h2
  | cons a1 as =>
    have h3' : notStar a1 = true ∧ noStar as = true := by simpa only [noStar, List.all_cons, Bool.and_eq_true] using h3
    cases as with
    | nil =>
      refine pi_imp (ji_rng1 g1 g2 hs (star_ok h3'.1 _ _)) fun σ H Rf ⟨R, h, e, sv, h', hr, en, eq, q⟩ => ⟨R, h, e, sv, h', hr, en, ?_, q⟩
      obtain ⟨ds, h1, e1, e2⟩ := bindM_ok (show bindM (dens es e h) (fun xs h1 => opt h1 (rangeD xs)) = some (sv, h') from eq)
      show bindM (dens es e h) _ = _
      rw [e1, bindM_some, if_pos (by rw [dens_len e1, hl]; rfl)]
      exact e2
    | cons a2 as =>
      cases as with
      | cons _ _ => cases h2
      | nil =>
        have h3'' : notStar a2 = true := by simpa only [noStar, List.all_cons, List.all_nil, Bool.and_true] using h3'.2
        refine pi_imp (ji_rng2 g1 g2 hs (by rw [star_ok h3'.1, star_ok h3'']; rfl) (star_ok h3'' _ _)) fun σ H Rf ⟨R, h, e, sv, h', hr, en, eq, q⟩ => ⟨R, h, e, sv, h', hr, en, ?_, q⟩
        obtain ⟨ds, h1, e1, e2⟩ := bindM_ok (show bindM (dens es e h) (fun xs h1 => opt h1 (rangeD xs)) = some (sv, h') from eq)
        show bindM (dens es e h) _ = _
        rw [e1, bindM_some, if_pos (by rw [dens_len e1, hl]; rfl)]
        exact e2
variable {P : Str → Fn → Prop} {G : Str → D → Prop}
mutual
theorem chk_ok : ∀ (x : Ex) (e : Expr) {c : Cc} {X : Cx} {k : Nat}, CtxOk c X k → Tied X k P G → chk c x e = true → Cal P G x → PE X e (J X (den x))
  | .var i, e, c, X, k, o, T, h, C => by
    cases e <;> simp only [chk] at h <;> (first | (cases h; done) | skip)
    obtain ⟨h1, h2, h3, h4⟩ := vis_ok o h
    exact j_var h1 h2 h3 h4
  | .cst d, e, c, X, k, o, T, h, C => by
    cases e <;> simp only [chk] at h <;> (first | (cases h; done) | skip)
    exact cst_ok h
  | .gcst x d, e, c, X, k, o, T, h, C => by
    cases e <;> simp only [chk] at h <;> (first | (cases h; done) | skip)
    simp only [Bool.and_eq_true, decide_eq_true_eq] at h
    obtain ⟨h1, h2⟩ := h
    subst h1
    obtain ⟨g1, g2⟩ := gl_ok o h2
    simp only [Cal] at C
    obtain ⟨u, v, m1, m2, m3⟩ := T.glb _ _ C
    exact j_cst (pe_glob g1 m1 m2 g2) m3
  | .bin op a b, e, c, X, k, o, T, h, C => by
    cases e <;> simp only [chk] at h <;> (first | (cases h; done) | skip)
    simp only [Bool.and_eq_true, decide_eq_true_eq] at h
    obtain ⟨⟨rfl, h1⟩, h2⟩ := h
    simp only [Cal] at C
    exact j_bin (chk_ok a _ o T h1 C.1) (chk_ok b _ o T h2 C.2)
  | .neg a, e, c, X, k, o, T, h, C => by
    cases e <;> (first | (simp only [chk] at h; cases h; done) | skip)
    rename_i op x p
    cases op <;> simp only [chk] at h <;> (first | (cases h; done) | skip)
    simp only [Cal] at C
    exact j_neg (chk_ok a _ o T h C)
  | .nt a, e, c, X, k, o, T, h, C => by
    cases e <;> (first | (simp only [chk] at h; cases h; done) | skip)
    rename_i op x p
    cases op <;> simp only [chk] at h <;> (first | (cases h; done) | skip)
    simp only [Cal] at C
    exact j_not o.hu (chk_ok a _ o T h C)
  | .and2 a b, e, c, X, k, o, T, h, C => by
    cases e <;> (first | (simp only [chk] at h; cases h; done) | skip)
    rename_i op vs p
    cases op <;> (first | (simp only [chk] at h; cases h; done) | skip)
    cases vs with
    | nil => simp only [chk] at h; cases h
    | cons x r =>
      cases r with
      | nil => simp only [chk] at h; cases h
      | cons y r =>
        simp only [chk, Bool.and_eq_true] at h
        simp only [Cal] at C
        have hb := chk_ok b _ o T h.2 C.2
        refine j_and o.hu (chk_ok a _ o T h.1 C.1) ?_
        cases r with
        | nil => exact pe_one hb
        | cons z r => exact hb
  | .or2 a b, e, c, X, k, o, T, h, C => by
    cases e <;> (first | (simp only [chk] at h; cases h; done) | skip)
    rename_i op vs p
    cases op <;> (first | (simp only [chk] at h; cases h; done) | skip)
    cases vs with
    | nil => simp only [chk] at h; cases h
    | cons x r =>
      cases r with
      | nil => simp only [chk] at h; cases h
      | cons y r =>
        simp only [chk, Bool.and_eq_true] at h
        simp only [Cal] at C
        have hb := chk_ok b _ o T h.2 C.2
        refine j_or o.hu (chk_ok a _ o T h.1 C.1) ?_
        cases r with
        | nil => exact pe_one hb
        | cons z r => exact hb
  | .cmp op a b, e, c, X, k, o, T, h, C => by
    cases e <;> (first | (simp only [chk] at h; cases h; done) | skip)
    rename_i l ops cs p
    cases ops with
    | nil => simp only [chk] at h; cases h
    | cons o1 r1 =>
      cases r1 with
      | cons _ _ => cases cs <;> simp only [chk] at h <;> cases h
      | nil =>
        cases cs with
        | nil => simp only [chk] at h; cases h
        | cons c1 r2 =>
          cases r2 with
          | cons _ _ => simp only [chk] at h; cases h
          | nil =>
            simp only [chk, Bool.and_eq_true, decide_eq_true_eq, Bool.not_eq_true'] at h
            obtain ⟨⟨⟨rfl, h1⟩, h2⟩, h3⟩ := h
            simp only [Cal] at C
            exact j_cmp o.hu (chk_ok a _ o T h1 C.1) (chk_ok b _ o T h2 C.2) h3
  | .chn op op' a b d, e, c, X, k, o, T, h, C => by
    cases e <;> (first | (simp only [chk] at h; cases h; done) | skip)
    rename_i l ops cs p
    obtain ⟨o1, o2, c1, c2, rfl, rfl, hh⟩ := chn_shape h
    obtain ⟨rfl, rfl, h1, h2, h3, h4⟩ := hh
    simp only [Cal] at C
    exact j_chn o.hu (chk_ok a _ o T h1 C.1) (chk_ok b _ o T h2 C.2.1) (chk_ok d _ o T h3 C.2.2) h4
  | .ife t a b, e, c, X, k, o, T, h, C => by
    cases e <;> (first | (simp only [chk] at h; cases h; done) | skip)
    simp only [chk, Bool.and_eq_true] at h
    simp only [Cal] at C
    exact j_ife (chkT_ok t _ o T h.1.1 C.1).1 (chk_ok a _ o T h.1.2 C.2.1) (chk_ok b _ o T h.2 C.2.2)
  | .call x g es, e, c, X, k, o, T, h, C => by
    cases e <;> (first | (simp only [chk] at h; cases h; done) | skip)
    rename_i f args kw p
    cases f <;> (first | (simp only [chk] at h; cases h; done) | skip)
    cases kw with
    | cons _ _ => simp only [chk] at h; cases h
    | nil =>
      simp only [chk, Bool.and_eq_true, decide_eq_true_eq] at h
      obtain ⟨⟨⟨rfl, h1⟩, h2⟩, h3⟩ := h
      simp only [Cal] at C
      obtain ⟨g1, g2⟩ := gl_ok o h1
      have hs := chks_ok es args o T h3 h2 C.2
      cases args with
      | nil =>
        cases es with
        | nil => exact j_call0 (T.cal _ _ C.1) o.room o.gd g1 g2
        | cons _ _ => simp only [chks] at h3; cases h3
      | cons a as =>
        have h2' : notStar a = true ∧ noStar as = true := by simpa only [noStar, List.all_cons, Bool.and_eq_true] using h2
        exact j_call (T.cal _ _ C.1) o.room o.gd g1 hs g2 (star_ok h2'.1 _ _) (back_any h2'.2 _ _)
  | .blt b es, e, c, X, k, o, T, h, C => by
    cases e <;> (first | (simp only [chk] at h; cases h; done) | skip)
    rename_i f args kw p
    cases f <;> (first | (simp only [chk] at h; cases h; done) | skip)
    cases args with
    | nil => simp only [chk] at h; cases h
    | cons a as =>
      cases as with
      | cons _ _ => simp only [chk] at h; cases h
      | nil =>
        cases kw with
        | cons _ _ => simp only [chk] at h; cases h
        | nil =>
          simp only [chk, Bool.and_eq_true, decide_eq_true_eq] at h
          obtain ⟨⟨⟨⟨rfl, h1⟩, h2⟩, h3⟩, h4⟩ := h
          simp only [Cal] at C
          obtain ⟨g1, g2⟩ := bg_ok o h1
          have hs := chks_ok es [a] o T h4 (by simp only [noStar, List.all_cons, List.all_nil, h3, Bool.and_self]) C
          cases b <;> (first | (exact absurd h2 (by decide)) | skip)
          · exact j_cb (pe_callB cr_len g1 g2 boot_len hs (by decide) (by decide) (star_ok h3 _ _) rfl)
          · exact j_cb (pe_callTy cr_int g1 g2 boot_int hs (by decide) (by decide) (star_ok h3 _ _) rfl)
          · exact j_cb (pe_callTy (cr_list o.calm) g1 g2 boot_list hs (by decide) (by decide) (star_ok h3 _ _) rfl)
          · exact j_cb (pe_callTy cr_tuple g1 g2 boot_tuple hs (by decide) (by decide) (star_ok h3 _ _) rfl)
          · exact j_cb (pe_callB (cr_sorted o.calm) g1 g2 boot_sorted hs (by decide) (by decide) (star_ok h3 _ _) rfl)
          · exact j_cb (pe_callB (cr_repr o.gd o.hu) g1 g2 boot_repr hs (by decide) (by decide) (star_ok h3 _ _) rfl)
  | .mth m ob es, e, c, X, k, o, T, h, C => by
    cases e <;> (first | (simp only [chk] at h; cases h; done) | skip)
    rename_i f args kw p
    cases f <;> (first | (simp only [chk] at h; cases h; done) | skip)
    cases kw with
    | cons _ _ => simp only [chk] at h; cases h
    | nil =>
      simp only [chk, Bool.and_eq_true, decide_eq_true_eq] at h
      obtain ⟨⟨⟨⟨⟨⟨rfl, h1⟩, h2⟩, h3⟩, h4⟩, h5⟩, h6⟩ := h
      simp only [Cal] at C
      have ho := chk_ok ob _ o T h1 C.1
      have hs := chks_ok es args o T h6 h4 C.2
      cases args with
      | nil =>
        cases es with
        | nil => exact j_mth0 o.hu m ho h2 h3
        | cons _ _ => simp only [chks] at h6; cases h6
      | cons a as =>
        have h2' : notStar a = true ∧ noStar as = true := by simpa only [noStar, List.all_cons, Bool.and_eq_true] using h4
        exact j_mth o.hu m ho hs h2 (back_few h4 h5 _ _) h3 (star_ok h2'.1 _ _) (back_any h2'.2 _ _)
  | .idx a i, e, c, X, k, o, T, h, C => by
    cases e <;> (first | (simp only [chk] at h; cases h; done) | skip)
    simp only [chk, Bool.and_eq_true] at h
    simp only [Cal] at C
    exact j_idx o.hu (chk_ok a _ o T h.1.1 C.1) (chk_ok i _ o T h.1.2 C.2) (plain_ix h.2)
  | .slc a lo hi, e, c, X, k, o, T, h, C => by
    cases e <;> (first | (simp only [chk] at h; cases h; done) | skip)
    rename_i y i p
    cases i <;> (first | (simp only [chk] at h; cases h; done) | skip)
    rename_i l u st p2
    cases st with
    | some _ => simp only [chk] at h; cases h
    | none =>
      simp only [chk, Bool.and_eq_true] at h
      simp only [Cal] at C
      exact j_slc (chk_ok a _ o T h.1.1 C.1) (chko_ok lo l o T h.1.2 C.2.1) (chko_ok hi u o T h.2 C.2.2)
  | .lst es, e, c, X, k, o, T, h, C => by
    cases e <;> (first | (simp only [chk] at h; cases h; done) | skip)
    simp only [chk, Bool.and_eq_true] at h
    simp only [Cal] at C
    exact j_lst (chks_ok es _ o T h.2 h.1 C)
  | .tup es, e, c, X, k, o, T, h, C => by
    cases e <;> (first | (simp only [chk] at h; cases h; done) | skip)
    simp only [chk, Bool.and_eq_true] at h
    simp only [Cal] at C
    exact j_tup (chks_ok es _ o T h.2 h.1 C)
  | .lc own tg src cond elt, e, c, X, k, o, T, h, C => by
    cases e <;> (first | (simp only [chk] at h; cases h; done) | skip)
    rename_i el gs scope p
    cases gs with
    | nil => simp only [chk] at h; cases h
    | cons g1 r =>
      cases r with
      | cons _ _ => simp only [chk] at h; cases h
      | nil =>
        obtain ⟨t, it, ifs, as⟩ := g1
        simp only [chk, Bool.and_eq_true, decide_eq_true_eq] at h
        obtain ⟨⟨⟨⟨⟨⟨⟨rfl, h1⟩, h2⟩, h3⟩, h4⟩, h5⟩, h6⟩, h7⟩ := h
        simp only [Cal] at C
        have ok := blkOk_by h1
        exact j_lc o.calm o.nd (chkI_ok src t it o T h2 C.1) (by rw [o.N, o.sc]; exact ok) (fun s H C' cl fp => jg_ok (o.blk ok.kind s H C' cl fp) h3)
          (fun s H C' cl fp => chkC_ok cond ifs (o.blk ok.kind s H C' cl fp) (T.blk s H C' cl fp) h4 C.2.1) (fun s H C' cl fp => chk_ok elt el (o.blk ok.kind s H C' cl fp) (T.blk s H C' cl fp) h5 C.2.2) (fun x => set_ok' h6 _ x) (own_ok h7)
  | .lc2 own vs1 tg src cond tg1 src1 cond1 elt, e, c, X, k, o, T, h, C => by
    cases e <;> (first | (simp only [chk] at h; cases h; done) | skip)
    rename_i el gs scope p
    cases gs with
    | nil => simp only [chk] at h; cases h
    | cons g1 r =>
      cases r with
      | nil => simp only [chk] at h; cases h
      | cons g2 r =>
        cases r with
        | cons _ _ => simp only [chk] at h; cases h
        | nil =>
          obtain ⟨t, it, ifs, as⟩ := g1
          obtain ⟨t1, it1, ifs1, as1⟩ := g2
          simp only [chk, Bool.and_eq_true, decide_eq_true_eq] at h
          obtain ⟨⟨⟨⟨⟨⟨⟨⟨⟨⟨⟨⟨⟨⟨rfl, rfl⟩, h1⟩, h2⟩, h3⟩, h4⟩, h5⟩, h6⟩, h7⟩, h8⟩, h9⟩, h10⟩, h11⟩, h12⟩, h13⟩ := h
          simp only [Cal] at C
          have ok := blkOk_by h1
          exact j_lc2 o.calm o.nd (chkI_ok src t it o T h2 C.1) (by rw [o.N, o.sc]; exact ok) (own_ok h12) (fun s H C' cl fp => jg_ok (o.blk ok.kind s H C' cl fp) h3)
            (fun s H C' cl fp => chkC_ok cond ifs (o.blk ok.kind s H C' cl fp) (T.blk s H C' cl fp) h4 C.2.1) (fun s H C' cl fp => chkI_ok src1 t1 it1 (o.blk ok.kind s H C' cl fp) (T.blk s H C' cl fp) h5 C.2.2.1)
            (fun s H C' cl fp => jg_ok (o.blk ok.kind s H C' cl fp) h6) (fun s H C' cl fp => chkC_ok cond1 ifs1 (o.blk ok.kind s H C' cl fp) (T.blk s H C' cl fp) h7 C.2.2.2.1)
            (fun s H C' cl fp => chk_ok elt el (o.blk ok.kind s H C' cl fp) (T.blk s H C' cl fp) h8 C.2.2.2.2) (fun x => set_ok' h9 _ x) (fun env x => set_ok' h10 env x) (own_ok h11) (fun i hi => of_decide_eq_true (List.all_eq_true.mp h13 i hi))
  | .isi a ts, e, c, X, k, o, T, h, C => by
    simp only [Cal] at C
    obtain ⟨e1, e2, kw, y, p, q, rfl, rfl, hh⟩ := isi_shape h
    obtain ⟨rfl, h1, h2, h3, h4⟩ := hh
    obtain ⟨g1, g2⟩ := bg_ok o h1
    have ha := chk_ok a e1 o T h2 C
    rcases h4 with ⟨t, x, q', rfl, rfl, h4⟩ | ⟨es, kk, q', rfl, h4, h5⟩
    · exact j_isi1 (fun x hx => bg_ok o hx) g1 g2 ha h4 (star_ok h3 _ _)
    · exact j_isiN (fun x hx => bg_ok o hx) g1 g2 ha h5 h4 (star_ok h3 _ _)
  | .dic ks vs, e, c, X, k, o, T, h, C => by
    obtain ⟨pos, rfl, rfl, rfl⟩ := dic_shape h
    exact j_dic0
  | .dc _ _ _ _ _, e, c, X, k, o, T, h, C => by
    cases e <;> simp only [chk] at h <;> cases h
  | .sset _, e, c, X, k, o, T, h, C => by
    cases e <;> simp only [chk] at h <;> cases h
  | .lset _, e, c, X, k, o, T, h, C => by
    cases e <;> simp only [chk] at h <;> cases h
theorem chks_ok : ∀ (xs : List Ex) (es : List Expr) {c : Cc} {X : Cx} {k : Nat}, CtxOk c X k → Tied X k P G → chks c xs es = true → noStar es = true → Cals P G xs → PA X es (JA X (dens xs))
  | [], es, c, X, k, o, T, h, hs, C => by
    cases es with
    | nil => exact ja_nil
    | cons _ _ => simp only [chks] at h; cases h
  | a :: r, es, c, X, k, o, T, h, hs, C => by
    cases es with
    | nil => simp only [chks] at h; cases h
    | cons e es =>
      simp only [chks, Bool.and_eq_true] at h
      have hs' : notStar e = true ∧ noStar es = true := by simpa only [noStar, List.all_cons, Bool.and_eq_true] using hs
      simp only [Cals] at C
      exact ja_cons (chk_ok a e o T h.1 C.1) (chks_ok r es o T h.2 hs'.2 C.2) (star_ok hs'.1 _ _)
theorem chko_ok : ∀ (xs : List Ex) (e : Option Expr) {c : Cc} {X : Cx} {k : Nat}, CtxOk c X k → Tied X k P G → chko c xs e = true → Cals P G xs → PO X e (JO X (dens xs))
  | [], e, c, X, k, o, T, h, C => by
    cases e with
    | none => exact jo_none
    | some _ => simp only [chko] at h; cases h
  | [a], e, c, X, k, o, T, h, C => by
    cases e with
    | none => simp only [chko] at h; cases h
    | some e =>
      simp only [chko] at h
      simp only [Cals] at C
      exact jo_some (chk_ok a e o T h C.1)
  | a :: b :: r, e, c, X, k, o, T, h, C => by
    cases e <;> simp only [chko] at h <;> cases h
theorem chkT_ok : ∀ (t : Te) (e : Expr) {c : Cc} {X : Cx} {k : Nat}, CtxOk c X k → Tied X k P G → chkT c t e = true → CalT P G t → PT X e (JT X (denT t)) ∧ ∀ op vs p, e = .BoolOp op vs p → PW X e (JT X (denT t))
  | .nt t, e, c, X, k, o, T, h, C => by
    cases e <;> (first | (simp only [chkT] at h; cases h; done) | skip)
    rename_i op x p
    cases op <;> simp only [chkT] at h <;> (first | (cases h; done) | skip)
    simp only [CalT] at C
    exact ⟨jt_not (chkT_ok t _ o T h C).1, fun _ _ _ z => by cases z⟩
  | .and2 t u, e, c, X, k, o, T, h, C => by
    cases e <;> (first | (simp only [chkT] at h; cases h; done) | skip)
    rename_i op vs p
    cases op <;> (first | (simp only [chkT] at h; cases h; done) | skip)
    cases vs with
    | nil => simp only [chkT] at h; cases h
    | cons x r =>
      cases r with
      | nil => simp only [chkT] at h; cases h
      | cons y r =>
        simp only [chkT, Bool.and_eq_true] at h
        simp only [CalT] at C
        have hb := chkT_ok u _ o T h.2 C.2
        have hw : PW X (.BoolOp .And (y :: r) p) (JT X (denT u)) := by
          cases r with
          | nil => exact pw_and1 hb.1
          | cons z r => exact hb.2 _ _ _ rfl
        have hw2 := jw_and (chkT_ok t _ o T h.1 C.1).1 hw
        exact ⟨hw2.pt, fun _ _ _ _ => hw2⟩
  | .or2 t u, e, c, X, k, o, T, h, C => by
    cases e <;> (first | (simp only [chkT] at h; cases h; done) | skip)
    rename_i op vs p
    cases op <;> (first | (simp only [chkT] at h; cases h; done) | skip)
    cases vs with
    | nil => simp only [chkT] at h; cases h
    | cons x r =>
      cases r with
      | nil => simp only [chkT] at h; cases h
      | cons y r =>
        simp only [chkT, Bool.and_eq_true] at h
        simp only [CalT] at C
        have hb := chkT_ok u _ o T h.2 C.2
        have hw : PW X (.BoolOp .Or (y :: r) p) (JT X (denT u)) := by
          cases r with
          | nil => exact pw_or1 hb.1
          | cons z r => exact hb.2 _ _ _ rfl
        have hw2 := jw_or (chkT_ok t _ o T h.1 C.1).1 hw
        exact ⟨hw2.pt, fun _ _ _ _ => hw2⟩
  | .val x, e, c, X, k, o, T, h, C => by
    simp only [chkT, Bool.and_eq_true] at h
    simp only [CalT] at C
    exact ⟨jt_val o.hu (chk_ok x e o T h.2 C) (plain_t h.1 _), fun op vs p z => by rw [z] at h; cases h.1⟩
  | .cm op a b, e, c, X, k, o, T, h, C => by
    obtain ⟨l, o1, c1, p, rfl, rfl, h1, h2, h3⟩ := cm_shape h
    simp only [CalT] at C
    exact ⟨jt_cmp o.hu (chk_ok a l o T h1 C.1) (chk_ok b c1 o T h2 C.2) h3, fun op vs p z => by cases z⟩
  | .ch op op' a b d, e, c, X, k, o, T, h, C => by
    obtain ⟨l, o1, o2, c1, c2, p, rfl, rfl, rfl, h1, h2, h3, h4⟩ := ch_shape h
    simp only [CalT] at C
    exact ⟨jt_chn o.hu (chk_ok a l o T h1 C.1) (chk_ok b c1 o T h2 C.2.1) (chk_ok d c2 o T h3 C.2.2) h4, fun op vs p z => by cases z⟩
theorem chkC_ok : ∀ (ts : List Te) (es : List Expr) {c : Cc} {X : Cx} {k : Nat}, CtxOk c X k → Tied X k P G → chkC c ts es = true → CalC P G ts → PTs X es (JT X (denC ts))
  | [], es, c, X, k, o, T, h, C => by
    cases es with
    | nil => exact pts_imp pts_nil fun σ H Q ⟨R, h, e, d, h', hr, en, eq, q⟩ => by cases eq; exact q R H Ext.refl hr
    | cons _ _ => simp only [chkC] at h; cases h
  | [t], es, c, X, k, o, T, h, C => by
    cases es with
    | nil => simp only [chkC] at h; cases h
    | cons e r =>
      cases r with
      | cons _ _ => simp only [chkC] at h; cases h
      | nil =>
        simp only [chkC] at h
        simp only [CalC] at C
        exact pts_one (chkT_ok t e o T h C.1).1
  | _ :: _ :: _, es, c, X, k, o, T, h, C => by
    cases es with
    | nil => simp only [chkC] at h; cases h
    | cons e r => cases r <;> simp only [chkC] at h <;> cases h
theorem chkI_ok : ∀ (s : Sr) (t e : Expr) {c : Cc} {X : Cx} {k : Nat}, CtxOk c X k → Tied X k P G → chkI c s t e = true → CalI P G s → PI X t e (JI X (denI s))
  | .over a, t, e, c, X, k, o, T, h, C => by
    simp only [chkI] at h
    simp only [CalI] at C
    exact ji_over (chk_ok a e o T h C)
  | .itms _, t, e, c, X, k, o, T, h, C => by
    simp only [chkI] at h
    cases h
  | .enm a, t, e, c, X, k, o, T, h, C => by
    obtain ⟨elts, kk, tp, p, e1, q, rfl, rfl, h1, h2, h3⟩ := enm_shape h
    obtain ⟨g1, g2⟩ := bg_ok o h1
    simp only [CalI] at C
    exact ji_enm g1 g2 (chk_ok a e1 o T h3 C) (star_ok h2 _ _)
  | .zp a b, t, e, c, X, k, o, T, h, C => by
    obtain ⟨elts, kk, tp, p, e1, e2, q, rfl, rfl, h1, h2, h3, h4, h5⟩ := zp_shape h
    obtain ⟨g1, g2⟩ := bg_ok o h1
    simp only [CalI] at C
    exact ji_zp g1 g2 (chk_ok a e1 o T h4 C.1) (chk_ok b e2 o T h5 C.2) (star_ok h2 _ _) (star_ok h3 _ _) (back_any (by simp only [noStar, List.all_cons, List.all_nil, h3, Bool.and_self]) _ _)
  | .rng es, t, e, c, X, k, o, T, h, C => by
    obtain ⟨p, args, q, rfl, h1, h2, h3, h4⟩ := rng_shape h
    obtain ⟨g1, g2⟩ := bg_ok o h1
    simp only [CalI] at C
    exact ji_rng g1 g2 (chks_ok es args o T h4 h3 C) h2 h3 (chks_len h4)
end
end Z
set_option Elab.async false
set_option linter.all false
set_option autoImplicit false
set_option maxRecDepth 100000
set_option maxHeartbeats 4000000
namespace Z
open PySem L2 PyProof.Rows

/-! ### statements -/
def notTup : Expr → Bool
  | .Tuple .. => false
  | _ => true
/-- [..] goes straight to the name -/
def swapB (c : Cc) (e : Expr) (y : Str) (py : Pos) : Bool := match e with
  | .ListComp _ _ scope p => decide (c.sc.names.lookup y = some .local) && (py.line == p.line) && !(scope.names.any fun (n, k) => n == y && (k == .local || k == .cell))
  | _ => false
/-- a written tuple that goes through: some name is no plain local -/
def noSwap (c : Cc) (ts : List Expr) : Expr → Bool
  | .Tuple .. => (ts.any fun t => match t with | .Name x _ => decide (c.sc.names.lookup x ≠ some .local) | _ => false)
  | _ => true
def isLc : Expr → Bool
  | .ListComp .. => true
  | _ => false
def par2 (c : Cc) (i j : Nat) (x y : Str) (px py : Pos) (a b : Expr) : Bool :=
  decide (c.N[i]? = some x) && decide (c.N[j]? = some y) && decide (i ≠ j) && decide (c.sc.names.lookup x = some .local) && decide (c.sc.names.lookup y = some .local) && decide (py.line = px.line) && decide (x ≠ y) && noStar [a, b] && !([a, b].all (foldedForSure 8)) && !([a, b].all (constantsAlone 8))
/-- x, y = a, b -/
structure ParP where
  i : Nat
  j : Nat
  x : Str
  y : Str
  px : Pos
  py : Pos
  kt : Nat
  pt : Pos
  a : Expr
  b : Expr
  k2 : Nat
  pt2 : Pos
def parC (is : List Nat) (tgs : List Expr) (e : Expr) : Option ParP := match is, tgs, e with
  | [i, j], [.Tuple [.Name x px, .Name y py] kt pt], .Tuple [a, b] k2 pt2 => some ⟨i, j, x, y, px, py, kt, pt, a, b, k2, pt2⟩
  | _, _, _ => none
theorem parC_ok {is : List Nat} {tgs : List Expr} {e : Expr} {p : ParP} (h : parC is tgs e = some p) : is = [p.i, p.j] ∧ tgs = [.Tuple [.Name p.x p.px, .Name p.y p.py] p.kt p.pt] ∧ e = .Tuple [p.a, p.b] p.k2 p.pt2 := by
  unfold parC at h
  split at h
  · have h' := Option.some.inj h
    subst h'
    exact ⟨rfl, rfl, rfl⟩
  · cases h
mutual
def chkS (c : Cc) : Sm → Stmt → Bool
  | .asg (.nm i) x, .Assign [.Name y py] e _ => c.loc y i && chk c x e && (plainV e || isLc e)
  | .asg (.tp is) x, .Assign [.Tuple es _ _] e _ => chkNs c is es && chk c x e && noSwap c es e
  | .par is xs, .Assign tgs e _ => (match parC is tgs e with
    | some p => par2 c p.i p.j p.x p.y p.px p.py p.a p.b && chks c xs [p.a, p.b]
    | none => false)
  | .sub a i x, .Assign [.Subscript o ix _] e _ => chk c x e && chk c a o && chk c i ix && notSlc ix
  | .aug i o x, .AugAssign (.Name y _) o' e _ => c.loc y i && decide (o = o') && (o == .Add || o == .Sub) && chk c x e
  | .ret x, .Return (some e) _ => chk c x e
  | .retN, .Return none _ => true
  | .ex x, .Expr e _ => chk c x e && plainV e
  | .ifs t a b, .If e s1 s2 _ => chkT c t e && chkSs c a s1 && chkSs c b s2
  | .fr tg src b, .For t it body [] _ => chkI c src t it && chkG c tg t && chkSs c b body && notSet it
  | .whl t b, .While e body [] _ => chkT c t e && chkSs c b body
  | .brk, .Break _ => true
  | .cnt, .Continue _ => true
  | .pas, .Pass _ => true
  | _, _ => false
def chkSs (c : Cc) : List Sm → List Stmt → Bool
  | [], [] => true
  | s :: r, t :: ts => chkS c s t && chkSs c r ts
  | _, _ => false
end
section
variable (P : Str → Fn → Prop) (G : Str → D → Prop)
mutual
def CalS : Sm → Prop
  | .asg _ x => Cal P G x
  | .par _ xs => Cals P G xs
  | .sub a i x => Cal P G a ∧ Cal P G i ∧ Cal P G x
  | .aug _ _ x => Cal P G x
  | .ret x => Cal P G x
  | .retN => True
  | .ex x => Cal P G x
  | .ifs t a b => CalT P G t ∧ CalSs a ∧ CalSs b
  | .fr _ src b => CalI P G src ∧ CalSs b
  | .whl t b => CalT P G t ∧ CalSs b
  | .brk => True
  | .cnt => True
  | .pas => True
def CalSs : List Sm → Prop
  | [] => True
  | s :: r => CalS s ∧ CalSs r
end
end
theorem block_fn {env : Env} (hk : env.scope.kind = .function) : env.blockKind = .function := by unfold Env.blockKind; rw [hk]; rfl
theorem swap2 {env : Env} {x y : Str} {px py p p2 : Pos} {k k2 : Nat} {a b : Expr} (hk : env.scope.kind = .function) (hx : env.scope.names.lookup x = some .local) (hy : env.scope.names.lookup y = some .local) (hl : py.line = px.line) (hxy : x ≠ y) (hs : noStar [a, b] = true)
    (hf : [a, b].all (foldedForSure 8) = false) (hc : [a, b].all (constantsAlone 8) = false) : swappedStores [.Tuple [.Name x px, .Name y py] k p] (.Tuple [a, b] k2 p2) env = pure (some [x, y]) := by
  have kx : env.kindOf x = some .local := hx
  have ky : env.kindOf y = some .local := hy
  have hb := block_fn hk
  have hst : ([a, b].any fun | .Starred .. => true | _ => false) = false := by
    simp only [noStar, List.all_cons, List.all_nil, Bool.and_true, Bool.and_eq_true] at hs
    have h1 : ∀ {e : Expr}, notStar e = true → (match e with | .Starred .. => true | _ => false) = false := fun {e} h => by cases e <;> first | rfl | cases h
    simp only [List.any_cons, List.any_nil, Bool.or_false, h1 hs.1, h1 hs.2]
  have hne : (y == x) = false := by simpa using Ne.symm hxy
  unfold swappedStores
  simp only [hb, hst, hf, hc, kx, ky, hl, Expr.pos, List.head?_cons, Option.map_some, Option.getD_some, List.filterMap_cons, List.filterMap_nil, beq_self_eq_true, Bool.and_self, if_true, List.length_cons, List.length_nil]
  simp [List.eraseDups, List.eraseDupsBy, List.eraseDupsBy.loop, hne]
  intro h
  exfalso
  simp only [noStar, List.all_cons, List.all_nil, Bool.and_true, Bool.and_eq_true] at hs
  rcases h with h | h
  · have := hs.1
    clear hst hf hc hs
    cases a <;> first | (cases h; done) | (cases this; done)
  · have := hs.2
    clear hst hf hc hs
    cases b <;> first | (cases h; done) | (cases this; done)
theorem fm_lt {α β : Type} {f : α → Option β} : ∀ {l : List α} {a : α}, a ∈ l → f a = none → (l.filterMap f).length < l.length
  | x :: l, a, h, hn => by
    rcases List.mem_cons.mp h with rfl | h
    · rw [List.filterMap_cons, hn]
      exact Nat.lt_succ_of_le (List.length_filterMap_le f l)
    · have ih := fm_lt h hn
      rw [List.filterMap_cons]
      cases f x with
      | none => exact Nat.lt_succ_of_lt ih
      | some y => exact Nat.succ_lt_succ ih
theorem swap_no {env : Env} {c : Cc} {ts : List Expr} {e : Expr} {k : Nat} {p : Pos} (hsc : env.scope = c.sc) (h : noSwap c ts e = true) : swappedStores [.Tuple ts k p] e env = pure none := by
  cases e <;> first | rfl | skip
  rename_i vs k2 p2
  simp only [noSwap, List.any_eq_true] at h
  obtain ⟨t, ht, hx⟩ := h
  have hf : ∀ (f : Expr → Option Str), f t = none → ((ts.filterMap f).length != ts.length) = true := fun f hn => by
    have := fm_lt ht hn
    simpa using Nat.ne_of_lt this
  unfold swappedStores
  dsimp only
  split
  · rfl
  · split
    · rfl
    · split
      · rfl
      · rename_i hno
        exfalso
        refine hno ?_
        rw [Bool.or_eq_true]
        refine .inl (hf _ ?_)
        cases t <;> first | (cases hx; done) | skip
        rename_i x pos
        have hx' : c.sc.names.lookup x ≠ some .local := by simpa using hx
        have hk : (env.kindOf x == some NameKind.local) = false := by
          unfold Env.kindOf
          rw [hsc]
          simpa using hx'
        dsimp only
        rw [hk]
        rfl
theorem js_par2 {X : Cx} {i j : Nat} {x y : Str} {px py pt pt2 pos : Pos} {kt k2 : Nat} {a b : Expr} {ms : En → Hh → Option (List D × Hh)} (hc : X.calm = true) (hN : X.N.Nodup) (hi : X.N[i]? = some x) (hj : X.N[j]? = some y) (hij : i ≠ j) (hx : X.env.scope.names.lookup x = some .local) (hy : X.env.scope.names.lookup y = some .local)
    (ha : PA X [a, b] (JA X ms)) (hw : swappedStores [.Tuple [.Name x px, .Name y py] kt pt] (.Tuple [a, b] k2 pt2) X.env = pure (some [x, y])) :
    PS X (.Assign [.Tuple [.Name x px, .Name y py] kt pt] (.Tuple [a, b] k2 pt2) pos) (JS X fun e h => bindM (ms e h) fun ds h1 => opt h1 ((sets [i, j] ds e).map .nx)) :=
  ps_imp (ps_par hc hN hi hj hij hx hy ha hw rfl) fun D σ H ⟨R, h, e, f, h', hr, en, eq, q⟩ => JA.step hr en eq fun ds h1 R1 H1 vs e1 x1 hr1 en1 v1 => by
    obtain ⟨z, a0⟩ := opt_ok e1
    subst a0
    cases zs : sets [i, j] ds e with
    | none => rw [zs] at z; cases z
    | some e' =>
      rw [zs] at z
      have z' : f = .nx e' := (Option.some.inj z).symm
      subst z'
      have hl := sets_len zs
      match ds, hl, v1, zs with
      | [d1, d2], _, v1, zs =>
        obtain ⟨w1, t1, rfl, k1, w2, t2, rfl, k2, k3⟩ := v1
        rw [show t2 = [] from k3]
        refine ⟨w1, w2, rfl, ?_⟩
        have ze : e' = (e.set i (some d1)).set j (some d2) := by simp only [sets] at zs; exact (Option.some.inj zs).symm
        subst ze
        exact q R1 H1 x1 hr1 _ ((en1.set k1 i).set k2 j)
theorem js_lc2 {X : Cx} {mi mi1 : En → Hh → Option (Sv × Hh)} {mc mc1 : En → Hh → Option (Bool × Hh)} {me : Mx} {t t1 : Tg} {vs1 : List Nat} {elt tg iter tg1 iter1 : Expr} {ifs ifs1 : List Expr} {scope : Scope} {own : List (Str × Nat)} {pos spos py : Pos} {i : Nat} {y : Str} (hc : X.calm = true) (hN : X.N.Nodup) (hy : X.N[i]? = some y) (hyl : X.env.scope.names.lookup y = some .local)
    (hsw : swapsWith (.ListComp elt [⟨tg, iter, ifs, 0⟩, ⟨tg1, iter1, ifs1, 0⟩] scope pos) (some (.Name y py)) spos.line X.env = pure true) (hi : PI X tg iter (JI X mi)) (ok : BlkOk X.N X.env.scope scope own) (hv1 : ∀ i ∈ vs1, i ∈ own.map (·.2)) (hg : InBlk X scope fun Y => PG Y tg (JG X t)) (ht : InBlk X scope fun Y => PTs Y ifs (JT X mc)) (hi1 : InBlk X scope fun Y => PI Y tg1 iter1 (JI X mi1)) (hg1 : InBlk X scope fun Y => PG Y tg1 (JG X t1)) (ht1 : InBlk X scope fun Y => PTs Y ifs1 (JT X mc1))
    (he : InBlk X scope fun Y => PE Y elt (J X me)) (hs : ∀ x, foldedSetIterable iter X.env x = pure x) (hs1 : ∀ env x, foldedSetIterable iter1 env x = pure x) (hv : ∀ i ∈ t.ixs, i ∈ own.map (·.2)) (hv2 : ∀ i ∈ t1.ixs, i ∈ vs1) :
    PS X (.Assign [.Name y py] (.ListComp elt [⟨tg, iter, ifs, 0⟩, ⟨tg1, iter1, ifs1, 0⟩] scope pos) spos) (JS X fun e h => bindM (lc2M mi t mc mi1 t1 mc1 me (own.map (·.2)) vs1 e h) fun d h1 => opt h1 ((assignD (.nm i) d e).map .nx)) :=
  ps_imp (ps_setLc2 hc hN hy hyl hsw hi ok hv1 hg ht hi1 hg1 ht1 he hs hs1) fun D σ H ⟨R, h, e, f, h', hr, en, eq, q⟩ => lc2_imp hv hv2 (J.step hr en eq fun d1 h1 R1 H1 v e1 x1 hr1 en1 v1 => by
    obtain ⟨z, a0⟩ := opt_ok e1
    subst a0
    have z' : f = .nx (e.set i (some d1)) := (Option.some.inj z).symm
    subst z'
    exact q R1 H1 x1 hr1 _ (en1.set v1 i))
/-- name = value, where nothing is swapped -/
theorem js_asg' {X : Cx} {e : Expr} {me : Mx} {pos : Pos} {i : Nat} {x : Str} {pos' : Pos} (hN : X.N.Nodup) (hi : X.N[i]? = some x) (hx : L2.Loc X.env.scope x) (hf : X.fn x = true ∨ X.env.scope.names.lookup x = some .local) (he : PE X e (J X me)) (hp : swapsWith e (some (.Name x pos')) pos.line X.env = pure false) :
    PS X (.Assign [.Name x pos'] e pos) (JS X fun e h => bindM (me e h) fun d h1 => opt h1 ((assignD (.nm i) d e).map .nx)) :=
  ps_imp (ps_set hN hi hx he hp hf) fun D σ H ⟨R, h, e, f, h', hr, en, eq, q⟩ => J.step hr en eq fun d1 h1 R1 H1 v e1 x1 hr1 en1 v1 => by
    obtain ⟨z, a0⟩ := opt_ok e1
    subst a0
    have z' : f = .nx (e.set i (some d1)) := (Option.some.inj z).symm
    subst z'
    exact q R1 H1 x1 hr1 _ (en1.set v1 i)
theorem swap_is {env : Env} {c : Cc} {e : Expr} {y : Str} {py : Pos} {l : Nat} (hsc : env.scope = c.sc) (hk : c.sc.kind = .function) (hp : isLc e = true) : swapsWith e (some (.Name y py)) l env = pure (swapB c e y py) := by
  cases e <;> first | (cases hp; done) | skip
  rename_i el gs scope p
  have hb := block_fn (env := env) (by rw [hsc]; exact hk)
  have hk' : env.kindOf y = c.sc.names.lookup y := by unfold Env.kindOf; rw [hsc]
  unfold swapsWith swapB
  simp only [hb, hk', Expr.pos]
  congr 1
  cases (c.sc.names.lookup y) with
  | none => simp
  | some kd => cases kd <;> simp
end Z
set_option Elab.async false
set_option linter.all false
set_option autoImplicit false
set_option maxRecDepth 100000
set_option maxHeartbeats 4000000
namespace Z
open PySem L2 PyProof.Rows
variable {P : Str → Fn → Prop} {G : Str → D → Prop}
section
variable {c : Cc} {X : Cx} {k : Nat}
/-- a list comprehension to a name -/
theorem asg_lc (o : CtxOk c X k) (T : Tied X k P G) {i : Nat} {x : Ex} {y : Str} {py pos : Pos} {e : Expr} (hl : c.loc y i = true) (h : chk c x e = true) (hp : isLc e = true) (C : Cal P G x) :
    PS X (.Assign [.Name y py] e pos) (JS X fun e h => bindM (den x e h) fun d h1 => opt h1 ((assignD (.nm i) d e).map .nx)) := by
  obtain ⟨l1, l2, l3⟩ := loc_ok o hl
  cases sw : swapB c e y py with
  | false => exact js_asg' o.nd l1 l2 l3 (chk_ok x e o T h C) (by rw [swap_is o.sc o.kd hp, sw])
  | true =>
    have hsw : ∀ l, swapsWith e (some (.Name y py)) l X.env = pure true := fun l => by rw [swap_is o.sc o.kd hp, sw]
    cases e <;> first | (cases hp; done) | skip
    rename_i el gs scope p
    have hyl : X.env.scope.names.lookup y = some .local := by
      rw [o.sc]
      unfold swapB at sw
      simp only [Bool.and_eq_true, decide_eq_true_eq] at sw
      exact sw.1.1
    cases x <;> (first | (simp only [chk] at h; cases h; done) | skip)
    case lc own tg src cond elt =>
      cases gs with
      | nil => simp only [chk] at h; cases h
      | cons g1 r =>
        cases r with
        | cons _ _ => simp only [chk] at h; cases h
        | nil =>
          obtain ⟨t, it, ifs, as⟩ := g1
          simp only [chk, Bool.and_eq_true, decide_eq_true_eq] at h
          obtain ⟨⟨⟨⟨⟨⟨⟨rfl, h1⟩, h2⟩, h3⟩, h4⟩, h5⟩, h6⟩, h7⟩ := h
          simp only [Cal] at C
          have ok := blkOk_by h1
          exact js_lc o.calm o.nd l1 hyl (hsw _) (chkI_ok src t it o T h2 C.1) (by rw [o.N, o.sc]; exact ok) (fun s H C' cl fp => jg_ok (o.blk ok.kind s H C' cl fp) h3)
            (fun s H C' cl fp => chkC_ok cond ifs (o.blk ok.kind s H C' cl fp) (T.blk s H C' cl fp) h4 C.2.1) (fun s H C' cl fp => chk_ok elt el (o.blk ok.kind s H C' cl fp) (T.blk s H C' cl fp) h5 C.2.2) (fun x => set_ok' h6 _ x) (own_ok h7)
    case lc2 own vs1 tg src cond tg1 src1 cond1 elt =>
      cases gs with
      | nil => simp only [chk] at h; cases h
      | cons g1 r =>
        cases r with
        | nil => simp only [chk] at h; cases h
        | cons g2 r =>
          cases r with
          | cons _ _ => simp only [chk] at h; cases h
          | nil =>
            obtain ⟨t, it, ifs, as⟩ := g1
            obtain ⟨t1, it1, ifs1, as1⟩ := g2
            simp only [chk, Bool.and_eq_true, decide_eq_true_eq] at h
            obtain ⟨⟨⟨⟨⟨⟨⟨⟨⟨⟨⟨⟨⟨⟨rfl, rfl⟩, h1⟩, h2⟩, h3⟩, h4⟩, h5⟩, h6⟩, h7⟩, h8⟩, h9⟩, h10⟩, h11⟩, h12⟩, h13⟩ := h
            simp only [Cal] at C
            have ok := blkOk_by h1
            exact js_lc2 o.calm o.nd l1 hyl (hsw _) (chkI_ok src t it o T h2 C.1) (by rw [o.N, o.sc]; exact ok) (own_ok h12) (fun s H C' cl fp => jg_ok (o.blk ok.kind s H C' cl fp) h3)
              (fun s H C' cl fp => chkC_ok cond ifs (o.blk ok.kind s H C' cl fp) (T.blk s H C' cl fp) h4 C.2.1) (fun s H C' cl fp => chkI_ok src1 t1 it1 (o.blk ok.kind s H C' cl fp) (T.blk s H C' cl fp) h5 C.2.2.1)
              (fun s H C' cl fp => jg_ok (o.blk ok.kind s H C' cl fp) h6) (fun s H C' cl fp => chkC_ok cond1 ifs1 (o.blk ok.kind s H C' cl fp) (T.blk s H C' cl fp) h7 C.2.2.2.1)
              (fun s H C' cl fp => chk_ok elt el (o.blk ok.kind s H C' cl fp) (T.blk s H C' cl fp) h8 C.2.2.2.2) (fun x => set_ok' h9 _ x) (fun env x => set_ok' h10 env x) (own_ok h11) (fun i hi => of_decide_eq_true (List.all_eq_true.mp h13 i hi))
/-- one store -/
theorem asg_ok (o : CtxOk c X k) (T : Tied X k P G) {t : Tg} {x : Ex} {st : Stmt} (h : chkS c (.asg t x) st = true) (C : Cal P G x) : PS X st (JS X (denS (.asg t x))) := by
  cases st <;> (first | (cases t <;> simp only [chkS] at h <;> cases h; done) | skip)
  rename_i tgs e pos
  cases tgs with
  | nil => cases t <;> simp only [chkS] at h <;> cases h
  | cons tg r =>
    cases r with
    | cons _ _ => cases t <;> cases tg <;> simp only [chkS] at h <;> cases h
    | nil =>
      cases t with
      | nm i =>
        cases tg <;> (first | (simp only [chkS] at h; cases h; done) | skip)
        simp only [chkS, Bool.and_eq_true, Bool.or_eq_true] at h
        obtain ⟨⟨h1, h2⟩, h3⟩ := h
        rcases h3 with h3 | h3
        · obtain ⟨l1, l2, l3⟩ := loc_ok o h1
          exact js_asg o.nd l1 l2 l3 (chk_ok x e o T h2 C) h3
        · exact asg_lc o T h1 h2 h3 C
      | tp is =>
        cases tg <;> (first | (simp only [chkS] at h; cases h; done) | skip)
        simp only [chkS, Bool.and_eq_true] at h
        obtain ⟨⟨h1, h2⟩, h3⟩ := h
        obtain ⟨g1, g2, g3⟩ := jgs_ok o h1
        exact js_tup (chk_ok x e o T h2 C) (jg_tup o.calm g1 g2 g3) (swap_no o.sc h3)
theorem par_ok (o : CtxOk c X k) (T : Tied X k P G) {is : List Nat} {xs : List Ex} {st : Stmt} (h : chkS c (.par is xs) st = true) (C : Cals P G xs) : PS X st (JS X (denS (.par is xs))) := by
  cases st <;> (first | (simp only [chkS] at h; cases h; done) | skip)
  rename_i tgs e pos
  simp only [chkS] at h
  cases hp : parC is tgs e with
  | none => rw [hp] at h; cases h
  | some p =>
  rw [hp] at h
  simp only [Bool.and_eq_true] at h
  obtain ⟨h1, h2⟩ := h
  obtain ⟨e1, e2, e3⟩ := parC_ok hp
  subst e1; subst e2; subst e3
  unfold par2 at h1
  simp only [Bool.and_eq_true, decide_eq_true_eq, Bool.not_eq_true'] at h1
  obtain ⟨⟨⟨⟨⟨⟨⟨⟨⟨h3, h4⟩, h5⟩, h6⟩, h7⟩, h8⟩, h9⟩, h10⟩, h11⟩, h12⟩ := h1
  exact js_par2 o.calm o.nd (by rw [o.N]; exact h3) (by rw [o.N]; exact h4) h5 (by rw [o.sc]; exact h6) (by rw [o.sc]; exact h7) (chks_ok xs [p.a, p.b] o T h2 h10 C) (swap2 (by rw [o.sc]; exact o.kd) (by rw [o.sc]; exact h6) (by rw [o.sc]; exact h7) h8 h9 h10 h11 h12)
end
theorem aug_shape {c : Cc} {i : Nat} {o : Operator} {x : Ex} {st : Stmt} (h : chkS c (.aug i o x) st = true) : ∃ y p e pos, st = .AugAssign (.Name y p) o e pos ∧ c.loc y i = true ∧ (o == .Add || o == .Sub) = true ∧ chk c x e = true := by
  cases st <;> (first | (simp only [chkS] at h; cases h; done) | skip)
  rename_i tg op e pos
  cases tg <;> (first | (simp only [chkS] at h; cases h; done) | skip)
  simp only [chkS, Bool.and_eq_true, decide_eq_true_eq] at h
  obtain ⟨⟨⟨h1, rfl⟩, h2⟩, h3⟩ := h
  exact ⟨_, _, e, pos, rfl, h1, h2, h3⟩
theorem sub_shape {c : Cc} {a i x : Ex} {st : Stmt} (h : chkS c (.sub a i x) st = true) : ∃ ob ix p e pos, st = .Assign [.Subscript ob ix p] e pos ∧ chk c x e = true ∧ chk c a ob = true ∧ chk c i ix = true ∧ notSlc ix = true := by
  cases st <;> (first | (simp only [chkS] at h; cases h; done) | skip)
  rename_i tgs e pos
  rcases tgs with _ | ⟨tg, _ | ⟨_, _⟩⟩
  · simp only [chkS] at h; cases h
  · cases tg <;> (first | (simp only [chkS] at h; cases h; done) | skip)
    simp only [chkS, Bool.and_eq_true] at h
    exact ⟨_, _, _, e, pos, rfl, h.1.1.1, h.1.1.2, h.1.2, h.2⟩
  · cases tg <;> simp only [chkS] at h <;> cases h
mutual
theorem chkS_ok : ∀ (x : Sm) (st : Stmt) {c : Cc} {X : Cx} {k : Nat}, CtxOk c X k → Tied X k P G → chkS c x st = true → CalS P G x → PS X st (JS X (denS x))
  | .asg t x, st, c, X, k, o, T, h, C => asg_ok o T h (by simpa only [CalS] using C)
  | .par is xs, st, c, X, k, o, T, h, C => par_ok o T h (by simpa only [CalS] using C)
  | .sub a i x, st, c, X, k, o, T, h, C => by
    obtain ⟨ob, ix, p, e, pos, rfl, h1, h2, h3, h4⟩ := sub_shape h
    simp only [CalS] at C
    exact js_sub o.hu (chk_ok x e o T h1 C.2.2) (chk_ok a ob o T h2 C.1) (chk_ok i ix o T h3 C.2.1) h4
  | .aug i op x, st, c, X, k, o, T, h, C => by
    obtain ⟨y, p, e, pos, rfl, h1, h2, h3⟩ := aug_shape h
    simp only [CalS] at C
    obtain ⟨l1, l2, l3⟩ := loc_ok o h1
    exact js_aug h2 o.nd l1 l2 l3 (chk_ok x e o T h3 C)
  | .ret x, st, c, X, k, o, T, h, C => by
    cases st <;> (first | (simp only [chkS] at h; cases h; done) | skip)
    rename_i e pos
    cases e with
    | none => simp only [chkS] at h; cases h
    | some e =>
      simp only [chkS] at h
      simp only [CalS] at C
      exact js_ret (chk_ok x e o T h C)
  | .retN, st, c, X, k, o, T, h, C => by
    cases st <;> (first | (simp only [chkS] at h; cases h; done) | skip)
    rename_i e pos
    cases e with
    | none => exact js_retN
    | some e => simp only [chkS] at h; cases h
  | .ex x, st, c, X, k, o, T, h, C => by
    cases st <;> (first | (simp only [chkS] at h; cases h; done) | skip)
    simp only [chkS, Bool.and_eq_true] at h
    simp only [CalS] at C
    exact js_ex (chk_ok x _ o T h.1 C) h.2
  | .ifs t a b, st, c, X, k, o, T, h, C => by
    cases st <;> (first | (simp only [chkS] at h; cases h; done) | skip)
    simp only [chkS, Bool.and_eq_true] at h
    simp only [CalS] at C
    exact js_ifs (chkT_ok t _ o T h.1.1 C.1).1 (chkSs_ok a _ o T h.1.2 C.2.1) (chkSs_ok b _ o T h.2 C.2.2)
  | .fr tg src b, st, c, X, k, o, T, h, C => by
    cases st <;> (first | (simp only [chkS] at h; cases h; done) | skip)
    rename_i t it body els pos
    cases els with
    | cons _ _ => simp only [chkS] at h; cases h
    | nil =>
      simp only [chkS, Bool.and_eq_true] at h
      simp only [CalS] at C
      exact js_for o.xe o.calm (chkI_ok src t it o T h.1.1.1 C.1) (jg_ok o h.1.1.2) (chkSs_ok b body o T h.1.2 C.2) (fun x => set_ok' h.2 _ x)
  | .whl t b, st, c, X, k, o, T, h, C => by
    cases st <;> (first | (simp only [chkS] at h; cases h; done) | skip)
    rename_i e body els pos
    cases els with
    | cons _ _ => simp only [chkS] at h; cases h
    | nil =>
      simp only [chkS, Bool.and_eq_true] at h
      simp only [CalS] at C
      exact js_whl o.xe (chkT_ok t e o T h.1 C.1).1 (chkSs_ok b body o T h.2 C.2)
  | .brk, st, c, X, k, o, T, h, C => by
    cases st <;> (first | (simp only [chkS] at h; cases h; done) | skip)
    exact js_brk
  | .cnt, st, c, X, k, o, T, h, C => by
    cases st <;> (first | (simp only [chkS] at h; cases h; done) | skip)
    exact js_cnt
  | .pas, st, c, X, k, o, T, h, C => by
    cases st <;> (first | (simp only [chkS] at h; cases h; done) | skip)
    exact js_pas
theorem chkSs_ok : ∀ (xs : List Sm) (sts : List Stmt) {c : Cc} {X : Cx} {k : Nat}, CtxOk c X k → Tied X k P G → chkSs c xs sts = true → CalSs P G xs → PSs X sts (JS X (denSs xs))
  | [], sts, c, X, k, o, T, h, C => by
    cases sts with
    | nil => exact jss_nil
    | cons _ _ => simp only [chkSs] at h; cases h
  | x :: r, sts, c, X, k, o, T, h, C => by
    cases sts with
    | nil => simp only [chkSs] at h; cases h
    | cons st sts =>
      simp only [chkSs, Bool.and_eq_true] at h
      simp only [CalSs] at C
      exact jss_cons (chkS_ok x st o T h.1 C.1) (chkSs_ok r sts o T h.2 C.2)
end
/-- THE RULE for a def: its text is checked, its names stand for what the mini text says -/
theorem def_ok {Pr : Program} {w : World} {K : PySem.W.Frag} {mg : Str → Option Value} {base : Heap} {x qual : Str} {st : Stmt} {f : Addr} {fd : FuncData} {N ps bn : List Str} {k n np : Nat} {body : List Sm} (F : Fun K x qual st f fd) (S : FnScope N ps (defScope st)) (hn : n = N.length) (hp : np = ps.length) (hb : ∀ y ∈ bn, mg y = none)
    (hc : ∀ x g, P x g → CalOk Pr w K mg base k x g) (hg : ∀ x d, G x d → ∃ u v, mg x = some u ∧ RelV v u ∧ ∀ H R, VR K H R d v) (h : chkSs { N := N, sc := defScope st, bn := bn } body (defBody st) = true) (C : CalSs P G body) : FnG Pr w K mg base (k + 1) f fd ps (runDef n np body) :=
  fn_ok F S hn hp hb fun X e1 e2 e3 e4 e5 o => by
    subst e1; subst e2; subst e3; subst e4; subst e5
    exact chkSs_ok body _ o ⟨hc, hg⟩ h C
end Z
set_option Elab.async false
set_option linter.all false
set_option autoImplicit false
set_option maxRecDepth 100000
set_option maxHeartbeats 4000000
namespace Z
open PySem L2 PyProof.Rows PySem.W

/-! ### the law's own call -/
/-- what the law is told: the script, a list that stays -/
abbrev scriptD (ns : List Int) : D := .rol (ns.map .int)
theorem ints_rs {K : PySem.W.Frag} {H : Hp} {R : List Addr} : ∀ ns : List Int, VRs K H R (ns.map .int) (ns.map V.int)
  | [] => rfl
  | n :: ns => .cons rfl (ints_rs ns)
section
variable {P : Program} {w : World} {K : PySem.W.Frag} {mg mb : Str → Option Value} {k : Nat} {fa a : Addr} {fd : FuncData} {x : Str} {g : Fn} {s₁ : Shared} {vs : List Value} {ns : List Int}
/-- from an abstract heap in which at most the script stands -/
theorem head_from {H : Hp} (KX : K.In s₁.heap) (hns : s₁.heap.Ns mainGlobals mg) (hb : s₁.heap.Ns builtinsNs mb) (hbb : ∀ x : Str, x ≠ "__name__" → mb x = bootBuiltins x) (hlim : s₁.heap.NoLimit) (hg : s₁.gens = #[]) (hr : Room k callerA)
    (F : ∀ base : Heap, K.In base → base.Ns mainGlobals mg → FnG P w K mg base k fa fd [x] g) (hbind : ∀ (s : Shared) (u : Value), BindsTo s fd ⟨[u], []⟩ [(x, u)]) (hp : ∃ h', g [scriptD ns] [] = some (.bl true, h'))
    (hok : HOk P w H s₁.heap) (only : ∀ b u, H b = some u → K.lookup b = none ∧ (∃ ob xs, u = .frz ob (.lst xs)) ∧ ∀ o, s₁.heap.get? b = some o → ∀ es ep, o.data ≠ .dict es ep) (hS : SqF K H a (ns.map V.int)) :
    codeAny (model P w) callerA (.call (.ref fa) ⟨[.ref a], []⟩) (fun r s' => r = .ok (.ret (.bool true)) ∧ OldK s₁.heap s'.heap ∧ s'.os = s₁.os ∧ AllBare s'.gens) s₁ := by
  have ns_of : ∀ {b : Addr} {m : Str → Option Value}, s₁.heap.Ns b m → (hidT s₁.heap H).Ns b m := by
    intro b m hm
    obtain ⟨o, es, ep, e, d, r⟩ := hm
    refine ⟨o, es, ep, hidT_get e ?_, d, r⟩
    cases q : H b with
    | none => rfl
    | some u => exact absurd d ((only b u q).2.2 o e es ep)
  have k_in : K.In (hidT s₁.heap H) := fun b o e => hidT_get (KX b o e) (by
    cases q : H b with
    | none => rfl
    | some u => rw [(only b u q).1] at e; cases e)
  obtain ⟨mc, l1, l2⟩ := hlim
  have env : Env0 P w K mg (hidT s₁.heap H) callerA [] s₁ H := {
    frames := rfl
    mod := ⟨k_in, ns_of hns, ⟨mb, ns_of hb, hbb⟩, mc, ns_of l1, l2⟩
    bs := fun b o e => of_hidT e
    bsz := Nat.le_of_eq (hidT_size _ _)
    funs := trivial
    frf := fun b hm => nomatch (show b ∈ ([] : List Addr) from hm)
    hok := hok
    bare := .of_eq hg }
  obtain ⟨h', he⟩ := hp
  refine codeAny_mono ((F _ k_in (ns_of hns)).run callerA [] s₁ H ⟨[.ref a], []⟩ [.ref a] [.ref a] (fun v _ => v = .bl true) [] [] [scriptD ns] (.bl true) h' hr rfl env (hbind s₁ (.ref a)) (.cons rfl .nil)
    ⟨rfl, List.nodup_nil, fun n o b e _ => by simp at e⟩ (.one ⟨a, _, rfl, hS, ints_rs ns⟩) he fun R' H' v _ _ hv => hv) fun r s' hq => ?_
  cases r with
  | error e => exact False.elim hq
  | ok fl =>
    cases fl with
    | next => exact False.elim hq
    | brk => exact False.elim hq
    | cont => exact False.elim hq
    | ret u =>
      obtain ⟨v, H', h1, h2, h3, h4, h5, h6⟩ := hq
      replace h6 : v = .bl true := h6
      subst h6
      cases (show u = Value.bool true from h5)
      refine ⟨rfl, OldK.of_keep fun b o e => ?_, h1, h2⟩
      cases q : H b with
      | none => exact h3.keep b o e q (fun z => nomatch (show b ∈ ([] : List Addr) from z)) (by simp)
      | some u =>
        obtain ⟨_, ⟨ob, xs, rfl⟩, _⟩ := only b u q
        obtain ⟨g1, _⟩ := hok b _ q
        obtain ⟨g2, _⟩ := h4 b _ (h3.frzs b ob _ q)
        rw [e] at g1
        cases g1
        exact g2
theorem head_call (KX : K.In s₁.heap) (hns : s₁.heap.Ns mainGlobals mg) (hb : s₁.heap.Ns builtinsNs mb) (hbb : ∀ x : Str, x ≠ "__name__" → mb x = bootBuiltins x) (hlim : s₁.heap.NoLimit) (hg : s₁.gens = #[])
    (ha : s₁.heap.get? a = some { cls := .type "list", data := .seq vs.toArray }) (hi : IntsAre vs ns) (hl : ns.length ≤ sizeLine) (hr : Room k callerA)
    (F : ∀ base : Heap, K.In base → base.Ns mainGlobals mg → FnG P w K mg base k fa fd [x] g) (hbind : ∀ (s : Shared) (u : Value), BindsTo s fd ⟨[u], []⟩ [(x, u)]) (hp : ∃ h', g [scriptD ns] [] = some (.bl true, h')) :
    codeAny (model P w) callerA (.call (.ref fa) ⟨[.ref a], []⟩) (fun r s' => r = .ok (.ret (.bool true)) ∧ OldK s₁.heap s'.heap ∧ s'.os = s₁.os ∧ AllBare s'.gens) s₁ := by
  have rv := vals_ints hi
  have lenV := hi.length
  cases hk : K.lookup a with
  | some o =>
    have e := KX a o hk
    rw [ha] at e
    cases e
    refine head_from (H := fun _ => none) KX hns hb hbb hlim hg hr F hbind hp (fun b u z => ?_) (fun b u z => ?_) (.inr ⟨_, vs.toArray, _, hk, rfl, rfl, rfl, by rw [List.size_toArray, lenV]; exact hl, by simpa using rv⟩)
    · cases z
    · cases z
  | none =>
    refine head_from (H := fun b => if b = a then some (.frz { cls := .type "list", data := .seq vs.toArray } (.lst (ns.map V.int))) else none) KX hns hb hbb hlim hg hr F hbind hp (fun b u z => ?_) (fun b u z => ?_) (.inl ⟨_, if_pos rfl⟩)
    · dsimp only at z
      split at z
      · rename_i hba
        subst hba
        cases z
        exact ⟨ha, by rw [List.length_map]; exact hl, vs, _, rv, ha⟩
      · cases z
    · split at z
      · rename_i hba
        subst hba
        cases z
        refine ⟨hk, ⟨_, _, rfl⟩, fun o e es ep d => ?_⟩
        rw [ha] at e
        cases e
        cases d
      · cases z
end
/-- THE END of a law: its def's promise, and that the mini text says True of every script -/
theorem law_ok {l : PySem.W.OpenLaw} {n k : Nat} {q : Program} {loose : List Str} {XP : (Str → Option Value) → Heap → Prop} {YP : World → Heap → Prop} {d : DefRec} {K : Params → PySem.W.Frag} {x : Str} {g : Fn}
    (hn : l.most = some n) (hn2 : n ≤ sizeLine) (hdf : d.params.defaults = []) (hr : Room k callerA) (hY : ∀ (w : World) (h : Heap), YP w h → (K w.params).In h)
    (F : ∀ (w : World) (mg : Str → Option Value) (fa : Addr) (h : Heap), (K w.params).In h → h.Ns mainGlobals mg → mg d.name = some (.ref fa) →
      ∃ fd : FuncData, (∀ (s : Shared) (u : Value), BindsTo s fd ⟨[u], []⟩ [(x, u)]) ∧ ∀ base : Heap, (K w.params).In base → base.Ns mainGlobals mg → FnG l.prog w (K w.params) mg base k fa fd [x] g)
    (hp : ∀ ns : List Int, ns.length ≤ n → ∃ h', g [scriptD ns] [] = some (.bl true, h')) : PySem.W.WalkO q loose XP YP l.row.toRowW d [] (fun f vs => PySem.call f vs) := by
  refine Att.attach_call hn hdf fun w s₀ s₁ mg mb fa o pm cd doc a vs ns G Y ho hd hcd hmg hobj hints hlen hg => ?_
  obtain ⟨fd, hb, hF⟩ := F w mg fa _ (hY w _ Y) G.T.g hmg
  exact head_call (hY w _ Y) G.T.g G.T.b G.T.builtins G.T.nolimit hg hobj hints (Nat.le_trans hlen hn2) hr hF hb (hp ns hlen)
end Z
set_option Elab.async false
set_option linter.all false
set_option autoImplicit false
set_option maxRecDepth 100000
set_option maxHeartbeats 4000000
namespace Z
open PySem L2
def Cl (h : Hh) : Prop := hcl h.length h = true
theorem hcl_mono {n m : Nat} (x : n ≤ m) : ∀ {h : List O}, hcl n h = true → hcl m h = true := by
  have d : ∀ (y : D), D.cl n y = true → D.cl m y = true := fun y => D.rec (motive_1 := fun y => D.cl n y = true → D.cl m y = true) (motive_2 := fun ys => D.cls n ys = true → D.cls m ys = true)
    (fun h => rfl) (fun _ h => rfl) (fun _ h => rfl) (fun _ h => rfl) (fun xs ih h => by simp only [D.cl] at h ⊢; exact ih h) (fun xs ih h => by simp only [D.cl] at h ⊢; exact ih h) (fun k h => by simp only [D.cl, decide_eq_true_eq] at h ⊢; omega) (fun h => rfl)
    (fun x xs i1 i2 h => by simp only [D.cls, Bool.and_eq_true] at h ⊢; exact ⟨i1 h.1, i2 h.2⟩) y
  have ds : ∀ (ys : List D), D.cls n ys = true → D.cls m ys = true := fun ys => List.rec (fun _ => rfl) (fun x xs i h => by simp only [D.cls, Bool.and_eq_true] at h ⊢; exact ⟨d x h.1, i h.2⟩) ys
  have kv : ∀ (ys : List (D × D)), kvcl n ys = true → kvcl m ys = true := fun ys => List.rec (fun _ => rfl) (fun x xs i h => by simp only [kvcl, Bool.and_eq_true] at h ⊢; exact ⟨⟨d _ h.1.1, d _ h.1.2⟩, i h.2⟩) ys
  intro h
  induction h with
  | nil => intro _; rfl
  | cons o r ih =>
    intro e
    simp only [hcl, Bool.and_eq_true] at e ⊢
    refine ⟨?_, ih e.2⟩
    cases o with
    | lst xs => exact ds xs e.1
    | dct _ kvs => exact kv kvs e.1
/-- what a call leaves that only made things of its own -/
theorem gc_new {h : Hh} {T : List O} {vs : List D} (hc : Cl h) (hv : D.cls h.length vs = true) : gc h.length vs (h ++ T) = h := by
  unfold gc
  simp only [List.take_left', List.take_left, hv, Bool.true_and]
  exact if_pos hc
theorem gc_self {h : Hh} {vs : List D} (hc : Cl h) (hv : D.cls h.length vs = true) : gc h.length vs h = h := by
  have := gc_new (T := []) hc hv
  rwa [List.append_nil] at this
theorem get_end {h : Hh} {o : O} : (h ++ [o])[h.length]? = some o := by simp
theorem get_old {h T : Hh} {o : O} {n : Nat} (e : h[n]? = some o) : (h ++ T)[n]? = some o := by
  have : n < h.length := by
    rcases Nat.lt_or_ge n h.length with x | x
    · exact x
    · rw [List.getElem?_eq_none x] at e; cases e
  rw [List.getElem?_append_left this]; exact e
/-- a number's remainder to a positive one -/
theorem mod_ok (i j : Int) (hj : 0 < j) : 0 ≤ i % j ∧ i % j < j := ⟨Int.emod_nonneg _ (by omega), Int.emod_lt_of_pos _ hj⟩
/-! ### what a run leaves: a run ends well, and then .. -/
def WP {α : Type} (m : Option (α × Hh)) (Q : α → Hh → Prop) : Prop := ∃ a h, m = some (a, h) ∧ Q a h
theorem WP.bind {α β : Type} {m : Option (α × Hh)} {k : α → Hh → Option (β × Hh)} {Q : β → Hh → Prop} (x : WP m fun a h => WP (k a h) Q) : WP (bindM m k) Q := by
  obtain ⟨a, h, e, b, h', e', q⟩ := x
  exact ⟨b, h', by rw [e]; exact e', q⟩
theorem WP.some {α : Type} {a : α} {h : Hh} {Q : α → Hh → Prop} (q : Q a h) : WP (some (a, h)) Q := ⟨a, h, rfl, q⟩
theorem WP.mono {α : Type} {m : Option (α × Hh)} {Q Q' : α → Hh → Prop} (x : WP m Q) (y : ∀ a h, Q a h → Q' a h) : WP m Q' := by
  obtain ⟨a, h, e, q⟩ := x
  exact ⟨a, h, e, y a h q⟩
@[simp] theorem WP_some {α : Type} {a : α} {h : Hh} {Q : α → Hh → Prop} : WP (Option.some (a, h)) Q ↔ Q a h := ⟨fun ⟨_, _, e, q⟩ => by cases e; exact q, WP.some⟩
@[simp] theorem WP_none {α : Type} {Q : α → Hh → Prop} : WP (none : Option (α × Hh)) Q ↔ False := ⟨fun ⟨_, _, e, _⟩ => (by cases e), False.elim⟩
@[simp] theorem WP_bind {α β : Type} {m : Option (α × Hh)} {k : α → Hh → Option (β × Hh)} {Q : β → Hh → Prop} : WP (bindM m k) Q ↔ WP m fun a h => WP (k a h) Q := ⟨fun ⟨b, h', e, q⟩ => (by
  obtain ⟨a, h, e1, e2⟩ := bindM_ok e
  exact ⟨a, h, e1, b, h', e2, q⟩), WP.bind⟩
@[simp] theorem WP_ite {α : Type} {c : Prop} [Decidable c] {x y : Option (α × Hh)} {Q : α → Hh → Prop} : WP (if c then x else y) Q ↔ (c → WP x Q) ∧ (¬c → WP y Q) := by
  by_cases h : c <;> simp [h]
@[simp] theorem WP_opt {α : Type} {h : Hh} {a : Option α} {Q : α → Hh → Prop} : WP (opt h a) Q ↔ ∃ b, a = some b ∧ Q b h := by
  cases a <;> simp [opt]
/-- after a statement: on it goes, or it is over -/
def aft (k : En → Hh → Prop) (Q : Fl → Hh → Prop) : Fl → Hh → Prop
  | .nx e, h => k e h
  | .ret d, h => Q (.ret d) h
  | .brk e, h => Q (.brk e) h
  | .cnt e, h => Q (.cnt e) h
theorem aft_nx {k : En → Hh → Prop} {Q : Fl → Hh → Prop} {e : En} {h : Hh} : aft k Q (.nx e) h ↔ k e h := Iff.rfl
theorem aft_ret {k : En → Hh → Prop} {Q : Fl → Hh → Prop} {d : D} {h : Hh} : aft k Q (.ret d) h ↔ Q (.ret d) h := Iff.rfl
theorem aft_brk {k : En → Hh → Prop} {Q : Fl → Hh → Prop} {d : En} {h : Hh} : aft k Q (.brk d) h ↔ Q (.brk d) h := Iff.rfl
theorem aft_cnt {k : En → Hh → Prop} {Q : Fl → Hh → Prop} {d : En} {h : Hh} : aft k Q (.cnt d) h ↔ Q (.cnt d) h := Iff.rfl
theorem WP_seq {s : Sm} {r : List Sm} {e : En} {h : Hh} {Q : Fl → Hh → Prop} : WP (denSs (s :: r) e h) Q ↔ WP (denS s e h) (aft (fun e1 h1 => WP (denSs r e1 h1) Q) Q) := by
  simp only [denSs, seqI, WP_bind]
  constructor <;> rintro ⟨f, h1, e1, q⟩ <;> refine ⟨f, h1, e1, ?_⟩ <;> cases f <;> simpa [aft] using q
theorem W_asg {i : Nat} {x : Ex} {r : List Sm} {e : En} {h : Hh} {Q : Fl → Hh → Prop} : WP (denSs (.asg (.nm i) x :: r) e h) Q ↔ WP (den x e h) fun d h1 => WP (denSs r (e.set i (some d)) h1) Q := by
  simp only [WP_seq, denS, WP_bind, WP_opt, assignD, Option.map_some, Option.some.injEq, exists_eq_left', aft_nx]
theorem W_ret {x : Ex} {r : List Sm} {e : En} {h : Hh} {Q : Fl → Hh → Prop} : WP (denSs (.ret x :: r) e h) Q ↔ WP (den x e h) fun d h1 => Q (.ret d) h1 := by
  simp only [WP_seq, denS, WP_bind, WP_some, aft_ret]
theorem W_ifs {t : Te} {a b r : List Sm} {e : En} {h : Hh} {Q : Fl → Hh → Prop} : WP (denSs (.ifs t a b :: r) e h) Q ↔ WP (denT t e h) fun c h1 => (c = true → WP (denSs a e h1) (aft (fun e1 h2 => WP (denSs r e1 h2) Q) Q)) ∧ (c = false → WP (denSs b e h1) (aft (fun e1 h2 => WP (denSs r e1 h2) Q) Q)) := by
  simp only [WP_seq, denS, WP_bind, WP_ite, Bool.not_eq_true]
theorem W_nil {e : En} {h : Hh} {Q : Fl → Hh → Prop} : WP (denSs [] e h) Q ↔ Q (.nx e) h := WP_some
theorem W_expr {x : Ex} {r : List Sm} {e : En} {h : Hh} {Q : Fl → Hh → Prop} : WP (denSs (.ex x :: r) e h) Q ↔ WP (den x e h) fun _ h1 => WP (denSs r e h1) Q := by
  simp only [WP_seq, denS, WP_bind, WP_some, aft_nx]
theorem W_sub' {a i x : Ex} {r : List Sm} {e : En} {h : Hh} {Q : Fl → Hh → Prop} : WP (denSs (.sub a i x :: r) e h) Q ↔ WP (den x e h) fun d h1 => WP (den a e h1) fun y h2 => WP (den i e h2) fun k h3 => ∃ h4, setD y k d h3 = some h4 ∧ WP (denSs r e h4) Q := by
  have z : ∀ (m : Option Hh), WP (m.map fun h4 => (Fl.nx e, h4)) (aft (fun e1 h1 => WP (denSs r e1 h1) Q) Q) ↔ ∃ h4, m = some h4 ∧ WP (denSs r e h4) Q := fun m => by cases m <;> simp [aft]
  simp only [WP_seq, denS, WP_bind, z]
theorem W_add {i j : Int} {h : Hh} {Q : D → Hh → Prop} : WP (binD .Add (.int i) (.int j) h) Q ↔ Q (.int (i + j)) h := WP_some
theorem W_sub {i j : Int} {h : Hh} {Q : D → Hh → Prop} : WP (binD .Sub (.int i) (.int j) h) Q ↔ Q (.int (i - j)) h := WP_some
theorem W_mul {i j : Int} {h : Hh} {Q : D → Hh → Prop} : WP (binD .Mult (.int i) (.int j) h) Q ↔ i.natAbs.log2 + j.natAbs.log2 < 1000000 ∧ Q (.int (i * j)) h := by
  simp only [binD]; by_cases x : i.natAbs.log2 + j.natAbs.log2 < 1000000 <;> simp [x]
theorem W_mod {i j : Int} {h : Hh} {Q : D → Hh → Prop} : WP (binD .Mod (.int i) (.int j) h) Q ↔ 0 < j ∧ Q (.int (i % j)) h := by
  simp only [binD]; by_cases x : 0 < j <;> simp [x]
theorem W_fdiv {i j : Int} {h : Hh} {Q : D → Hh → Prop} : WP (binD .FloorDiv (.int i) (.int j) h) Q ↔ (0 < j ∧ j.natAbs.log2 < 9000) ∧ Q (.int (i / j)) h := by
  simp only [binD]; by_cases x : 0 < j ∧ j.natAbs.log2 < 9000 <;> simp [x]
theorem W_pow {i j : Int} {h : Hh} {Q : D → Hh → Prop} : WP (binD .Pow (.int i) (.int j) h) Q ↔ (0 ≤ j ∧ j ≤ 1000000 ∧ i.natAbs < 2 ^ 64) ∧ Q (.int (i ^ j.toNat)) h := by
  simp only [binD]; by_cases x : 0 ≤ j ∧ j ≤ 1000000 ∧ i.natAbs < 2 ^ 64 <;> simp [x]
theorem W_newL {xs : List D} {h : Hh} {Q : D → Hh → Prop} : WP (newL xs h) Q ↔ xs.length ≤ sizeLine ∧ Q (.ref h.length) (h ++ [.lst xs]) := by
  simp only [newL]; by_cases x : xs.length ≤ sizeLine <;> simp [x]
theorem W_catL {a b : Nat} {xs ys : List D} {h : Hh} {Q : D → Hh → Prop} (e : h[a]? = some (.lst xs)) (f : h[b]? = some (.lst ys)) : WP (binD .Add (.ref a) (.ref b) h) Q ↔ (xs ++ ys).length ≤ sizeLine ∧ Q (.ref h.length) (h ++ [.lst (xs ++ ys)]) := by
  simp only [binD, e, f]; exact W_newL
theorem WP_run {n np : Nat} {body : List Sm} {ds : List D} {h : Hh} {Q : D → Hh → Prop} (hl : ds.length = np) (x : WP (denSs body (ds.map Option.some ++ List.replicate (n - np) none) h) fun f h' => match f with
    | .ret d => Q d (gc h.length [d] h')
    | .nx _ => Q .non (gc h.length [] h')
    | _ => False) : WP (runDef n np body ds h) Q := by
  obtain ⟨f, h', e, q⟩ := x
  unfold runDef
  rw [if_pos hl, e]
  cases f <;> first | exact ⟨_, _, rfl, q⟩ | exact q.elim
end Z
set_option Elab.async false
set_option linter.all false
set_option autoImplicit false
set_option maxRecDepth 100000
set_option maxHeartbeats 4000000
namespace Z
open PySem L2
section
variable {S S' : List Nat} {h h' h1 h2 : Hh} {n p q : Nat} {o o' : O} {vs : List D}
theorem lt_of_get (e : h[q]? = some o) : q < h.length := by
  rcases Nat.lt_or_ge q h.length with x | x
  · exact x
  · rw [List.getElem?_eq_none x] at e; cases e
theorem gc_at (x : q < n) : (gc n vs h)[q]? = h[q]? := by
  unfold gc
  split
  · rw [List.getElem?_take_of_lt x]
  · rfl
theorem gc_len (x : n ≤ h.length) : n ≤ (gc n vs h).length := by
  unfold gc
  split
  · rw [List.length_take]; omega
  · exact x
/-- what speaks of what came later is not forgotten -/
theorem gc_ref (x : D.cls n vs = false) : gc n vs h = h := by
  unfold gc
  rw [x]; rfl
/-- what stands stays as it is, but for the objects of S; more may have come -/
structure Kp (S : List Nat) (h h' : Hh) : Prop where
  len : h.length ≤ h'.length
  at_ : ∀ q, q < h.length → q ∉ S → h'[q]? = h[q]?
theorem Kp.refl : Kp S h h := ⟨Nat.le_refl _, fun _ _ _ => rfl⟩
theorem Kp.trans (a : Kp S h h1) (b : Kp S h1 h2) : Kp S h h2 := ⟨Nat.le_trans a.len b.len, fun q x y => (b.at_ q (Nat.lt_of_lt_of_le x a.len) y).trans (a.at_ q x y)⟩
theorem Kp.trans' (a : Kp S h h1) (b : Kp S' h1 h2) (x : ∀ p ∈ S', p ∈ S ∨ h.length ≤ p) : Kp S h h2 :=
  ⟨Nat.le_trans a.len b.len, fun q u y => (b.at_ q (Nat.lt_of_lt_of_le u a.len) (fun m => (x q m).elim y (fun z => by omega))).trans (a.at_ q u y)⟩
theorem Kp.mono (a : Kp S h h') (x : ∀ p ∈ S, p ∈ S') : Kp S' h h' := ⟨a.len, fun q u y => a.at_ q u (fun m => y (x q m))⟩
theorem Kp.get (a : Kp S h h') (e : h[q]? = some o) (m : q ∉ S) : h'[q]? = some o := (a.at_ q (lt_of_get e) m).trans e
theorem Kp.new {T : List O} : Kp S h (h ++ T) := ⟨by rw [List.length_append]; omega, fun q x _ => List.getElem?_append_left x⟩
theorem Kp.set (a : Kp S h h') (m : p ∈ S ∨ h.length ≤ p) : Kp S h (h'.set p o) := ⟨by rw [List.length_set]; exact a.len, fun q x y => by
  rw [List.getElem?_set_ne (fun e => by subst e; rcases m with m | m; exact y m; omega)]
  exact a.at_ q x y⟩
theorem Kp.more {T : List O} (a : Kp S h h') : Kp S h (h' ++ T) := a.trans Kp.new
theorem Kp.gc (a : Kp S h h') (x : h.length ≤ n) (y : n ≤ h'.length) : Kp S h (gc n vs h') := ⟨Nat.le_trans x (gc_len y), fun q u v => by rw [gc_at (by omega)]; exact a.at_ q u v⟩
theorem Kp.gc' (a : Kp S h h') : Kp S h (Z.gc h.length vs h') := a.gc (Nat.le_refl _) a.len
theorem get_set (e : h[p]? = some o) : (h.set p o')[p]? = some o' := by simp [lt_of_get e]
theorem get_ne (e : q ≠ p) : (h.set p o)[q]? = h[q]? := by rw [List.getElem?_set_ne (Ne.symm e)]
theorem get_at (x : n = h.length) : (h ++ [o])[n]? = some o := by rw [x]; exact get_end
end
/-! the pen -/
/-- a pen at p, its cells at c, of which at most N have been taken -/
def Pen (N p c : Nat) (h : Hh) : Prop := ∃ (cs : List Int) (a b : Int), h[p]? = some (.lst [.ref c, .int a, .int b]) ∧ h[c]? = some (.lst (cs.map .int)) ∧ c ≠ p ∧ 0 ≤ a ∧ a ≤ N
section
variable {N M p c : Nat} {h h' : Hh} {S : List Nat}
theorem Pen.lt (P : Pen N p c h) : p < h.length ∧ c < h.length ∧ c ≠ p := by
  obtain ⟨cs, a, b, e1, e2, x, _⟩ := P
  exact ⟨lt_of_get e1, lt_of_get e2, x⟩
theorem Pen.eq (P : Pen N p c h) (x : h'[p]? = h[p]?) (y : h'[c]? = h[c]?) : Pen N p c h' := by
  obtain ⟨cs, a, b, e1, e2, r⟩ := P
  exact ⟨cs, a, b, x.trans e1, y.trans e2, r⟩
theorem Pen.kp (P : Pen N p c h) (K : Kp S h h') (x : p ∉ S) (y : c ∉ S) : Pen N p c h' := P.eq (K.at_ p P.lt.1 x) (K.at_ c P.lt.2.1 y)
theorem Pen.mono (P : Pen N p c h) (x : N ≤ M) : Pen M p c h := by
  obtain ⟨cs, a, b, e1, e2, y, z, w⟩ := P
  exact ⟨cs, a, b, e1, e2, y, z, by omega⟩
theorem Pen.gc {n : Nat} {vs : List D} (P : Pen N p c h) (x : p < n) (y : c < n) : Pen N p c (Z.gc n vs h) := P.eq (gc_at x) (gc_at y)
theorem Pen.set {q : Nat} {o : O} (P : Pen N p c h) (x : q ≠ p) (y : q ≠ c) : Pen N p c (h.set q o) := P.eq (get_ne (Ne.symm x)) (get_ne (Ne.symm y))
theorem Pen.more {T : List O} (P : Pen N p c h) : Pen N p c (h ++ T) := P.kp (S := []) Kp.new (by simp) (by simp)
end
end Z
set_option Elab.async false
set_option linter.all false
set_option autoImplicit false
set_option maxRecDepth 100000
set_option maxHeartbeats 4000000
/-! The pen's functions, one text for all laws -/
namespace Zp
open PySem L2 Z
def b_law_open : List Sm :=
   [.asg (.nm 1) (.blt .list [.slc (.var 0) [] [.cst (.int 12)]]),
    .fr (.tp [2, 3]) (.enm (.slc (.var 0) [.cst (.int 12)] [.cst (.int 63)])) [.sub (.var 1) (.bin .Mod (.blt .int [.var 2]) (.cst (.int 12))) (.bin .Add (.idx (.var 1) (.bin .Mod (.blt .int [.var 2]) (.cst (.int 12)))) (.var 3))],
    .ret (.lst [.var 1, .cst (.int 0), .cst (.int 0)])]
def F_law_open : Fn := runDef 4 1 (b_law_open)
def b_law_spread : List Sm :=
   [.ifs (.cm .GtE (.var 0) (.bin .Pow (.cst (.int 10)) (.cst (.int 18)))) [.ret (.var 0)] [],
    .asg (.nm 2) (.lst [.cst (.int 2147483629), .cst (.int 2147483587), .cst (.int 2147483579), .cst (.int 2147483563), .cst (.int 2147483549), .cst (.int 2147483543), .cst (.int 2147483497), .cst (.int 2147483489)]),
    .asg (.nm 2) (.bin .Add (.var 2) (.lst [.cst (.int 2147483477), .cst (.int 2147483423), .cst (.int 2147483399), .cst (.int 2147483353), .cst (.int 2147483323)])),
    .asg (.nm 3) (.bin .Add (.bin .Add (.bin .Mult (.bin .Mod (.blt .int [.var 0]) (.cst (.int 1000000007))) (.bin .Add (.bin .Mult (.cst (.int 2)) (.var 1)) (.cst (.int 69069)))) (.bin .Mult (.var 1) (.cst (.int 40503)))) (.cst (.int 977))),
    .asg (.nm 3) (.bin .Mod (.blt .int [.bin .Pow (.var 3) (.cst (.int 3))]) (.idx (.var 2) (.bin .Mod (.blt .int [.var 1]) (.cst (.int 13))))),
    .asg (.nm 4) (.bin .Mod (.blt .int [.bin .Pow (.bin .Add (.bin .Add (.bin .Mult (.var 3) (.bin .Add (.var 1) (.cst (.int 3)))) (.bin .Mod (.blt .int [.var 0]) (.cst (.int 65537)))) (.cst (.int 5))) (.cst (.int 5))]) (.idx (.var 2) (.bin .Mod (.blt .int [.bin .Add (.var 1) (.cst (.int 5))]) (.cst (.int 13))))),
    .asg (.nm 5) (.bin .Mod (.blt .int [.bin .Pow (.bin .Add (.bin .Add (.var 4) (.bin .Mod (.blt .int [.var 3]) (.cst (.int 1009)))) (.var 1)) (.cst (.int 3))]) (.idx (.var 2) (.bin .Mod (.blt .int [.bin .Add (.var 1) (.cst (.int 7))]) (.cst (.int 13))))),
    .ret (.bin .Add (.bin .Mult (.bin .Add (.bin .Mult (.var 3) (.cst (.int 2147483647))) (.var 4)) (.cst (.int 2147483647))) (.var 5))]
def F_law_spread : Fn := runDef 6 2 (b_law_spread)
def b_law_take (g_law_spread : Fn) : List Sm :=
   [.ifs (.cm .Lt (.idx (.var 0) (.cst (.int 2))) (.var 1)) [.asg (.nm 2) (.idx (.var 0) (.cst (.int 1))),
    .asg (.nm 3) (.cst (.int 0)),
    .ifs (.cm .Lt (.var 2) (.blt .len [.idx (.var 0) (.cst (.int 0))])) [.asg (.nm 3) (.idx (.idx (.var 0) (.cst (.int 0))) (.var 2))] [.ifs (.cm .Gt (.blt .len [.idx (.var 0) (.cst (.int 0))]) (.cst (.int 0))) [.asg (.nm 3) (.bin .Mod (.blt .int [.idx (.idx (.var 0) (.cst (.int 0))) (.bin .Mod (.blt .int [.bin .Add (.bin .Mult (.var 2) (.cst (.int 5))) (.cst (.int 3))]) (.blt .len [.idx (.var 0) (.cst (.int 0))]))]) (.bin .Add (.bin .Pow (.cst (.int 10)) (.cst (.int 17))) (.var 2)))] []],
    .sub (.var 0) (.cst (.int 1)) (.bin .Add (.var 2) (.cst (.int 1))),
    .sub (.var 0) (.cst (.int 2)) (.call "_law_spread" g_law_spread [.var 3, .var 2])] [],
    .asg (.nm 4) (.bin .Mod (.blt .int [.idx (.var 0) (.cst (.int 2))]) (.var 1)),
    .sub (.var 0) (.cst (.int 2)) (.bin .FloorDiv (.idx (.var 0) (.cst (.int 2))) (.var 1)),
    .ret (.var 4)]
def F_law_take : Fn := runDef 5 2 (b_law_take F_law_spread)
def b_law_one_of (g_law_take : Fn) : List Sm :=
   [.ret (.idx (.var 1) (.call "_law_take" g_law_take [.var 0, .blt .len [.var 1]]))]
def F_law_one_of : Fn := runDef 2 2 (b_law_one_of F_law_take)

theorem primes_ok (k : Int) (h0 : 0 ≤ k) (h1 : k < 13) : ∃ p : Int, (2147483323 ≤ p ∧ p ≤ 2147483629) ∧ atI [D.int 2147483629, .int 2147483587, .int 2147483579, .int 2147483563, .int 2147483549, .int 2147483543, .int 2147483497, .int 2147483489, .int 2147483477, .int 2147483423, .int 2147483399, .int 2147483353, .int 2147483323] k = some (.int p) := by
  have e : k = 0 ∨ k = 1 ∨ k = 2 ∨ k = 3 ∨ k = 4 ∨ k = 5 ∨ k = 6 ∨ k = 7 ∨ k = 8 ∨ k = 9 ∨ k = 10 ∨ k = 11 ∨ k = 12 := by omega
  rcases e with rfl | rfl | rfl | rfl | rfl | rfl | rfl | rfl | rfl | rfl | rfl | rfl | rfl <;> exact ⟨_, ⟨by decide, by decide⟩, rfl⟩
local macro_rules | `(tactic| walk_at "ev") => `(tactic| simp only [W_asg, W_ret, W_ifs, W_nil, List.map_cons, List.map_nil, denT, den, dens, getVar, WP_bind, WP_some, List.replicate, Nat.reduceSub, List.cons_append, List.nil_append, List.getElem?_cons_zero, List.getElem?_cons_succ, W_add, W_mul, W_mod, W_pow, WP_opt, semB, intD, Option.map_some, List.set_cons_zero, List.set_cons_succ, Option.some.injEq, exists_eq_left', true_and, and_true, Nat.zero_add, Nat.reduceAdd, aft_nx, aft_ret])
theorem mul_b {x y X Y : Int} (a : 0 ≤ x ∧ x ≤ X) (b : 0 ≤ y ∧ y ≤ Y) : 0 ≤ x * y ∧ x * y ≤ X * Y := ⟨Int.mul_nonneg a.1 b.1, Int.mul_le_mul a.2 b.2 b.1 (Int.le_trans a.1 a.2)⟩
theorem log_b {i : Int} (a : -18446744073709551616 < i ∧ i < 18446744073709551616) : i.natAbs.log2 < 65 := by
  by_cases z : i.natAbs = 0
  · rw [z]; decide
  · rw [Nat.log2_lt z]; omega
theorem spread_ok (c a : Int) (ha : 0 ≤ a) (hb : a < 1000000000) {h : Hh} : WP (F_law_spread [.int c, .int a] h) fun d h' => (∃ r : Int, d = .int r) ∧ Kp [] h h' := by
  refine WP_run rfl ?_
  unfold b_law_spread
  rw [W_ifs]
  walk_at "ev"
  refine ⟨⟨by decide, by decide, by decide⟩, _, rfl, fun _ => ⟨⟨_, rfl⟩, Kp.refl.gc'⟩, fun _ => ?_⟩
  rw [W_newL]
  refine ⟨by decide, ?_⟩
  rw [W_newL]
  refine ⟨by decide, ?_⟩
  rw [W_catL (get_old get_end) get_end]
  refine ⟨by decide, ?_⟩
  have hx : ∀ k : Int, idxD (.ref (h ++ [O.lst [D.int 2147483629, .int 2147483587, .int 2147483579, .int 2147483563, .int 2147483549, .int 2147483543, .int 2147483497, .int 2147483489]] ++ [O.lst [D.int 2147483477, .int 2147483423, .int 2147483399, .int 2147483353, .int 2147483323]]).length) (.int k) (h ++ [O.lst [D.int 2147483629, .int 2147483587, .int 2147483579, .int 2147483563, .int 2147483549, .int 2147483543, .int 2147483497, .int 2147483489]] ++ [O.lst [D.int 2147483477, .int 2147483423, .int 2147483399, .int 2147483353, .int 2147483323]] ++ [O.lst ([D.int 2147483629, .int 2147483587, .int 2147483579, .int 2147483563, .int 2147483549, .int 2147483543, .int 2147483497, .int 2147483489] ++ [D.int 2147483477, .int 2147483423, .int 2147483399, .int 2147483353, .int 2147483323])]) = atI [D.int 2147483629, .int 2147483587, .int 2147483579, .int 2147483563, .int 2147483549, .int 2147483543, .int 2147483497, .int 2147483489, .int 2147483477, .int 2147483423, .int 2147483399, .int 2147483353, .int 2147483323] k := by
    intro k
    simp [idxD]
  obtain ⟨p1, l1, e1⟩ := primes_ok (a % 13) (by omega) (by omega)
  obtain ⟨p2, l2, e2⟩ := primes_ok ((a + 5) % 13) (by omega) (by omega)
  obtain ⟨p3, l3, e3⟩ := primes_ok ((a + 7) % 13) (by omega) (by omega)
  simp only [hx, e1, e2, e3, W_mod, W_add, W_mul, W_pow, Option.some.injEq, exists_eq_left']
  clear hx
  have b1 := mul_b (x := c % 1000000007) (X := 1000000007) (y := 2 * a + 69069) (Y := 2000069069) (by omega) (by omega)
  generalize c % 1000000007 * (2 * a + 69069) = t1 at *
  have c1 := mod_ok ((t1 + a * 40503 + 977) ^ Int.toNat 3) p1 (by omega)
  generalize (t1 + a * 40503 + 977) ^ Int.toNat 3 % p1 = one at *
  have b2 := mul_b (x := one) (X := 2147483629) (y := a + 3) (Y := 1000000003) (by omega) (by omega)
  generalize one * (a + 3) = t2 at *
  have c2 := mod_ok ((t2 + c % 65537 + 5) ^ Int.toNat 5) p2 (by omega)
  generalize (t2 + c % 65537 + 5) ^ Int.toNat 5 % p2 = two at *
  have k : ∀ i : Int, 0 ≤ i → i < 10000000000 → i.natAbs.log2 < 65 := fun i u v => log_b (by omega)
  have n1 := k 2 (by decide) (by decide)
  have n2 := k a (by omega) (by omega)
  have n3 := k (c % 1000000007) (by omega) (by omega)
  have n4 := k (2 * a + 69069) (by omega) (by omega)
  have n5 := k 40503 (by decide) (by decide)
  have n6 := k one (by omega) (by omega)
  have n7 := k (a + 3) (by omega) (by omega)
  have n8 := k 2147483647 (by decide) (by decide)
  have n9 := log_b (i := one * 2147483647 + two) (by omega)
  refine ⟨by omega, by omega, by omega, by omega, ⟨by omega, by omega, by omega⟩, by omega, by omega, by omega, by omega, ⟨by omega, by omega, by omega⟩, by omega, by omega, by omega, ⟨by omega, by omega, by omega⟩, by omega, by omega, by omega, by omega, ⟨_, rfl⟩, ?_⟩
  rw [List.append_assoc, List.append_assoc]
  exact Kp.new.gc'
theorem intD_i {i : Int} : intD (.int i) = some (.int i) := rfl
local macro_rules | `(tactic| walk_at "ev2") => `(tactic| simp only [W_asg, W_ret, W_ifs, W_nil, W_sub', List.map_cons, List.map_nil, denT, den, dens, getVar, WP_bind, WP_some, List.replicate, Nat.reduceSub, List.cons_append, List.nil_append, List.getElem?_cons_zero, List.getElem?_cons_succ, W_add, W_mul, W_mod, W_fdiv, W_pow, WP_opt, semB, intD_i, Option.map_some, List.set_cons_zero, List.set_cons_succ, Option.some.injEq, exists_eq_left', true_and, and_true, Nat.zero_add, Nat.reduceAdd, aft_nx, aft_ret])
/-- the three of a pen, changed -/
theorem set_pen {h : Hh} {p c : Nat} {a b v : Int} (ep : h[p]? = some (.lst [.ref c, .int a, .int b])) (w : Int) :
    setD (.ref p) (.int 1) (.int v) h = some (h.set p (.lst [.ref c, .int v, .int b])) ∧ setD (.ref p) (.int 2) (.int w) h = some (h.set p (.lst [.ref c, .int a, .int w])) := by
  simp only [setD, ep]
  exact ⟨rfl, rfl⟩
/-- what a take leaves -/
def Took (N p c : Nat) (m : Int) (h : Hh) (d : D) (h' : Hh) : Prop := ∃ r : Int, d = .int r ∧ 0 ≤ r ∧ r < m ∧ Pen (N + 1) p c h' ∧ Kp [p] h h'
theorem take_end {N p c : Nat} {m a b : Int} {cs : List Int} {h g : Hh} (ep : g[p]? = some (.lst [.ref c, .int a, .int b])) (ec : g[c]? = some (.lst (cs.map .int))) (hcp : c ≠ p) (a0 : 0 ≤ a) (a1 : a ≤ N + 1) (h0 : 0 < m) (h1 : m < 18446744073709551616)
    (hp : p < h.length) (hc : c < h.length) (K : Kp [p] h g) : 0 < m ∧ (0 < m ∧ m.natAbs.log2 < 9000) ∧ ∃ h4, setD (D.ref p) (D.int 2) (D.int (b / m)) g = some h4 ∧ Took N p c m h (D.int (b % m)) (gc (List.length h) [D.int (b % m)] h4) := by
  have lg := log_b (i := m) (by omega)
  refine ⟨h0, ⟨h0, by omega⟩, _, (set_pen (v := 0) ep (b / m)).2, _, rfl, (mod_ok b m h0).1, (mod_ok b m h0).2, ?_, (K.set (.inl (by simp))).gc'⟩
  exact Pen.gc ⟨cs, a, b / m, get_set ep, by rw [get_ne hcp]; exact ec, hcp, a0, by omega⟩ hp hc
theorem take_ok {N p c : Nat} {m : Int} {h : Hh} (P : Pen N p c h) (hN : N < 1000000000) (h0 : 0 < m) (h1 : m < 18446744073709551616) : WP (F_law_take [.ref p, .int m] h) (Took N p c m h) := by
  have lt := P.lt
  obtain ⟨cs, a, b, ep, ec, hcp, a0, a1⟩ := P
  refine WP_run rfl ?_
  unfold b_law_take
  rw [W_ifs]
  simp only [List.map_cons, List.map_nil, denT, den, dens, getVar, WP_bind, WP_some, List.replicate, Nat.reduceSub, List.cons_append, List.nil_append, List.getElem?_cons_zero, List.getElem?_cons_succ, WP_opt]
  have i0 : idxD (.ref p) (.int 0) h = some (.ref c) := by simp only [idxD, ep]; rfl
  have i1 : idxD (.ref p) (.int 1) h = some (.int a) := by simp only [idxD, ep]; rfl
  have i2 : idxD (.ref p) (.int 2) h = some (.int b) := by simp only [idxD, ep]; rfl
  have lc : lenD h (.ref c) = some (.int cs.length) := by simp only [lenD, ec, List.length_map]
  refine ⟨_, i2, _, rfl, fun hb => ?_, fun hb => ?_⟩
  · walk_at "ev2"
    simp only [i0, i1, lc, Option.some.injEq, exists_eq_left']
    have mid : ∀ x : Int, WP (binD .Add (.int a) (.int 1) h) fun d h1 => ∃ h4, setD (.ref p) (.int 1) d h1 = some h4 ∧ WP (F_law_spread [.int x, .int a] h4) fun d h1 => ∃ h4, setD (.ref p) (.int 2) d h1 = some h4 ∧ ∃ b, idxD (.ref p) (.int 2) h4 = some b ∧ ∃ b_1, intD b = some b_1 ∧ WP (binD .Mod b_1 (.int m) h4) fun d h1 => ∃ b, idxD (.ref p) (.int 2) h1 = some b ∧ WP (binD .FloorDiv b (.int m) h1) fun d_1 h1 => ∃ h4, setD (.ref p) (.int 2) d_1 h1 = some h4 ∧ Took N p c m h d (gc (List.length h) [d] h4) := by
      intro x
      rw [W_add]
      refine ⟨_, (set_pen ep 0).1, (spread_ok x a a0 (by omega)).mono fun d h' q => ?_⟩
      obtain ⟨⟨r, rfl⟩, K⟩ := q
      have e2 := K.get (get_set (o' := .lst [.ref c, .int (a + 1), .int b]) ep) (by simp)
      have e3 := get_set (o' := .lst [.ref c, .int (a + 1), .int r]) e2
      have j2 : idxD (.ref p) (.int 2) (h'.set p (.lst [.ref c, .int (a + 1), .int r])) = some (.int r) := by simp only [idxD, e3]; rfl
      refine ⟨_, (set_pen (v := 0) e2 r).2, _, j2, _, rfl, ?_⟩
      rw [W_mod]
      simp only [j2, Option.some.injEq, exists_eq_left', W_fdiv]
      refine take_end (N := N) (cs := cs) e3 ?_ hcp (by omega) (by omega) h0 h1 lt.1 lt.2.1 (((Kp.refl.set (.inl (by simp))).trans (K.mono (by simp))).set (.inl (by simp)))
      rw [get_ne hcp]
      exact K.get (by rw [get_ne hcp]; exact ec) (by simp)
    have ic : ∀ k : Int, 0 ≤ k → k < cs.length → ∃ x : Int, idxD (.ref c) (.int k) h = some (.int x) := by
      intro k k0 k1
      have kl : k.toNat < cs.length := by omega
      refine ⟨cs[k.toNat], ?_⟩
      simp only [idxD, ec, atI, ixN, List.length_map, if_pos k0, if_pos k1, Option.bind_some, List.getElem?_map, List.getElem?_eq_getElem kl, Option.map_some]
    refine ⟨_, rfl, fun z => ?_, fun z => ⟨_, rfl, fun y => ?_, fun y => mid 0⟩⟩
    · obtain ⟨x, ex⟩ := ic a a0 (of_decide_eq_true z)
      exact ⟨_, ex, mid x⟩
    · have cl0 : (0 : Int) < cs.length := of_decide_eq_true y
      obtain ⟨x, ex⟩ := ic ((a * 5 + 3) % cs.length) (mod_ok _ _ cl0).1 (mod_ok _ _ cl0).2
      have l1 := log_b (i := a) (by omega)
      have l2 : (Int.natAbs 5).log2 < 65 := log_b (by omega)
      simp only [W_mul, W_add, W_mod, intD_i, i0, lc, ex, Option.some.injEq, exists_eq_left']
      have mm := mid (x % (10 ^ Int.toNat 17 + a))
      rw [W_add] at mm
      have tp : (10 : Int) ^ Int.toNat 17 = 100000000000000000 := by decide
      refine ⟨by omega, cl0, ⟨by decide, by decide, by decide⟩, by rw [tp]; omega, ?_⟩
      simpa only [W_add, W_mod] using mm
  · walk_at "ev2"
    simp only [i2, intD_i, Option.some.injEq, exists_eq_left', W_mod, W_fdiv]
    exact take_end (N := N) (cs := cs) ep ec hcp a0 (by omega) h0 h1 lt.1 lt.2.1 Kp.refl
theorem atI_in {xs : List D} {r : Int} (h0 : 0 ≤ r) (h1 : r < xs.length) : ∃ x, atI xs r = some x ∧ x ∈ xs := by
  have kl : r.toNat < xs.length := by omega
  refine ⟨xs[r.toNat], ?_, List.getElem_mem _⟩
  simp only [atI, ixN, if_pos h0, if_pos h1, Option.bind_some, List.getElem?_eq_getElem kl]
/-- one of what there is to take -/
def Chose (N p c : Nat) (xs : List D) (h : Hh) (d : D) (h' : Hh) : Prop := d ∈ xs ∧ Pen (N + 1) p c h' ∧ Kp [p] h h'
theorem one_of_ok {N p c : Nat} {s : D} {xs : List D} {h : Hh} (P : Pen N p c h) (hN : N < 1000000000) (hl : lenD h s = some (.int xs.length)) (hx : ∀ (h' : Hh) (i : Int), Kp [p] h h' → idxD s (.int i) h' = atI xs i)
    (h0 : 0 < xs.length) (h1 : xs.length < 18446744073709551616) : WP (F_law_one_of [.ref p, s] h) (Chose N p c xs h) := by
  refine WP_run rfl ?_
  unfold b_law_one_of
  simp only [W_ret, List.map_cons, List.map_nil, den, dens, getVar, WP_bind, WP_some, List.replicate, Nat.reduceSub, List.cons_append, List.nil_append, List.getElem?_cons_zero, List.getElem?_cons_succ, WP_opt, semB, hl, Option.some.injEq, exists_eq_left']
  refine (take_ok P hN (by omega) (by omega)).mono fun d h' q => ?_
  obtain ⟨r, rfl, r0, r1, P', K⟩ := q
  obtain ⟨x, e, m⟩ := atI_in r0 r1
  exact ⟨x, (hx h' r K).trans e, m, P'.gc P.lt.1 P.lt.2.1, K.gc'⟩
theorem one_of_tup {N p c : Nat} {xs : List D} {h : Hh} (P : Pen N p c h) (hN : N < 1000000000) (h0 : 0 < xs.length) (h1 : xs.length < 18446744073709551616) : WP (F_law_one_of [.ref p, .tup xs] h) (Chose N p c xs h) :=
  one_of_ok P hN rfl (fun _ _ _ => rfl) h0 h1
theorem one_of_lst {N p c q : Nat} {xs : List D} {h : Hh} (P : Pen N p c h) (hN : N < 1000000000) (hq : q ≠ p) (e : h[q]? = some (.lst xs)) (h0 : 0 < xs.length) (h1 : xs.length < 18446744073709551616) : WP (F_law_one_of [.ref p, .ref q] h) (Chose N p c xs h) :=
  one_of_ok P hN (by simp only [lenD, e]) (fun h' i f => by simp only [idxD, f.get e (by simpa using hq)]) h0 h1
end Zp
set_option Elab.async false
set_option linter.all false
set_option autoImplicit false
set_option maxRecDepth 100000
set_option maxHeartbeats 4000000
namespace Z
open PySem L2
/-! ### loops by an invariant -/
/-- after a turn -/
def aftL (k : En → Hh → Prop) (Q : Fl → Hh → Prop) : Fl → Hh → Prop
  | .nx e, h => k e h
  | .cnt e, h => k e h
  | .brk e, h => Q (.nx e) h
  | .ret d, h => Q (.ret d) h
theorem aftL_nx {k : En → Hh → Prop} {Q : Fl → Hh → Prop} {e : En} {h : Hh} : aftL k Q (.nx e) h ↔ k e h := Iff.rfl
theorem aftL_cnt {k : En → Hh → Prop} {Q : Fl → Hh → Prop} {e : En} {h : Hh} : aftL k Q (.cnt e) h ↔ k e h := Iff.rfl
theorem aftL_brk {k : En → Hh → Prop} {Q : Fl → Hh → Prop} {e : En} {h : Hh} : aftL k Q (.brk e) h ↔ Q (.nx e) h := Iff.rfl
theorem aftL_ret {k : En → Hh → Prop} {Q : Fl → Hh → Prop} {d : D} {h : Hh} : aftL k Q (.ret d) h ↔ Q (.ret d) h := Iff.rfl
theorem for_ok {body : D → En → Hh → Option (Fl × Hh)} {tg : Tg} {sv : Sv} {n : Nat} {I : Nat → En → Hh → Prop} {Q : Fl → Hh → Prop}
    (ht : ∀ (i : Nat) (e : En) (h : Hh), i < n → I i e h → ∃ x e1, sv.at h i = some (some x) ∧ assignD tg x e = some e1 ∧ WP (body x e1 h) (aftL (I (i + 1)) Q))
    (he : ∀ (e : En) (h : Hh), I n e h → sv.at h n = some none ∧ Q (.nx e) h) : ∀ (k i : Nat) (e : En) (h : Hh), i + k = n → I i e h → WP (forI body tg sv (k + 1) i e h) Q
  | 0, i, e, h, hk, x => by
    obtain ⟨a, q⟩ := he e h (by have : i = n := by omega
                                exact this ▸ x)
    have hi : i = n := by omega
    simp only [forI, hi, a, WP_some]
    exact q
  | k + 1, i, e, h, hk, x => by
    obtain ⟨y, e1, a, b, c⟩ := ht i e h (by omega) x
    rw [forI]
    simp only [a, b, WP_bind]
    refine c.mono fun f h' z => ?_
    cases f with
    | nx e2 => exact for_ok ht he k (i + 1) e2 h' (by omega) z
    | cnt e2 => exact for_ok ht he k (i + 1) e2 h' (by omega) z
    | brk e2 => exact WP.some z
    | ret d => exact WP.some z
theorem W_fr {tg : Tg} {src : Sr} {b r : List Sm} {e : En} {h : Hh} {Q : Fl → Hh → Prop} : WP (denSs (.fr tg src b :: r) e h) Q ↔ WP (denI src e h) fun sv h1 => WP (forI (fun _ => denSs b) tg sv (sv.len h1 + 1) 0 e h1) (aft (fun e1 h1 => WP (denSs r e1 h1) Q) Q) := by
  simp only [WP_seq, denS, WP_bind]
/-- a for, by what holds ahead of each turn -/
theorem fr_ok {b : List Sm} {tg : Tg} {sv : Sv} {n : Nat} {I : Nat → En → Hh → Prop} {e : En} {h : Hh} {R : Fl → Hh → Prop} (hn : sv.len h = n) (h0 : I 0 e h)
    (ht : ∀ (i : Nat) (e : En) (h : Hh), i < n → I i e h → ∃ x e1, sv.at h i = some (some x) ∧ assignD tg x e = some e1 ∧ WP (denSs b e1 h) (aftL (I (i + 1)) R))
    (he : ∀ (e : En) (h : Hh), I n e h → sv.at h n = some none ∧ R (.nx e) h) : WP (forI (fun _ => denSs b) tg sv (sv.len h + 1) 0 e h) R := by
  rw [hn]
  exact for_ok ht he n 0 e h (by omega) h0
theorem over_ok {g : Nat} {body : D → Hh → Option Hh} {sv : Sv} {n : Nat} {I : Nat → Hh → Prop}
    (ht : ∀ (i : Nat) (h : Hh), i < n → I i h → ∃ x h1, sv.at h i = some (some x) ∧ body x h = some h1 ∧ I (i + 1) (gc g [] h1))
    (he : ∀ (h : Hh), I n h → sv.at h n = some none) : ∀ (k i : Nat) (h : Hh), i + k = n → I i h → ∃ h', overI g body sv (k + 1) i h = some h' ∧ I n h'
  | 0, i, h, hk, x => by
    have hi : i = n := by omega
    subst hi
    exact ⟨h, by simp only [overI, he h x], x⟩
  | k + 1, i, h, hk, x => by
    obtain ⟨y, h1, a, b, c⟩ := ht i h (by omega) x
    obtain ⟨h', e, z⟩ := over_ok ht he k (i + 1) _ (by omega) c
    refine ⟨h', ?_, z⟩
    rw [overI]
    simp only [a, b]
    exact e
theorem hcl_no {n : Nat} {o : O} : ∀ {h : List O} {q : Nat}, h[q]? = some o → o.cl n = false → hcl n h = false
  | [], q, e, _ => by simp at e
  | x :: xs, 0, e, c => by
    simp only [List.getElem?_cons_zero, Option.some.injEq] at e
    subst e
    simp only [hcl, c, Bool.false_and]
  | x :: xs, q + 1, e, c => by
    simp only [hcl, hcl_no (h := xs) (q := q) (by simpa using e) c, Bool.and_false]
theorem gc_keeps {n q : Nat} {h : Hh} {o : O} {vs : List D} (e : h[q]? = some o) (x : q < n) (c : o.cl n = false) : gc n vs h = h := by
  unfold gc
  rw [hcl_no (h := h.take n) (q := q) (by rw [List.getElem?_take_of_lt x]; exact e) c, Bool.and_false]
  rfl
/-- what a turn of a list's block leaves: the list at n, what stands below it as it was -/
structure Lc (n : Nat) (acc : List D) (h h' : Hh) : Prop where
  at_ : h'[n]? = some (.lst acc)
  low : ∀ q, q < n → h'[q]? = h[q]?
  all : D.cls (n + 1) acc = false → ∀ q, q ≠ n → h'[q]? = h[q]?
theorem Lc.of_gc {n : Nat} {acc acc' : List D} {h : Hh} (e : h[n]? = some (.lst acc)) : Lc n acc' h (gc (n + 1) [] (h.set n (.lst acc'))) := by
  have g : (h.set n (.lst acc'))[n]? = some (.lst acc') := get_set e
  refine ⟨by rw [gc_at (by omega)]; exact g, fun q x => by rw [gc_at (by omega), get_ne (by omega)], fun c q x => ?_⟩
  rw [gc_keeps g (by omega) c, get_ne x]
theorem Lc.of_gc' {n : Nat} {acc : List D} {h : Hh} (e : h[n]? = some (.lst acc)) : Lc n acc h (gc (n + 1) [] h) := by
  refine ⟨by rw [gc_at (by omega)]; exact e, fun q x => by rw [gc_at (by omega)], fun c q x => ?_⟩
  rw [gc_keeps e (by omega) c]
theorem Lc.start {h : Hh} : Lc h.length [] h (h ++ [.lst []]) := ⟨get_end, fun q x => List.getElem?_append_left x, fun c => by cases c⟩
theorem Lc.kp {S : List Nat} {n : Nat} {acc : List D} {h g g2 : Hh} (L : Lc n acc g g2) (K : Kp S h g) (x : h.length ≤ n) : Kp S h g2 := ⟨by have := lt_of_get L.at_; omega, fun q u v => (L.low q (by omega)).trans (K.at_ q u v)⟩
theorem Lc.get {n q : Nat} {o : O} {acc : List D} {g g2 : Hh} (L : Lc n acc g g2) (e : g[q]? = some o) (x : q < n) : g2[q]? = some o := (L.low q x).trans e
theorem Lc.pen {N p c n : Nat} {acc : List D} {g g2 : Hh} (L : Lc n acc g g2) (P : Pen N p c g) (x : p < n) (y : c < n) : Pen N p c g2 := P.eq (L.low p x) (L.low c y)
/-- [elt for tg in src if cond] -/
theorem W_lc {own : List (Str × Nat)} {tg : Tg} {src : Sr} {cond : List Te} {elt : Ex} {e : En} {h : Hh} {Q : D → Hh → Prop} (x : WP (denI src e h) fun sv h1 => ∃ (m : Nat) (I : Nat → List D → Hh → Prop), sv.len h1 = m ∧ m < sizeLine ∧
    (∀ h2, Lc h1.length [] h1 h2 → I 0 [] h2) ∧
    (∀ i acc h2, i < m → I i acc h2 → h2[h1.length]? = some (.lst acc) → acc.length ≤ i → ∃ x e1, sv.at h2 i = some (some x) ∧ assignD tg x (wipeE e (own.map (·.2))) = some e1 ∧ WP (denC cond e1 h2) fun b h3 =>
      (b = true → WP (den elt e1 h3) fun y h4 => h4[h1.length]? = some (.lst acc) ∧ ∀ h5, Lc h1.length (acc ++ [y]) h4 h5 → I (i + 1) (acc ++ [y]) h5) ∧
      (b = false → h3[h1.length]? = some (.lst acc) ∧ ∀ h5, Lc h1.length acc h3 h5 → I (i + 1) acc h5)) ∧
    (∀ acc h2, I m acc h2 → h2[h1.length]? = some (.lst acc) → sv.at h2 m = some none) ∧
    (∀ acc h2, I m acc h2 → h2[h1.length]? = some (.lst acc) → acc.length ≤ m → Q (.ref h1.length) h2)) : WP (den (.lc own tg src cond elt) e h) Q := by
  obtain ⟨sv, h1, es, m, I, hm, hz, i0, it, ie, iq⟩ := x
  obtain ⟨h', eo, acc, hi, ha, hl⟩ := over_ok (g := h1.length + 1) (body := appI h1.length (turnD tg (wipeE e (own.map (·.2))) (denC cond) (den elt))) (sv := sv) (n := m)
    (I := fun i h2 => ∃ acc, I i acc h2 ∧ h2[h1.length]? = some (.lst acc) ∧ acc.length ≤ i)
    (fun i h2 hi ⟨acc, x1, x2, x3⟩ => by
      obtain ⟨x, e1, y1, y2, b, h3, y3, y4⟩ := it i acc h2 hi x1 x2 x3
      cases b with
      | true =>
        obtain ⟨y, h4, z1, z2, z3⟩ := y4.1 rfl
        refine ⟨x, h4.set h1.length (.lst (acc ++ [y])), y1, ?_, acc ++ [y], z3 _ (Lc.of_gc z2), by rw [gc_at (by omega)]; exact get_set z2, by rw [List.length_append]; simp; omega⟩
        simp only [appI, turnD, y2, y3, bindM_some, if_true, z1, z2]
        rw [if_pos (by omega)]
      | false =>
        obtain ⟨z2, z3⟩ := y4.2 rfl
        refine ⟨x, h3, y1, ?_, acc, z3 _ (Lc.of_gc' z2), by rw [gc_at (by omega)]; exact z2, by omega⟩
        simp only [appI, turnD, y2, y3, bindM_some]
        rfl)
    (fun h2 ⟨acc, x1, x2, _⟩ => ie acc h2 x1 x2) m 0 (h1 ++ [.lst []]) (by omega) ⟨[], i0 _ Lc.start, get_end, Nat.le_refl _⟩
  refine ⟨.ref h1.length, h', ?_, iq acc h' hi ha hl⟩
  rw [den]
  simp only [es, bindM_some, hm, eo]
theorem gc_end {n : Nat} {vs : List D} {h : Hh} (e : h.length ≤ n) : gc n vs h = h := by
  unfold gc
  split
  · exact List.take_of_length_le e
  · rfl
theorem set_end {h : Hh} {o o' : O} : (h ++ [o]).set h.length o' = h ++ [o'] := by simp
/-- a comprehension that only tells values -/
theorem lc_pure {own : List (Str × Nat)} {tg : Tg} {src : Sr} {cond : List Te} {elt : Ex} {e : En} {h h1 : Hh} {sv : Sv} {xs : List D} {G : D → Option D} (es : denI src e h = some (sv, h1)) (hl : sv.len h1 = xs.length)
    (ha : ∀ acc i, sv.at (h1 ++ [.lst acc]) i = some xs[i]?) (hz : xs.length < sizeLine)
    (ht : ∀ x ∈ xs, ∀ acc, ∃ e1, assignD tg x (wipeE e (own.map (·.2))) = some e1 ∧ match G x with
      | none => denC cond e1 (h1 ++ [.lst acc]) = some (false, h1 ++ [.lst acc])
      | some y => denC cond e1 (h1 ++ [.lst acc]) = some (true, h1 ++ [.lst acc]) ∧ den elt e1 (h1 ++ [.lst acc]) = some (y, h1 ++ [.lst acc])) :
    den (.lc own tg src cond elt) e h = some (.ref h1.length, h1 ++ [.lst (xs.filterMap G)]) := by
  have key : ∀ (zs ys : List D) (acc : List D), ys ++ zs = xs → acc.length ≤ ys.length →
      overI (h1.length + 1) (appI h1.length (turnD tg (wipeE e (own.map (·.2))) (denC cond) (den elt))) sv (zs.length + 1) ys.length (h1 ++ [.lst acc]) = some (h1 ++ [.lst (acc ++ zs.filterMap G)]) := by
    intro zs
    induction zs with
    | nil =>
      intro ys acc hxs _
      rw [List.append_nil] at hxs
      subst hxs
      rw [overI]
      simp only [ha, List.getElem?_eq_none (Nat.le_refl _), List.filterMap_nil, List.append_nil]
    | cons z zs ih =>
      intro ys acc hxs hac
      have e1 : xs[ys.length]? = some z := by rw [← hxs, List.getElem?_append_right (Nat.le_refl _)]; simp
      obtain ⟨en, a1, a2⟩ := ht z (by rw [← hxs]; simp) acc
      have g1 : ∀ acc : List D, gc (h1.length + 1) [] (h1 ++ [O.lst acc]) = h1 ++ [O.lst acc] := fun acc => gc_end (by simp)
      have hx2 : (ys ++ [z]) ++ zs = xs := by rw [← hxs]; simp
      have lx : xs.length = ys.length + zs.length + 1 := by rw [← hxs]; simp; omega
      rw [show (z :: zs).length + 1 = (zs.length + 1) + 1 from rfl, overI]
      simp only [ha, e1]
      cases hG : G z with
      | none =>
        rw [hG] at a2
        simp only [appI, turnD, a1, a2, bindM_some]
        have := ih (ys ++ [z]) acc hx2 (by rw [List.length_append]; omega)
        rw [List.length_append] at this
        simp only [Bool.false_eq_true, if_false, g1, List.filterMap_cons, hG]
        exact this
      | some y =>
        rw [hG] at a2
        have gl : acc.length < sizeLine := by omega
        simp only [appI, turnD, a1, a2.1, a2.2, bindM_some, if_true, get_end, if_pos gl, set_end, g1, List.filterMap_cons, hG]
        have := ih (ys ++ [z]) (acc ++ [y]) hx2 (by rw [List.length_append, List.length_append]; simp; omega)
        rw [List.length_append] at this
        rw [List.append_assoc] at this
        exact this
  have := key xs [] [] rfl (Nat.le_refl _)
  simp only [List.nil_append, List.length_nil] at this
  rw [den]
  simp only [es, bindM_some, hl, this]
end Z
set_option Elab.async false
set_option linter.all false
set_option autoImplicit false
set_option maxRecDepth 100000
set_option maxHeartbeats 4000000
namespace Z
open PySem L2
/-! rules more, and what operations do at once -/
theorem W_par {is : List Nat} {xs : List Ex} {r : List Sm} {e : En} {h : Hh} {Q : Fl → Hh → Prop} : WP (denSs (.par is xs :: r) e h) Q ↔ WP (dens xs e h) fun ds h1 => ∃ e1, sets is ds e = some e1 ∧ WP (denSs r e1 h1) Q := by
  have z : ∀ (m : Option En) (h1 : Hh), WP (opt h1 (m.map Fl.nx)) (aft (fun e1 h1 => WP (denSs r e1 h1) Q) Q) ↔ ∃ e1, m = some e1 ∧ WP (denSs r e1 h1) Q := fun m h1 => by cases m <;> simp [opt, aft]
  simp only [WP_seq, denS, WP_bind, z]
theorem W_asgt {is : List Nat} {x : Ex} {r : List Sm} {e : En} {h : Hh} {Q : Fl → Hh → Prop} : WP (denSs (.asg (.tp is) x :: r) e h) Q ↔ WP (den x e h) fun d h1 => ∃ ds, d = .tup ds ∧ ∃ e1, sets is ds e = some e1 ∧ WP (denSs r e1 h1) Q := by
  simp only [WP_seq, denS, WP_bind]
  have z : ∀ (d : D) (h1 : Hh), WP (opt h1 ((assignD (.tp is) d e).map Fl.nx)) (aft (fun e1 h1 => WP (denSs r e1 h1) Q) Q) ↔ ∃ ds, d = .tup ds ∧ ∃ e1, sets is ds e = some e1 ∧ WP (denSs r e1 h1) Q := fun d h1 => by
    cases d <;> simp [assignD, opt, aft]
    rename_i xs
    cases sets is xs e <;> simp [opt, aft]
  simp only [z]
theorem W_brk {r : List Sm} {e : En} {h : Hh} {Q : Fl → Hh → Prop} : WP (denSs (.brk :: r) e h) Q ↔ Q (.brk e) h := by simp only [WP_seq, denS, WP_some, aft_brk]
theorem W_cnt {r : List Sm} {e : En} {h : Hh} {Q : Fl → Hh → Prop} : WP (denSs (.cnt :: r) e h) Q ↔ Q (.cnt e) h := by simp only [WP_seq, denS, WP_some, aft_cnt]
theorem W_pas {r : List Sm} {e : En} {h : Hh} {Q : Fl → Hh → Prop} : WP (denSs (.pas :: r) e h) Q ↔ WP (denSs r e h) Q := by simp only [WP_seq, denS, WP_some, aft_nx]
theorem WP_ifn {α : Type} {c : Prop} [Decidable c] {x : Option (α × Hh)} {Q : α → Hh → Prop} : WP (if c then x else none) Q ↔ c ∧ WP x Q := by
  by_cases h : c <;> simp [h]
theorem WP_itb {α : Type} {c : Bool} {x y : Option (α × Hh)} {Q : α → Hh → Prop} : WP (if c = true then x else y) Q ↔ (c = true → WP x Q) ∧ (c = false → WP y Q) := by
  cases c <;> simp
section
variable {e : En} {h : Hh}
theorem cmpD_eqss {a b : Str} : cmpD .Eq (.str a) (.str b) h = some (a == b) := rfl
theorem cmpD_ness {a b : Str} : cmpD .NotEq (.str a) (.str b) h = some (!(a == b)) := rfl
theorem cmpD_eqbb {a b : Bool} : cmpD .Eq (.bl a) (.bl b) h = some (a == b) := rfl
theorem cmpD_nebb {a b : Bool} : cmpD .NotEq (.bl a) (.bl b) h = some (!(a == b)) := rfl
def isNon : D → Bool
  | .non => true
  | _ => false
theorem cmpD_is {x : D} : cmpD .Is x .non h = some (isNon x) := by cases x <;> rfl
theorem cmpD_isnot {x : D} : cmpD .IsNot x .non h = some (!isNon x) := by cases x <;> rfl
theorem isTrueD_bl {b : Bool} : isTrueD h (.bl b) = some b := rfl
theorem denC_nil : denC [] e h = some (true, h) := by rw [denC]
theorem denC_one {c : Te} : denC [c] e h = denT c e h := by rw [denC]
theorem den_var {i : Nat} : den (.var i) e h = getVar e i h := by rw [den]
theorem den_cst {d : D} : den (.cst d) e h = some (d, h) := by rw [den]
theorem den_gcst {x : Str} {d : D} : den (.gcst x d) e h = some (d, h) := by rw [den]
theorem den_bin {o : Operator} {a b : Ex} : den (.bin o a b) e h = bindM (den a e h) fun x h1 => bindM (den b e h1) fun y h2 => binD o x y h2 := by rw [den]
theorem den_neg {a : Ex} : den (.neg a) e h = bindM (den a e h) fun x h1 => (match x with | .int i => some (.int (-i), h1) | _ => none) := by rw [den] <;> rfl
theorem den_nt {a : Ex} : den (.nt a) e h = bindM (den a e h) fun x h1 => opt h1 ((isTrueD h1 x).map fun b => .bl (!b)) := by rw [den]
theorem den_and2 {a b : Ex} : den (.and2 a b) e h = bindM (den a e h) fun x h1 => (match isTrueD h1 x with | none => none | some true => den b e h1 | some false => some (x, h1)) := by rw [den] <;> rfl
theorem den_or2 {a b : Ex} : den (.or2 a b) e h = bindM (den a e h) fun x h1 => (match isTrueD h1 x with | none => none | some true => some (x, h1) | some false => den b e h1) := by rw [den] <;> rfl
theorem den_cmp {o : CmpOp} {a b : Ex} : den (.cmp o a b) e h = bindM (den a e h) fun x h1 => bindM (den b e h1) fun y h2 => opt h2 ((cmpD o x y h2).map .bl) := by rw [den]
theorem den_chn {o p : CmpOp} {a b c : Ex} : den (.chn o p a b c) e h = bindM (den a e h) fun x h1 => bindM (den b e h1) fun y h2 => (match cmpD o x y h2 with | none => none | some false => some (.bl false, h2) | some true => bindM (den c e h2) fun z h3 => opt h3 ((cmpD p y z h3).map .bl)) := by rw [den] <;> rfl
theorem den_ife {t : Te} {a b : Ex} : den (.ife t a b) e h = bindM (denT t e h) fun c h1 => if c = true then den a e h1 else den b e h1 := by rw [den]
theorem den_call {x : Str} {g : Fn} {es : List Ex} : den (.call x g es) e h = bindM (dens es e h) fun xs h1 => g xs h1 := by rw [den]
theorem den_blt {b : Bf} {es : List Ex} : den (.blt b es) e h = bindM (dens es e h) fun xs h1 => semB b xs h1 := by rw [den]
theorem den_mth {m : Mt} {o : Ex} {es : List Ex} : den (.mth m o es) e h = bindM (den o e h) fun x h1 => bindM (dens es e h1) fun xs h2 => if kindD h2 x = kindD h1 x then semM m x xs h2 else none := by rw [den]
theorem den_isi {a : Ex} {ts : List Ty} : den (.isi a ts) e h = bindM (den a e h) fun x h1 => opt h1 ((isisD h1 x ts).map .bl) := by rw [den]
theorem den_idx {a i : Ex} : den (.idx a i) e h = bindM (den a e h) fun x h1 => bindM (den i e h1) fun y h2 => opt h2 (idxD x y h2) := by rw [den]
/-- a slice's bound as it is told -/
def bound : List D → Option (Option Int)
  | [] => some none
  | [.int i] => some (some i)
  | _ => none
theorem den_slc {a : Ex} {lo hi : List Ex} : den (.slc a lo hi) e h = bindM (den a e h) fun x h1 => bindM (dens lo e h1) fun l h2 => bindM (dens hi e h2) fun u h3 => (match l, u with
      | [], [] => slcD x none none h3
      | [.int i], [] => slcD x (some i) none h3
      | [], [.int j] => slcD x none (some j) h3
      | [.int i], [.int j] => slcD x (some i) (some j) h3
      | _, _ => none) := by rw [den] <;> rfl
theorem den_lst {es : List Ex} : den (.lst es) e h = bindM (dens es e h) fun xs h1 => newL xs h1 := by rw [den]
theorem den_tup {es : List Ex} : den (.tup es) e h = bindM (dens es e h) fun xs h1 => newT xs h1 := by rw [den]
theorem den_dic : den (.dic [] []) e h = some (.ref h.length, h ++ [.dct 0 []]) := by rw [den]
theorem kindD_str {s : Str} : kindD h (.str s) = 3 := rfl
theorem kindD_tup {s : List D} : kindD h (.tup s) = 4 := rfl
theorem kindD_lst {n : Nat} {xs : List D} (x : h[n]? = some (.lst xs)) : kindD h (.ref n) = 1 := by simp only [kindD, x]
theorem kindD_dct {n ep : Nat} {xs : List (D × D)} (x : h[n]? = some (.dct ep xs)) : kindD h (.ref n) = 2 := by simp only [kindD, x]
theorem cmpD_eqii {i j : Int} : cmpD .Eq (.int i) (.int j) h = some (i == j) := rfl
theorem cmpD_neii {i j : Int} : cmpD .NotEq (.int i) (.int j) h = some (!(i == j)) := rfl
theorem cmpD_lt {i j : Int} : cmpD .Lt (.int i) (.int j) h = some (decide (i < j)) := rfl
theorem cmpD_gt {i j : Int} : cmpD .Gt (.int i) (.int j) h = some (decide (j < i)) := rfl
theorem cmpD_le {i j : Int} : cmpD .LtE (.int i) (.int j) h = some (decide (i ≤ j)) := rfl
theorem cmpD_ge {i j : Int} : cmpD .GtE (.int i) (.int j) h = some (decide (j ≤ i)) := rfl
end
theorem W_newT {xs : List D} {h : Hh} {Q : D → Hh → Prop} : WP (newT xs h) Q ↔ xs.length ≤ sizeLine ∧ Q (.tup xs) h := by
  simp only [newT]; by_cases x : xs.length ≤ sizeLine <;> simp [x]
theorem W_adds {a b : Str} {h : Hh} {Q : D → Hh → Prop} : WP (binD .Add (.str a) (.str b) h) Q ↔ a.length + b.length ≤ sizeLine ∧ Q (.str (a ++ b)) h := by
  simp only [binD]; by_cases x : a.length + b.length ≤ sizeLine <;> simp [x]
/-- x.append(a) -/
theorem W_app {o a : Ex} {e : En} {h : Hh} {Q : D → Hh → Prop} (x : WP (den o e h) fun d h1 => ∃ n, d = .ref n ∧ (∃ zs, h1[n]? = some (.lst zs)) ∧ WP (den a e h1) fun v h2 => ∃ ys, h2[n]? = some (.lst ys) ∧ ys.length < sizeLine ∧ Q .non (h2.set n (.lst (ys ++ [v])))) :
    WP (den (.mth .append o [a]) e h) Q := by
  obtain ⟨d, h1, e1, n, rfl, ⟨zs, ez⟩, v, h2, e2, ys, ey, ly, q⟩ := x
  refine ⟨.non, _, ?_, q⟩
  simp only [den, dens, e1, e2, bindM_some, kindD, ez, ey, if_true, semM, if_pos ly]
section
variable {h : Hh} {n : Nat} {xs : List D} {k : Int} {v : D}
theorem idx_ref (e : h[n]? = some (.lst xs)) (h0 : 0 ≤ k) (h1 : k < xs.length) : ∃ x, idxD (.ref n) (.int k) h = some x ∧ xs[k.toNat]? = some x := by
  have kl : k.toNat < xs.length := by omega
  refine ⟨xs[k.toNat], ?_, List.getElem?_eq_getElem kl⟩
  simp only [idxD, e, atI, ixN, if_pos h0, if_pos h1, Option.bind_some, List.getElem?_eq_getElem kl]
theorem idx_tup (h0 : 0 ≤ k) (h1 : k < xs.length) : ∃ x, idxD (.tup xs) (.int k) h = some x ∧ xs[k.toNat]? = some x := by
  have kl : k.toNat < xs.length := by omega
  refine ⟨xs[k.toNat], ?_, List.getElem?_eq_getElem kl⟩
  simp only [idxD, atI, ixN, if_pos h0, if_pos h1, Option.bind_some, List.getElem?_eq_getElem kl]
theorem set_ref (e : h[n]? = some (.lst xs)) (h0 : 0 ≤ k) (h1 : k < xs.length) : setD (.ref n) (.int k) v h = some (h.set n (.lst (xs.set k.toNat v))) := by
  simp only [setD, e, ixN, if_pos h0, if_pos h1, Option.map_some]
theorem listOf_ref (e : h[n]? = some (.lst xs)) : listOf h (.ref n) = some xs := by simp only [listOf, e]
theorem seqOf_ref (e : h[n]? = some (.lst xs)) : seqOf h (.ref n) = some xs := by simp only [seqOf, e]
theorem lenD_ref (e : h[n]? = some (.lst xs)) : lenD h (.ref n) = some (.int xs.length) := by simp only [lenD, e]
end
theorem sIx_none {n d : Nat} : HT.sIx n d none = d := rfl
theorem sIx_pos {n d : Nat} {k : Int} (h0 : 0 ≤ k) : HT.sIx n d (some k) = min k.toNat n := by
  show (if k < 0 then _ else _) = _
  rw [if_neg (by omega)]
theorem cutD_map {α β : Type} (f : α → β) (xs : List α) (lo hi : Option Int) : cutD (xs.map f) lo hi = (cutD xs lo hi).map f := by
  simp only [cutD, List.map_drop, List.map_take, List.length_map]
theorem cutD_length {α : Type} (xs : List α) (lo hi : Option Int) (a : HT.sIx xs.length 0 lo ≤ xs.length) (b : HT.sIx xs.length xs.length hi ≤ xs.length) : (cutD xs lo hi).length = HT.sIx xs.length xs.length hi - HT.sIx xs.length 0 lo := by
  simp only [cutD, List.length_take, List.length_drop]
  omega
theorem intsFrom_length (n : Nat) : ∀ lo : Int, (intsFrom lo n).length = n := by
  induction n with
  | zero => exact fun _ => rfl
  | succ n ih => exact fun lo => by rw [intsFrom, List.length_cons, ih]
theorem intsFrom_get (n : Nat) : ∀ (lo : Int) (i : Nat), i < n → (intsFrom lo n)[i]? = some (.int (lo + i)) := by
  induction n with
  | zero => intro _ _ h; omega
  | succ n ih =>
    intro lo i h
    cases i with
    | zero => simp [intsFrom]
    | succ i =>
      rw [intsFrom, List.getElem?_cons_succ, ih _ _ (by omega)]
      congr 2
      omega
theorem range1 {j : Int} (h0 : 0 ≤ j) (h1 : j < 4611686018427387904) : rangeD [.int j] = some (.sta (intsFrom 0 j.toNat)) := by
  simp only [rangeD]
  rw [if_pos (by constructor <;> omega)]
theorem at_sta {h : Hh} {xs : List D} {i : Nat} : (Sv.sta xs).at h i = some xs[i]? := rfl
theorem len_sta {h : Hh} {xs : List D} : (Sv.sta xs).len h = xs.length := rfl
theorem at_end {h : Hh} {xs : List D} : (Sv.sta xs).at h xs.length = some none := by rw [at_sta, List.getElem?_eq_none (Nat.le_refl _)]
theorem numb_length : ∀ (xs : List D) (i : Nat), (numb i xs).length = xs.length
  | [], _ => rfl
  | _ :: xs, i => by rw [numb, List.length_cons, List.length_cons, numb_length xs]
theorem numb_at : ∀ (xs : List D) (k i : Nat), (numb k xs)[i]? = xs[i]?.map fun x => D.tup [.int ((k + i : Nat) : Int), x]
  | [], _, _ => by simp [numb]
  | x :: xs, k, 0 => by simp [numb]
  | x :: xs, k, i + 1 => by
    rw [numb, List.getElem?_cons_succ, List.getElem?_cons_succ, numb_at xs, Nat.add_right_comm, Nat.add_assoc]
end Z
namespace Zp
open PySem L2 Z
local macro_rules | `(tactic| walk_at "ev") => `(tactic| simp only [W_asg, W_ret, W_ifs, W_nil, W_sub', W_par, W_expr, W_fr, denI, denS, List.map_cons, List.map_nil, denT, den, dens, getVar, WP_bind, WP_some, List.replicate, Nat.reduceSub, List.cons_append, List.nil_append, List.getElem?_cons_zero, List.getElem?_cons_succ, W_add, W_mul, W_mod, W_fdiv, W_pow, WP_opt, semB, intD_i, Option.map_some, List.set_cons_zero, List.set_cons_succ, Option.some.injEq, exists_eq_left', true_and, and_true, Nat.zero_add, Nat.reduceAdd, aft_nx, aft_ret, aftL_nx])
theorem open_ok (ns : List Int) (hn : ns.length ≤ 63) : WP (F_law_open [.rol (ns.map .int)] []) fun d h' => d = .ref 3 ∧ h'.length = 4 ∧ Pen 0 3 1 h' := by
  refine WP_run rfl ?_
  unfold b_law_open
  have sz := PySem.sizeLine_eq
  have l1 : (cutD ns none (some 12)).length = min 12 ns.length := by
    rw [cutD_length _ _ _ (by rw [sIx_none]; omega) (by rw [sIx_pos (by decide)]; omega), sIx_none, sIx_pos (by decide)]; rfl
  have l2 : (cutD ns (some 12) (some 63)).length = ns.length - min 12 ns.length := by
    rw [cutD_length _ _ _ (by rw [sIx_pos (by decide)]; omega) (by rw [sIx_pos (by decide)]; omega), sIx_pos (by decide), sIx_pos (by decide)]
    show min 63 ns.length - min 12 ns.length = _
    omega
  walk_at "ev"
  simp only [slcD, WP_some, lstM, List.length_nil, List.nil_append, Z.listOf, List.getElem?_cons_zero, Option.bind_some, W_newL, cutD_map, enumD, List.length_map, l1, List.length_cons, List.cons_append, Nat.reduceAdd, List.length_append, Option.some.injEq, exists_eq_left', List.getElem?_cons_succ]
  refine ⟨by omega, ?_⟩
  refine fr_ok (n := ns.length - min 12 ns.length) (I := fun i e h => ∃ (k c : Option D) (cs : List Int), e = [some (.rol (ns.map .int)), some (.ref 1), k, c] ∧ h.length = 3 ∧ h[1]? = some (.lst (cs.map .int)) ∧ cs.length = min 12 ns.length ∧ h[2]? = some (.lst ((cutD ns (some 12) (some 63)).map .int))) ?_ ?_ ?_ ?_
  · simp only [Sv.len, lstAt, List.getElem?_cons_succ, List.getElem?_cons_zero, Option.getD_some, List.length_map, l2]
  · exact ⟨_, _, _, rfl, rfl, rfl, l1, rfl⟩
  · rintro i _ h hi ⟨k, c, cs, rfl, hl, e1, hc, e2⟩
    have il : i < (cutD ns (some 12) (some 63)).length := by omega
    have j0 : (0 : Int) ≤ (i : Int) % 12 := by omega
    have j1 : (i : Int) % 12 < (cs.map D.int).length := by rw [List.length_map]; omega
    refine ⟨_, _, by simp only [Sv.at, lstAt, e2, Option.map_some, List.getElem?_map, List.getElem?_eq_getElem il]; rfl, by simp only [assignD, sets, List.set_cons_succ, List.set_cons_zero]; rfl, ?_⟩
    obtain ⟨x, ex, ey⟩ := idx_ref e1 j0 j1
    rw [List.getElem?_map] at ey
    obtain ⟨z, ez, rfl⟩ := Option.map_eq_some_iff.mp ey
    have j2 : (0 : Int) < 12 := by decide
    walk_at "ev"
    simp only [Int.zero_add, Nat.zero_add, ex, Option.some.injEq, exists_eq_left', j2, true_and, W_add, set_ref e1 j0 j1, WP_some, W_nil, aftL_nx]
    refine ⟨_, _, cs.set ((i : Int) % 12).toNat (z + (cutD ns (some 12) (some 63))[i]), rfl, by simpa using hl, ?_, by simpa using hc, ?_⟩
    · rw [get_set e1, List.map_set]
    · rw [get_ne (by decide)]; exact e2
  · rintro _ h ⟨k, c, cs, rfl, hl, e1, hc, e2⟩
    refine ⟨?_, ?_⟩
    · simp only [Sv.at, lstAt, e2, Option.map_some]
      rw [List.getElem?_eq_none (by rw [List.length_map]; omega)]
      rfl
    · walk_at "ev"
      have g : gc 0 [D.ref h.length] (h ++ [O.lst [D.ref 1, .int 0, .int 0]]) = h ++ [O.lst [D.ref 1, .int 0, .int 0]] := gc_ref rfl
      rw [g]
      refine ⟨by omega, by rw [hl], by simp [hl], cs, 0, 0, get_at hl.symm, get_old e1, by decide, by decide, by decide⟩
end Zp
set_option Elab.async false
set_option linter.all false
set_option autoImplicit false
set_option maxRecDepth 100000
set_option maxHeartbeats 4000000
namespace Zp
open PySem L2 Z
local macro_rules | `(tactic| walk_at "ev") => `(tactic| simp only [W_asg, W_ret, W_ifs, W_nil, W_sub', W_par, W_asgt, W_expr, W_fr, W_brk, W_cnt, W_pas, denI, List.map_cons, List.map_nil, denT, den_var, den_cst, den_gcst, den_bin, den_neg, den_nt, den_and2, den_or2, den_cmp, den_chn, den_ife, den_call, den_blt, den_mth, den_isi, den_idx, den_slc, den_lst, den_tup, den_dic, dens, getVar, WP_bind, WP_some, WP_ifn, WP_itb, wipeE, true_implies, false_implies, reduceCtorEq, denC_nil, denC_one, cmpD_eqss, isisD, isiD, isTrueD_bl, Bool.or_self, Bool.or_false, Bool.or_true, Bool.false_eq_true, Bool.not_true, Bool.not_false, BEq.rfl, cmpD_ness, cmpD_eqbb, cmpD_nebb, cmpD_is, cmpD_isnot, isNon, intsFrom_length, len_sta, List.replicate, Nat.reduceSub, List.cons_append, List.nil_append, List.getElem?_cons_zero, List.getElem?_cons_succ, W_add, W_sub, W_mul, W_mod, W_fdiv, W_pow, W_adds, W_newL, W_newT, WP_opt, semB, intD_i, Option.map_some, List.set_cons_zero, List.set_cons_succ, Option.some.injEq, exists_eq_left', true_and, and_true, Nat.zero_add, Nat.reduceAdd, aft_nx, aft_ret, aft_brk, aft_cnt, aftL_nx, aftL_ret, aftL_brk, aftL_cnt, D.tup.injEq, sets, kindD_str, kindD_tup, cmpD_eqii, cmpD_neii, cmpD_lt, cmpD_gt, cmpD_le, cmpD_ge])
local macro_rules | `(tactic| walk_at "fit") => `(tactic| (simp only [List.length_cons, List.length_nil, List.length_append, List.length_map, PySem.sizeLine_eq] <;> omega))
def b_law_alphabet (g_law_take : Fn) (g_law_one_of : Fn) : List Sm :=
   [.par [1, 2] [.cst (.str "abcdefghijklmnopqrstuvwxyz"), .call "_law_take" g_law_take [.var 0, .cst (.int 26)]],
    .ret (.slc (.bin .Add (.var 1) (.var 1)) [.var 2] [.bin .Add (.var 2) (.call "_law_one_of" g_law_one_of [.var 0, .lst [.cst (.int 1), .cst (.int 2), .cst (.int 3), .cst (.int 3), .cst (.int 5)]])])]
def F_law_alphabet : Fn := runDef 3 1 (b_law_alphabet F_law_take F_law_one_of)

/-- letters to draw from -/
def Alpha (z : Str) : Prop := z.cps.toList ≠ [] ∧ z.cps.toList.length ≤ 5 ∧ ∀ c ∈ z.cps.toList, 97 ≤ c ∧ c ≤ 122
theorem alpha_dec : ∀ f ∈ List.range 26, ∀ w ∈ [1, 2, 3, 5], ((cutS ((("abcdefghijklmnopqrstuvwxyz" : Str)) ++ (("abcdefghijklmnopqrstuvwxyz" : Str))) (some (f : Nat)) (some ((f + w : Nat) : Int))).cps.toList ≠ [] ∧ (cutS ((("abcdefghijklmnopqrstuvwxyz" : Str)) ++ (("abcdefghijklmnopqrstuvwxyz" : Str))) (some (f : Nat)) (some ((f + w : Nat) : Int))).cps.toList.length ≤ 5 ∧ ∀ c ∈ (cutS ((("abcdefghijklmnopqrstuvwxyz" : Str)) ++ (("abcdefghijklmnopqrstuvwxyz" : Str))) (some (f : Nat)) (some ((f + w : Nat) : Int))).cps.toList, 97 ≤ c ∧ c ≤ 122) := by
  decide +kernel
theorem alphabet_ok {N p c : Nat} {h : Hh} (P : Pen N p c h) (hN : N < 999999000) : WP (F_law_alphabet [.ref p] h) fun d h' => ∃ z, d = .str z ∧ Alpha z ∧ Pen (N + 2) p c h' ∧ Kp [p] h h' := by
  refine WP_run rfl ?_
  unfold b_law_alphabet
  have sz := PySem.sizeLine_eq
  walk_at "ev"
  refine (take_ok P (by omega) (by decide) (by decide)).mono ?_
  rintro _ h1 ⟨f, rfl, f0, f1, P1, K1⟩
  refine ⟨by rw [sz]; decide +kernel, by rw [sz]; decide, ?_⟩
  have lt := P1.lt
  refine (one_of_lst P1.more (by omega) (by omega) get_end (by decide) (by decide)).mono ?_
  rintro w h2 ⟨hw, P2, K2⟩
  have e : ∃ k ∈ [1, 2, 3, 5], w = .int ((k : Nat) : Int) := by
    simp only [List.mem_cons, List.not_mem_nil, or_false] at hw
    rcases hw with rfl | rfl | rfl | rfl | rfl
    · exact ⟨1, by decide, rfl⟩
    · exact ⟨2, by decide, rfl⟩
    · exact ⟨3, by decide, rfl⟩
    · exact ⟨3, by decide, rfl⟩
    · exact ⟨5, by decide, rfl⟩
  obtain ⟨k, hk, rfl⟩ := e
  have ha := alpha_dec f.toNat (List.mem_range.mpr (by omega)) k hk
  rw [W_add]
  have ef : ((f.toNat + k : Nat) : Int) = f + k := by omega
  have ef2 : ((f.toNat : Nat) : Int) = f := by omega
  rw [ef, ef2] at ha
  simp only [slcD]
  rw [if_pos (by rw [sz]; decide +kernel)]
  simp only [WP_some]
  have lt0 := P.lt
  refine ⟨_, rfl, ha, P2.gc lt0.1 lt0.2.1, ((K1.trans Kp.new).trans K2).gc'⟩
end Zp
set_option Elab.async false
set_option linter.all false
set_option autoImplicit false
set_option maxRecDepth 100000
set_option maxHeartbeats 4000000
namespace Z
open PySem L2 Builtin Builtin.Str
theorem join_nil : ∀ zs : List Str, (Txt.join "" zs).cps.toList = zs.flatMap fun z => z.cps.toList := by
  intro zs
  show (glued "" zs).cps.toList = _
  rw [StrLaws.glued_eq_join]
  have e0 : ∀ a b : Str, (a ++ b).cps.toList = a.cps.toList ++ b.cps.toList := fun a b => by
    show (a.cps ++ b.cps).toList = _
    simp
  have e1 : ("" : Str).cps.toList = [] := by decide
  induction zs with
  | nil => rfl
  | cons z zs ih =>
    cases zs with
    | nil => simp [Str.join]
    | cons y r =>
      rw [List.flatMap_cons, ← ih]
      show (z ++ ("" : Str) ++ Str.join "" (y :: r)).cps.toList = _
      rw [e0, e0, e1, List.append_nil]
theorem strsOf_map : ∀ zs : List Str, strsOf (zs.map .str) = some zs
  | [] => rfl
  | z :: zs => by rw [List.map_cons, strsOf, strsOf_map zs]; rfl
theorem strip_dots {a : Str} (x : ∀ c ∈ a.cps.toList, c = 46) : Txt.stripChars a "." = "" := by
  have tw : ∀ l : List Nat, (∀ c ∈ l, c = 46) → l.takeWhile (("." : Str).cps.contains) = l := by
    intro l
    induction l with
    | nil => exact fun _ => rfl
    | cons c l ih =>
      intro h
      have e := h c (by simp)
      subst e
      rw [List.takeWhile_cons, if_pos (by decide +kernel), ih fun c m => h c (by simp [m])]
  have lo : stripLo (("." : Str).cps.contains) true a = a.length := by
    show (if true = true then _ else _) = _
    rw [if_pos rfl, tw _ x]
    rfl
  show Txt.stripBy _ true true a = _
  unfold Txt.stripBy
  split
  · rename_i h
    simp only [stripSame, Bool.and_eq_true, beq_iff_eq, lo] at h
    have : a.cps = #[] := Array.size_eq_zero_iff.mp h.1
    show (⟨a.cps⟩ : Str) = _
    rw [this]
    decide
  · simp only [stripped, lo, strSub]
    have : a.cps.extract a.length (stripHi (("." : Str).cps.contains) true a a.length) = #[] := by
      refine Array.size_eq_zero_iff.mp ?_
      rw [Array.size_extract]
      show min _ a.cps.size - a.cps.size = 0
      omega
    rw [this]
    decide
theorem sum_le {k : Nat} : ∀ {zs : List Str}, (∀ z ∈ zs, z.length ≤ k) → (zs.map (·.length)).sum ≤ zs.length * k
  | [], _ => by simp
  | z :: zs, h => by
    have a := h z (by simp)
    have b := sum_le (k := k) (zs := zs) fun y m => h y (by simp [m])
    simp only [List.map_cons, List.sum_cons, List.length_cons, Nat.succ_mul]
    omega
theorem W_join0 {d : D} {zs : List Str} {h : Hh} {Q : D → Hh → Prop} (e : seqOf h d = some (zs.map .str)) (l : (zs.map (·.length)).sum ≤ sizeLine) (q : Q (.str (Txt.join "" zs)) h) : WP (semM .join (.str "") [d] h) Q := by
  have e1 : ("" : Str).length = 0 := by decide
  simp only [semM, e, Option.bind_some, strsOf_map, e1, Nat.mul_zero, Nat.add_zero, if_pos l, WP_some]
  exact q
theorem W_strip {a b : Str} {h : Hh} {Q : D → Hh → Prop} (l : a.length ≤ sizeLine) (q : Q (.str (Txt.stripChars a b)) h) : WP (semM .strip (.str a) [.str b] h) Q := by
  simp only [semM, if_pos l, WP_some]
  exact q
theorem W_tupL {n : Nat} {xs : List D} {h : Hh} {Q : D → Hh → Prop} (e : h[n]? = some (.lst xs)) (l : xs.length ≤ sizeLine) (q : Q (.tup xs) h) : WP (tupM (.ref n) h) Q := by
  simp only [tupM, seqOf_ref e, Option.bind_some, W_newT]
  exact ⟨l, q⟩
theorem str_len {z : Str} : z.length = z.cps.toList.length := by simp [Str.length]
theorem W_append {n : Nat} {ys : List D} {v : D} {h : Hh} {Q : D → Hh → Prop} (e : h[n]? = some (.lst ys)) (l : ys.length < sizeLine) (q : Q .non (h.set n (.lst (ys ++ [v])))) : WP (semM .append (.ref n) [v] h) Q := by
  simp only [semM, e, if_pos l, WP_some]
  exact q
theorem kindD_same {h h' : Hh} {n : Nat} {xs ys : List D} (x : h[n]? = some (.lst xs)) (y : h'[n]? = some (.lst ys)) : kindD h' (.ref n) = kindD h (.ref n) := by rw [kindD_lst x, kindD_lst y]
end Z
namespace Zp
open PySem L2 Z
local macro_rules | `(tactic| walk_at "ev") => `(tactic| simp only [W_asg, W_ret, W_ifs, W_nil, W_sub', W_par, W_asgt, W_expr, W_fr, W_brk, W_cnt, W_pas, denI, List.map_cons, List.map_nil, denT, den_var, den_cst, den_gcst, den_bin, den_neg, den_nt, den_and2, den_or2, den_cmp, den_chn, den_ife, den_call, den_blt, den_mth, den_isi, den_idx, den_slc, den_lst, den_tup, den_dic, dens, getVar, WP_bind, WP_some, WP_ifn, WP_itb, wipeE, true_implies, false_implies, reduceCtorEq, denC_nil, denC_one, cmpD_eqss, isisD, isiD, isTrueD_bl, Bool.or_self, Bool.or_false, Bool.or_true, Bool.false_eq_true, Bool.not_true, Bool.not_false, BEq.rfl, cmpD_ness, cmpD_eqbb, cmpD_nebb, cmpD_is, cmpD_isnot, isNon, intsFrom_length, len_sta, List.replicate, Nat.reduceSub, List.cons_append, List.nil_append, List.getElem?_cons_zero, List.getElem?_cons_succ, W_add, W_sub, W_mul, W_mod, W_fdiv, W_pow, W_adds, W_newL, W_newT, WP_opt, semB, intD_i, Option.map_some, List.set_cons_zero, List.set_cons_succ, Option.some.injEq, exists_eq_left', true_and, and_true, Nat.zero_add, Nat.reduceAdd, aft_nx, aft_ret, aft_brk, aft_cnt, aftL_nx, aftL_ret, aftL_brk, aftL_cnt, D.tup.injEq, sets, kindD_str, kindD_tup, cmpD_eqii, cmpD_neii, cmpD_lt, cmpD_gt, cmpD_le, cmpD_ge])
local macro_rules | `(tactic| walk_at "fit") => `(tactic| (simp only [List.length_cons, List.length_nil, List.length_append, List.length_map, PySem.sizeLine_eq] <;> omega))
def b_law_draw_picture (g_law_one_of : Fn) (g_law_take : Fn) : List Sm :=
   [.asg (.tp [4, 5]) (.tup [.call "_law_one_of" g_law_one_of [.var 0, .lst [.cst (.int 2), .cst (.int 5), .cst (.int 99)]], .lst []]),
    .fr (.nm 6) (.rng [.var 1]) [.asg (.nm 7) (.lc [("j", 8)] (.nm 8) (.rng [.var 2]) [] (.ife (.cm .Eq (.call "_law_take" g_law_take [.var 0, .var 4]) (.cst (.int 0))) (.cst (.str ".")) (.call "_law_one_of" g_law_one_of [.var 0, .blt .list [.var 3]]))),
    .ex (.mth .append (.var 5) [.mth .join (.cst (.str "")) [.var 7]])],
    .ifs (.cm .Eq (.mth .strip (.mth .join (.cst (.str "")) [.var 5]) [.cst (.str ".")]) (.cst (.str ""))) [.sub (.var 5) (.cst (.int 0)) (.bin .Add (.idx (.var 3) (.cst (.int 0))) (.slc (.idx (.var 5) (.cst (.int 0))) [.cst (.int 1)] []))] [],
    .ret (.blt .tuple [.var 5])]
def F_law_draw_picture : Fn := runDef 9 4 (b_law_draw_picture F_law_one_of F_law_take)

/-- a sign of a picture -/
def Sg (c : Nat) : Prop := c = 46 ∨ 97 ≤ c ∧ c ≤ 122
def Line (C : Nat) (z : Str) : Prop := z.cps.toList.length = C ∧ ∀ c ∈ z.cps.toList, Sg c
def Pic (R C : Nat) (pic : List Str) : Prop := pic.length = R ∧ (∀ z ∈ pic, Line C z) ∧ ∃ z ∈ pic, ∃ c ∈ z.cps.toList, c ≠ 46
abbrev sgn (c : Nat) : D := .str ⟨#[c]⟩
theorem picture_ok {N p c R C : Nat} {z : Str} {h : Hh} (P : Pen N p c h) (hN : N < 999999000) (hR : 1 ≤ R) (hR8 : R ≤ 8) (hC : 1 ≤ C) (hC8 : C ≤ 8) (A : Alpha z) :
    WP (F_law_draw_picture [.ref p, .int R, .int C, .str z] h) fun d h' => ∃ pic, d = .tup (pic.map .str) ∧ Pic R C pic ∧ Pen (N + 200) p c h' ∧ Kp [p] h h' := by
  refine WP_run rfl ?_
  unfold b_law_draw_picture
  have sz := PySem.sizeLine_eq
  have lt := P.lt
  walk_at "ev"
  refine ⟨by walk_at "fit", ?_⟩
  refine (one_of_lst P.more (by omega) (by omega) get_end (by decide) (by decide)).mono ?_
  rintro w h1 ⟨hw, P1, K1⟩
  have e : ∃ w' : Int, w = .int w' ∧ 0 < w' ∧ w' < 100 := by
    simp only [List.mem_cons, List.not_mem_nil, or_false] at hw
    rcases hw with rfl | rfl | rfl <;> exact ⟨_, rfl, by decide, by decide⟩
  obtain ⟨w', rfl, w0, w1⟩ := e
  refine ⟨by walk_at "fit", by walk_at "fit", _, range1 (by omega) (by omega), ?_⟩
  have K0 : Kp [p] h (h1 ++ [O.lst []]) := ((Kp.new (T := [_])).trans K1).more
  generalize hf : h1.length = f
  have hfh : h.length ≤ f := by rw [← hf]; exact ((Kp.new (T := [_])).trans K1).len
  refine fr_ok (n := R) (I := fun i e g => ∃ (k s j : Option D) (lines : List Str), e = [some (.ref p), some (.int R), some (.int C), some (.str z), some (.int w'), some (.ref f), k, s, j] ∧ g[f]? = some (.lst (lines.map .str)) ∧ lines.length = i ∧ (∀ z ∈ lines, Line C z) ∧ Pen (N + 1 + 16 * i) p c g ∧ Kp [p] h g) ?_ ?_ ?_ ?_
  · rw [len_sta, intsFrom_length]; omega
  · exact ⟨_, _, _, [], rfl, by rw [← hf]; exact get_end, rfl, by simp, P1.more, K0⟩
  · rintro i _ g hi ⟨k, s, j, lines, rfl, ef, el, ln, Pg, Kg⟩
    refine ⟨_, _, by rw [at_sta, intsFrom_get _ _ _ (by omega)], rfl, ?_⟩
    walk_at "ev"
    refine W_lc ?_
    walk_at "ev"
    refine ⟨_, range1 (by omega) (by omega), ?_⟩
    refine ⟨C, fun j acc g2 => ∃ cs : List Nat, acc = cs.map sgn ∧ cs.length = j ∧ (∀ c ∈ cs, Sg c) ∧ Pen (N + 1 + 16 * i + 2 * j) p c g2 ∧ Kp [p] h g2 ∧ g2[f]? = some (.lst (lines.map .str)), by rw [len_sta, intsFrom_length]; omega, by walk_at "fit", ?_, ?_, ?_, ?_⟩
    · intro g2 L
      have fl := lt_of_get ef
      have pl := Pg.lt
      exact ⟨[], rfl, rfl, by simp, L.pen Pg pl.1 pl.2.1, L.kp Kg Kg.len, L.get ef fl⟩
    · rintro j acc g2 hj ⟨cs, rfl, cl, cg, P2, K2, e2⟩ ha hal
      refine ⟨_, _, by rw [at_sta, intsFrom_get _ _ _ (by omega)], rfl, ?_⟩
      walk_at "ev"
      have gl := ef
      have fl := lt_of_get ef
      have pl := Pg.lt
      refine (take_ok P2 (by omega) (by omega) (by omega)).mono ?_
      rintro _ g3 ⟨r, rfl, _, _, P3, K3⟩
      have ha3 := K3.get ha (by simp; omega)
      have e3 := K3.get e2 (by simp; omega)
      simp only [cmpD_eqii, Option.some.injEq, exists_eq_left']
      refine ⟨fun _ => ⟨ha3, fun g5 L => ⟨cs ++ [46], by rw [List.map_append]; rfl, by simp [cl], ?_, (L.pen P3 pl.1 pl.2.1).mono (by omega), L.kp (K2.trans K3) Kg.len, L.get e3 fl⟩⟩, fun _ => ?_⟩
      · intro x hx
        rcases List.mem_append.mp hx with hx | hx
        · exact cg x hx
        · exact .inl (by simpa using hx)
      · simp only [lstM, Z.listOf, Option.bind_some, W_newL]
        have zl : (signs z).length = z.cps.toList.length := by simp [signs]
        refine ⟨by have := A.2.1; omega, ?_⟩
        refine (one_of_lst P3.more (by omega) (by have := P3.lt; omega) get_end (by have := A.1; rw [zl]; exact List.length_pos_iff.mpr this) (by have := A.2.1; omega)).mono ?_
        rintro y g4 ⟨hy, P4, K4⟩
        have kk : Kp [p] g3 g4 := Kp.new.trans K4
        obtain ⟨q, hq, rfl⟩ := List.mem_map.mp hy
        have aq := A.2.2 q hq
        refine ⟨kk.get ha3 (by simp; omega), fun g5 L => ⟨cs ++ [q], by rw [List.map_append]; rfl, by simp [cl], ?_, (L.pen P4 pl.1 pl.2.1).mono (by omega), L.kp ((K2.trans K3).trans kk) Kg.len, L.get (kk.get e3 (by simp; omega)) fl⟩⟩
        intro x hx
        rcases List.mem_append.mp hx with hx | hx
        · exact cg x hx
        · have : x = q := by simpa using hx
          subst this
          exact .inr aq
    · rintro acc g2 _ _
      rw [at_sta, List.getElem?_eq_none (by rw [intsFrom_length]; omega)]
    · rintro acc g2 ⟨cs, rfl, cl, cg, P2, K2, e2⟩ ha _
      have fl := lt_of_get ef
      have pl := Pg.lt
      have sq : seqOf g2 (.ref g.length) = some ((cs.map fun c => (⟨#[c]⟩ : Str)).map .str) := by rw [seqOf_ref ha, List.map_map]; rfl
      refine W_join0 sq (Nat.le_trans (sum_le (k := 1) (by
        intro z hz
        obtain ⟨c, _, rfl⟩ := List.mem_map.mp hz
        exact Nat.le_refl _)) (by walk_at "fit")) ⟨rfl, W_append e2 (by walk_at "fit") ?_⟩
      refine ⟨_, _, _, lines ++ [Txt.join "" (cs.map fun c => (⟨#[c]⟩ : Str))], rfl, by rw [get_set e2, List.map_append]; rfl, by simp [el], ?_, (P2.set (by omega) (by omega)).mono (by omega), K2.set (.inr hfh)⟩
      intro x hx
      rcases List.mem_append.mp hx with hx | hx
      · exact ln x hx
      · have : x = Txt.join "" (cs.map fun c => (⟨#[c]⟩ : Str)) := by simpa using hx
        subst this
        have ej : (Txt.join "" (cs.map fun c => (⟨#[c]⟩ : Str))).cps.toList = cs := by
          rw [join_nil, List.flatMap_map]
          exact List.flatMap_singleton' cs
        unfold Line
        rw [ej]
        exact ⟨cl, cg⟩
  · rintro _ g ⟨k, s, j, lines, rfl, ef, el, ln, Pg, Kg⟩
    refine ⟨by rw [at_sta, List.getElem?_eq_none (by rw [intsFrom_length]; omega)], ?_⟩
    walk_at "ev"
    have ll : ∀ z ∈ lines, z.length ≤ 8 := fun z m => by rw [str_len, (ln z m).1]; exact hC8
    have sl := sum_le ll
    have fin : ∀ (g' : Hh) (lines' : List Str), g'[f]? = some (.lst (lines'.map .str)) → Pic R C lines' → Pen (N + 1 + 16 * R) p c g' → Kp [p] h g' → WP (tupM (D.ref f) g') fun d h1 => ∃ pic, d = D.tup (List.map D.str pic) ∧ Pic R C pic ∧ Pen (N + 200) p c (gc (List.length h) [d] h1) ∧ Kp [p] h (gc (List.length h) [d] h1) := by
      intro g' lines' e' pc P' K'
      have := pc.1
      exact W_tupL e' (by walk_at "fit") ⟨lines', rfl, pc, (P'.gc lt.1 lt.2.1).mono (by omega), K'.gc'⟩
    refine W_join0 (seqOf_ref ef) (by omega) (W_strip ?_ ?_)
    · rw [str_len, join_nil, List.length_flatMap]
      have : (lines.map fun a => a.cps.toList.length).sum = (lines.map (·.length)).sum := by
        congr 1
      omega
    · refine ⟨_, cmpD_eqss, fun hb => ?_, fun hb => fin g lines ef ⟨el, ln, ?_⟩ Pg Kg⟩
      · obtain ⟨z0, zs, rfl⟩ : ∃ z0 zs, lines = z0 :: zs := by
          cases lines with
          | nil => simp at el; omega
          | cons a b => exact ⟨a, b, rfl⟩
        obtain ⟨a0, as, ea⟩ : ∃ a0 as, z.cps.toList = a0 :: as := by
          cases q : z.cps.toList with
          | nil => exact absurd q A.1
          | cons a b => exact ⟨a, b, rfl⟩
        have l0 := ln z0 (by simp)
        have zl : z.length ≤ sizeLine := by rw [str_len, sz]; have := A.2.1; omega
        have zl0 : z0.length ≤ sizeLine := by rw [str_len, sz, l0.1]; omega
        have i1 : idxD (.str z) (.int 0) g = some (sgn a0) := by
          simp only [idxD, if_pos zl, ea, atI, ixN]
          simp
        have i2 : idxD (.ref f) (.int 0) g = some (.str z0) := by
          simp only [idxD, ef, atI, ixN]
          simp
        simp only [i1, i2, Option.some.injEq, exists_eq_left', slcD, if_pos zl0, WP_some]
        have lc : (cutS z0 (some 1) none).cps.toList = z0.cps.toList.drop 1 := by
          have x1 : HT.sIx z0.length 0 (some 1) = 1 := by
            have : (1 : Int).toNat = 1 := rfl
            rw [sIx_pos (by decide), str_len, l0.1, this]
            omega
          show ((z0.cps.toList.drop (HT.sIx z0.length 0 (some 1))).take (HT.sIx z0.length z0.length none - HT.sIx z0.length 0 (some 1))).toArray.toList = _
          rw [x1, sIx_none, List.toList_toArray, List.take_of_length_le]
          rw [List.length_drop, str_len]
          exact Nat.le_refl _
        have lm : (cutS z0 (some 1) none).length = C - 1 := by rw [str_len, lc, List.length_drop, l0.1]
        rw [W_adds]
        refine ⟨by rw [lm, sz]; show 1 + _ ≤ _; omega, ?_⟩
        refine ⟨_, set_ref ef (by decide) (by simp), ?_⟩
        refine fin _ ((⟨#[a0]⟩ ++ cutS z0 (some 1) none) :: zs) (get_set ef) ⟨el, ?_, _, List.mem_cons_self, a0, ?_, ?_⟩ (Pg.set (by omega) (by omega)) (Kg.set (.inr hfh))
        · intro y hy
          rcases List.mem_cons.mp hy with rfl | hy
          · have e1 : ((⟨#[a0]⟩ : Str) ++ cutS z0 (some 1) none).cps.toList = a0 :: z0.cps.toList.drop 1 := by
              show (#[a0] ++ (cutS z0 (some 1) none).cps).toList = _
              rw [Array.toList_append, lc]
              rfl
            refine ⟨by rw [e1, List.length_cons, List.length_drop, l0.1]; omega, fun x hx => ?_⟩
            rw [e1] at hx
            rcases List.mem_cons.mp hx with rfl | hx
            · exact .inr (A.2.2 _ (by rw [ea]; simp))
            · exact l0.2 x (List.mem_of_mem_drop hx)
          · exact ln y (by simp [hy])
        · show a0 ∈ (#[a0] ++ (cutS z0 (some 1) none).cps).toList
          simp
        · have := A.2.2 a0 (by rw [ea]; simp)
          omega
      · apply Classical.byContradiction
        intro no
        have : ∀ c ∈ (Txt.join "" lines).cps.toList, c = 46 := by
          intro c hc
          rw [join_nil] at hc
          obtain ⟨y, hy, hc⟩ := List.mem_flatMap.mp hc
          apply Classical.byContradiction
          intro ne
          exact no ⟨y, hy, c, hc, ne⟩
        rw [strip_dots this] at hb
        simp at hb
end Zp
set_option Elab.async false
set_option linter.all false
set_option autoImplicit false
set_option maxRecDepth 100000
set_option maxHeartbeats 4000000
namespace Zp
open PySem L2 Z
local macro_rules | `(tactic| walk_at "ev") => `(tactic| simp only [W_asg, W_ret, W_ifs, W_nil, W_sub', W_par, W_asgt, W_expr, W_fr, W_brk, W_cnt, W_pas, denI, List.map_cons, List.map_nil, denT, den_var, den_cst, den_gcst, den_bin, den_neg, den_nt, den_and2, den_or2, den_cmp, den_chn, den_ife, den_call, den_blt, den_mth, den_isi, den_idx, den_slc, den_lst, den_tup, den_dic, dens, getVar, WP_bind, WP_some, WP_ifn, WP_itb, wipeE, true_implies, false_implies, reduceCtorEq, denC_nil, denC_one, cmpD_eqss, isisD, isiD, isTrueD_bl, Bool.or_self, Bool.or_false, Bool.or_true, Bool.false_eq_true, Bool.not_true, Bool.not_false, BEq.rfl, cmpD_ness, cmpD_eqbb, cmpD_nebb, cmpD_is, cmpD_isnot, isNon, intsFrom_length, len_sta, List.replicate, Nat.reduceSub, List.cons_append, List.nil_append, List.getElem?_cons_zero, List.getElem?_cons_succ, W_add, W_sub, W_mul, W_mod, W_fdiv, W_pow, W_adds, W_newL, W_newT, WP_opt, semB, intD_i, Option.map_some, List.set_cons_zero, List.set_cons_succ, Option.some.injEq, exists_eq_left', true_and, and_true, Nat.zero_add, Nat.reduceAdd, aft_nx, aft_ret, aft_brk, aft_cnt, aftL_nx, aftL_ret, aftL_brk, aftL_cnt, D.tup.injEq, sets, kindD_str, kindD_tup, cmpD_eqii, cmpD_neii, cmpD_lt, cmpD_gt, cmpD_le, cmpD_ge])
local macro_rules | `(tactic| walk_at "fit") => `(tactic| (simp only [List.length_cons, List.length_nil, List.length_append, List.length_map, PySem.sizeLine_eq] <;> omega))
def b_law_draw_pile (g_law_take : Fn) (g_law_alphabet : Fn) (g_law_draw_picture : Fn) : List Sm :=
   [.par [3, 4] [.bin .Add (.cst (.int 1)) (.call "_law_take" g_law_take [.var 0, .var 2]), .bin .Add (.cst (.int 1)) (.call "_law_take" g_law_take [.var 0, .var 2])],
    .par [5, 6] [.call "_law_alphabet" g_law_alphabet [.var 0], .lst []],
    .fr (.nm 7) (.rng [.bin .Add (.cst (.int 1)) (.call "_law_take" g_law_take [.var 0, .var 1])]) [.par [9, 10] [.bin .Add (.cst (.int 1)) (.call "_law_take" g_law_take [.var 0, .var 3]), .bin .Add (.cst (.int 1)) (.call "_law_take" g_law_take [.var 0, .var 4])],
    .asg (.nm 8) (.call "_law_draw_picture" g_law_draw_picture [.var 0, .var 9, .var 10, .var 5]),
    .ex (.mth .append (.var 6) [.tup [.call "_law_take" g_law_take [.var 0, .bin .Add (.bin .Sub (.var 3) (.var 9)) (.cst (.int 1))], .call "_law_take" g_law_take [.var 0, .bin .Add (.bin .Sub (.var 4) (.var 10)) (.cst (.int 1))], .var 8]])],
    .ret (.tup [.var 3, .var 4, .blt .tuple [.var 6]])]
def F_law_draw_pile : Fn := runDef 11 3 (b_law_draw_pile F_law_take F_law_alphabet F_law_draw_picture)

theorem take_n {N p c : Nat} {m : Int} {h : Hh} (P : Pen N p c h) (hN : N < 1000000000) (h0 : 0 < m) (h1 : m < 18446744073709551616) : WP (F_law_take [.ref p, .int m] h) fun d h' => ∃ r : Nat, d = .int (r : Int) ∧ (r : Int) < m ∧ Pen (N + 1) p c h' ∧ Kp [p] h h' := by
  refine (take_ok P hN h0 h1).mono ?_
  rintro _ h' ⟨r, rfl, r0, r1, P1, K1⟩
  exact ⟨r.toNat, by congr 1; omega, by omega, P1, K1⟩
/-! piles as values -/
structure Sheet where
  row : Nat
  col : Nat
  pic : List Str
structure Pile where
  rows : Nat
  cols : Nat
  sheets : List Sheet
def Sheet.d (s : Sheet) : D := .tup [.int s.row, .int s.col, .tup (s.pic.map .str)]
def Pile.d (p : Pile) : D := .tup [.int p.rows, .int p.cols, .tup (p.sheets.map Sheet.d)]
def Sheet.ok (R C : Nat) (s : Sheet) : Prop := ∃ H W, 1 ≤ H ∧ 1 ≤ W ∧ Pic H W s.pic ∧ s.row + H ≤ R ∧ s.col + W ≤ C
structure Pile.ok (p : Pile) (most lines : Nat) : Prop where
  r1 : 1 ≤ p.rows
  r8 : p.rows ≤ lines
  c1 : 1 ≤ p.cols
  c8 : p.cols ≤ lines
  s1 : 1 ≤ p.sheets.length
  s10 : p.sheets.length ≤ most
  sh : ∀ s ∈ p.sheets, Sheet.ok p.rows p.cols s
theorem pile_ok {N p c most lines : Nat} {h : Hh} (P : Pen N p c h) (hN : N < 999990000) (hm : 1 ≤ most) (hm9 : most ≤ 10) (hl : 1 ≤ lines) (hl8 : lines ≤ 8) :
    WP (F_law_draw_pile [.ref p, .int most, .int lines] h) fun d h' => ∃ q : Pile, d = q.d ∧ q.ok most lines ∧ Pen (N + 3000) p c h' ∧ Kp [p] h h' := by
  refine WP_run rfl ?_
  unfold b_law_draw_pile
  have sz := PySem.sizeLine_eq
  have lt := P.lt
  walk_at "ev"
  refine (take_n P (by omega) (by omega) (by omega)).mono ?_
  rintro _ h1 ⟨r, rfl, r1, P1, K1⟩
  rw [W_add]
  refine (take_n P1 (by omega) (by omega) (by omega)).mono ?_
  rintro _ h2 ⟨k, rfl, k1, P2, K2⟩
  rw [W_add]
  refine (alphabet_ok P2 (by omega)).mono ?_
  rintro _ h3 ⟨z, rfl, A, P3, K3⟩
  refine ⟨by walk_at "fit", ?_⟩
  have K30 := (K1.trans K2).trans K3
  generalize hf : h3.length = f
  have hfh : h.length ≤ f := by rw [← hf]; exact K30.len
  refine (take_n P3.more (by omega) (by omega) (by omega)).mono ?_
  rintro _ h4 ⟨n, rfl, n1, P4, K4⟩
  rw [W_add]
  refine ⟨_, range1 (by omega) (by omega), ?_⟩
  have en : (1 + (n : Int)).toNat = n + 1 := by omega
  rw [en]
  have er : (1 + (r : Int)) = ((r + 1 : Nat) : Int) := by omega
  have ek : (1 + (k : Int)) = ((k + 1 : Nat) : Int) := by omega
  rw [er, ek]
  have K40 : Kp [p] h h4 := K30.more.trans K4
  have lt3 := P3.lt
  have e4 : h4[f]? = some (.lst []) := K4.get (get_at hf.symm) (by simp; omega)
  refine fr_ok (n := n + 1) (I := fun i e g => ∃ (x1 x2 x3 x4 : Option D) (ss : List Sheet), e = [some (.ref p), some (.int most), some (.int lines), some (.int ((r + 1 : Nat) : Int)), some (.int ((k + 1 : Nat) : Int)), some (.str z), some (.ref f), x1, x2, x3, x4] ∧ g[f]? = some (.lst (ss.map Sheet.d)) ∧ ss.length = i ∧ (∀ s ∈ ss, s.ok (r + 1) (k + 1)) ∧ Pen (N + 5 + 204 * i) p c g ∧ Kp [p] h g) ?_ ?_ ?_ ?_
  · rw [len_sta, intsFrom_length]
  · exact ⟨_, _, _, _, [], rfl, e4, rfl, by simp, P4.mono (by omega), K40⟩
  · rintro i _ g hi ⟨x1, x2, x3, x4, ss, rfl, ef, el, es, Pg, Kg⟩
    refine ⟨_, _, by rw [at_sta, intsFrom_get _ _ _ (by omega)], rfl, ?_⟩
    walk_at "ev"
    refine (take_n Pg (by omega) (by omega) (by omega)).mono ?_
    rintro _ g1 ⟨H, rfl, H1, Pg1, Kg1⟩
    rw [W_add]
    refine (take_n Pg1 (by omega) (by omega) (by omega)).mono ?_
    rintro _ g2 ⟨W, rfl, W1, Pg2, Kg2⟩
    rw [W_add]
    have eH : (1 + (H : Int)) = ((H + 1 : Nat) : Int) := by omega
    have eW : (1 + (W : Int)) = ((W + 1 : Nat) : Int) := by omega
    rw [eH, eW]
    refine (picture_ok (R := H + 1) (C := W + 1) Pg2 (by omega) (by omega) (by omega) (by omega) (by omega) A).mono ?_
    rintro _ g3 ⟨pic, rfl, pc, Pg3, Kg3⟩
    rw [W_sub, W_add]
    refine (take_n Pg3 (by omega) (by omega) (by omega)).mono ?_
    rintro _ g4 ⟨row, rfl, row1, Pg4, Kg4⟩
    rw [W_sub, W_add]
    refine (take_n Pg4 (by omega) (by omega) (by omega)).mono ?_
    rintro _ g5 ⟨col, rfl, col1, Pg5, Kg5⟩
    have KK : Kp [p] g g5 := (((Kg1.trans Kg2).trans Kg3).trans Kg4).trans Kg5
    have e5 := KK.get ef (by simp; omega)
    have e3 := ((Kg1.trans Kg2).trans Kg3).get ef (by simp; omega)
    refine ⟨by walk_at "fit", kindD_same e3 e5, W_append e5 (by walk_at "fit") ?_⟩
    refine ⟨_, _, _, _, ss ++ [⟨row, col, pic⟩], rfl, by rw [get_set e5, List.map_append]; rfl, by simp [el], ?_, (Pg5.set (by omega) (by omega)).mono (by omega), (Kg.trans KK).set (.inr hfh)⟩
    intro s hs
    rcases List.mem_append.mp hs with hs | hs
    · exact es s hs
    · have : s = ⟨row, col, pic⟩ := by simpa using hs
      subst this
      exact ⟨H + 1, W + 1, by omega, by omega, pc, by show row + (H + 1) ≤ _; omega, by show col + (W + 1) ≤ _; omega⟩
  · rintro _ g ⟨x1, x2, x3, x4, ss, rfl, ef, el, es, Pg, Kg⟩
    refine ⟨by rw [at_sta, List.getElem?_eq_none (by rw [intsFrom_length]; omega)], ?_⟩
    walk_at "ev"
    refine W_tupL ef (by walk_at "fit") ⟨by walk_at "fit", ⟨⟨r + 1, k + 1, ss⟩, rfl, ⟨by show 1 ≤ r + 1; omega, by show r + 1 ≤ lines; omega, by show 1 ≤ k + 1; omega, by show k + 1 ≤ lines; omega, by show 1 ≤ ss.length; omega, by show ss.length ≤ most; omega, es⟩, (Pg.gc lt.1 lt.2.1).mono (by omega), Kg.gc'⟩⟩
end Zp
set_option Elab.async false
set_option linter.all false
set_option autoImplicit false
set_option maxRecDepth 100000
set_option maxHeartbeats 4000000
namespace Zp
open PySem L2 Z
local macro_rules | `(tactic| walk_at "ev") => `(tactic| simp only [W_asg, W_ret, W_ifs, W_nil, W_sub', W_par, W_asgt, W_expr, W_fr, W_brk, W_cnt, W_pas, denI, List.map_cons, List.map_nil, denT, den_var, den_cst, den_gcst, den_bin, den_neg, den_nt, den_and2, den_or2, den_cmp, den_chn, den_ife, den_call, den_blt, den_mth, den_isi, den_idx, den_slc, den_lst, den_tup, den_dic, dens, getVar, WP_bind, WP_some, WP_ifn, WP_itb, wipeE, true_implies, false_implies, reduceCtorEq, denC_nil, denC_one, cmpD_eqss, isisD, isiD, isTrueD_bl, Bool.or_self, Bool.or_false, Bool.or_true, Bool.false_eq_true, Bool.not_true, Bool.not_false, BEq.rfl, cmpD_ness, cmpD_eqbb, cmpD_nebb, cmpD_is, cmpD_isnot, isNon, intsFrom_length, len_sta, List.replicate, Nat.reduceSub, List.cons_append, List.nil_append, List.getElem?_cons_zero, List.getElem?_cons_succ, W_add, W_sub, W_mul, W_mod, W_fdiv, W_pow, W_adds, W_newL, W_newT, WP_opt, semB, intD_i, Option.map_some, List.set_cons_zero, List.set_cons_succ, Option.some.injEq, exists_eq_left', true_and, and_true, Nat.zero_add, Nat.reduceAdd, aft_nx, aft_ret, aft_brk, aft_cnt, aftL_nx, aftL_ret, aftL_brk, aftL_cnt, D.tup.injEq, sets, kindD_str, kindD_tup, cmpD_eqii, cmpD_neii, cmpD_lt, cmpD_gt, cmpD_le, cmpD_ge])
local macro_rules | `(tactic| walk_at "fit") => `(tactic| (simp only [List.length_cons, List.length_nil, List.length_append, List.length_map, PySem.sizeLine_eq] <;> omega))
def b_law_same (g_law_same : Fn) : List Sm :=
   [.ifs (.or2 (.cm .Is (.var 1) (.cst (.non))) (.cm .Is (.var 0) (.cst (.non)))) [.ret (.and2 (.cmp .Is (.var 1) (.cst (.non))) (.cmp .Is (.var 0) (.cst (.non))))] [],
    .ifs (.or2 (.val (.isi (.var 1) [.bool])) (.val (.isi (.var 0) [.bool]))) [.ret (.and2 (.isi (.var 1) [.bool]) (.and2 (.isi (.var 0) [.bool]) (.cmp .Eq (.var 0) (.var 1))))] [],
    .ifs (.val (.isi (.var 1) [.int, .str])) [.ifs (.cm .NotEq (.isi (.var 0) [.int]) (.isi (.var 1) [.int])) [.ret (.cst (.bl false))] [],
    .ret (.and2 (.isi (.var 0) [.int, .str]) (.cmp .Eq (.var 0) (.var 1)))] [],
    .ifs (.or2 (.cm .NotEq (.isi (.var 1) [.tuple]) (.isi (.var 0) [.tuple])) (.cm .NotEq (.isi (.var 1) [.list]) (.isi (.var 0) [.list]))) [.ret (.cst (.bl false))] [],
    .ifs (.cm .NotEq (.blt .len [.var 0]) (.blt .len [.var 1])) [.ret (.cst (.bl false))] [],
    .ret (.cmp .NotIn (.cst (.bl false)) (.lc [("one", 2), ("other", 3)] (.tp [2, 3]) (.zp (.var 0) (.var 1)) [] (.call "_law_same" g_law_same [.var 2, .var 3])))]
def F_law_same : Nat → Fn
  | 0 => fun _ _ => none
  | k + 1 => runDef 4 2 (b_law_same (F_law_same k))
/-- the same data, nested less than so deep -/
def Sam (h : Hh) : Nat → D → D → Prop
  | 0, _, _ => False
  | n + 1, x, y => match x, y with
    | .non, .non => True
    | .bl a, .bl b => a = b
    | .int a, .int b => a = b
    | .str a, .str b => a = b
    | .tup xs, .tup ys => xs.length = ys.length ∧ xs.length < 16777216 ∧ ∀ (i : Nat) (x y : D), xs[i]? = some x → ys[i]? = some y → Sam h n x y
    | .ref a, .ref b => ∃ xs ys, h[a]? = some (.lst xs) ∧ h[b]? = some (.lst ys) ∧ xs.length = ys.length ∧ xs.length < 16777216 ∧ ∀ (i : Nat) (x y : D), xs[i]? = some x → ys[i]? = some y → Sam h n x y
    | _, _ => False
theorem Sam.kp {h h' : Hh} (K : Kp [] h h') : ∀ {n : Nat} {x y : D}, Sam h n x y → Sam h' n x y
  | 0, _, _, s => s
  | n + 1, x, y, s => by
    unfold Sam at s ⊢
    split at s <;> first | exact s | skip
    · exact ⟨s.1, s.2.1, fun i x y a b => Sam.kp K (s.2.2 i x y a b)⟩
    · obtain ⟨xs, ys, a, b, c, d, e⟩ := s
      exact ⟨xs, ys, K.get a (by simp), K.get b (by simp), c, d, fun i x y a b => Sam.kp K (e i x y a b)⟩
theorem mem_true {h : Hh} : ∀ i : Nat, memD h (.bl false) (List.replicate i (.bl true)) = some false
  | 0 => rfl
  | i + 1 => by
    rw [List.replicate_succ, memD, mem_true i]
    rfl
/-- the list of the same of pairs -/
theorem same_list {k : Nat} {h : Hh} {x y : D} {e : En} {sv : Sv} {xs ys : List D} (e2 : e[0]? = some (some x)) (e3 : e[1]? = some (some y)) (hl : e.length = 4) (hz : zipD x y h = some sv) (hln : sv.len h = xs.length) (hxy : xs.length = ys.length) (hx : xs.length < 16777216)
    (hat : ∀ (g : Hh) (i : Nat), Kp [] h g → sv.at g i = some (match xs[i]?, ys[i]? with | some x, some y => some (.tup [x, y]) | _, _ => none))
    (ih : ∀ (g : Hh) (i : Nat) (x y : D), Kp [] h g → xs[i]? = some x → ys[i]? = some y → WP (F_law_same k [x, y] g) fun d h' => d = .bl true ∧ Kp [] g h')
 : WP (den (.lc [("one", 2), ("other", 3)] (.tp [2, 3]) (.zp (.var 0) (.var 1)) [] (.call "_law_same" (F_law_same k) [.var 2, .var 3])) e h) fun d g => cmpD .NotIn (.bl false) d g = some true ∧ Kp [] h g := by
  have sz := PySem.sizeLine_eq
  refine W_lc ?_
  simp only [denI, den_var, getVar, e2, e3, WP_bind, WP_some, WP_opt]
  refine ⟨sv, hz, xs.length, fun i acc g => acc = List.replicate i (.bl true) ∧ Kp [] h g, hln, by omega, fun g L => ⟨rfl, L.kp Kp.refl (Nat.le_refl _)⟩, ?_, ?_, ?_⟩
  · rintro i acc g hi ⟨rfl, K⟩ ha _
    have i2 : i < ys.length := by omega
    have a1 := List.getElem?_eq_getElem hi
    have a2 := List.getElem?_eq_getElem i2
    obtain ⟨en, ee⟩ : ∃ en, sets [2, 3] [xs[i], ys[i]] (wipeE e [2, 3]) = some en := ⟨_, rfl⟩
    refine ⟨_, en, by rw [hat g i K, a1, a2], by simpa only [assignD, List.map_cons, List.map_nil] using ee, ?_⟩
    rw [denC_nil]
    have f2 : en[2]? = some (some xs[i]) := by
      simp only [sets, Option.some.injEq, wipeE] at ee
      subst ee
      simp [hl]
    have f3 : en[3]? = some (some ys[i]) := by
      simp only [sets, Option.some.injEq, wipeE] at ee
      subst ee
      simp [hl]
    simp only [WP_some, true_implies, reduceCtorEq, false_implies, and_true, den_call, dens, den_var, getVar, f2, f3, WP_bind]
    refine (ih g i _ _ K a1 a2).mono ?_
    rintro _ g2 ⟨rfl, K2⟩
    exact ⟨K2.get ha (by simp), fun g3 L => ⟨by rw [List.replicate_succ'], L.kp (K.trans K2) (Nat.le_refl _)⟩⟩
  · rintro acc g ⟨rfl, K⟩ _
    rw [hat g _ K, List.getElem?_eq_none (Nat.le_refl _)]
  · rintro acc g ⟨rfl, K⟩ ha _
    refine ⟨?_, K⟩
    simp only [cmpD, inD, ha, mem_true, Option.map_some, Bool.not_false]
theorem pairs_get : ∀ (xs ys : List D) (i : Nat), (pairs xs ys)[i]? = match xs[i]?, ys[i]? with | some x, some y => some (.tup [x, y]) | _, _ => none
  | [], ys, i => by simp [pairs]
  | x :: xs, [], i => by
    cases i with
    | zero => simp [pairs]
    | succ i => simp [pairs]
  | x :: xs, y :: ys, 0 => by simp [pairs]
  | x :: xs, y :: ys, i + 1 => by
    rw [pairs, List.getElem?_cons_succ, List.getElem?_cons_succ, List.getElem?_cons_succ, pairs_get xs ys i]
theorem pairs_length : ∀ (xs ys : List D), xs.length = ys.length → (pairs xs ys).length = xs.length
  | [], ys, _ => by simp [pairs]
  | x :: xs, [], h => by simp at h
  | x :: xs, y :: ys, h => by rw [pairs, List.length_cons, List.length_cons, pairs_length xs ys (by simpa using h)]
theorem same_ok : ∀ {k n : Nat} {x y : D} {h : Hh}, Sam h n x y → n ≤ k → WP (F_law_same k [x, y] h) fun d h' => d = .bl true ∧ Kp [] h h'
  | _, 0, _, _, _, s, _ => s.elim
  | 0, n + 1, _, _, _, _, l => by omega
  | k + 1, n + 1, x, y, h, s, l => by
    refine WP_run rfl ?_
    unfold b_law_same
    unfold Sam at s
    split at s <;> first | exact s.elim | skip
    · walk_at "ev"
      simp [cmpD, Kp.refl.gc', opt, isTrueD]
    · subst s
      walk_at "ev"
      simp [cmpD, Kp.refl.gc', opt, isTrueD, isisD, isiD, eqD, eqF]
    · subst s
      walk_at "ev"
      simp [cmpD, Kp.refl.gc', opt, isTrueD, isisD, isiD, eqD, eqF]
    · subst s
      walk_at "ev"
      simp [cmpD, Kp.refl.gc', opt, isTrueD, isisD, isiD, eqD, eqF]
    · rename_i xs ys
      obtain ⟨a1, a2, a3⟩ := s
      walk_at "ev"
      simp only [lenD, Option.some.injEq, exists_eq_left', a1, cmpD_neii, BEq.rfl, Bool.not_true, reduceCtorEq, false_implies, true_implies, true_and]
      refine (same_list (sv := .sta (pairs xs ys)) (xs := xs) (ys := ys) rfl rfl rfl rfl (pairs_length xs ys a1) a1 a2 (fun g i _ => by rw [at_sta, pairs_get]) (fun g i x y K e1 e2 => same_ok ((a3 i x y e1 e2).kp K) (by omega))).mono ?_
      rintro d g ⟨e, K⟩
      exact ⟨_, by rw [e]; rfl, rfl, K.gc'⟩
    · rename_i a b
      obtain ⟨xs, ys, a1, a2, a3, a4, a5⟩ := s
      walk_at "ev"
      simp only [a1, a2, Option.some.injEq, exists_eq_left', Bool.or_self, Bool.false_eq_true, reduceCtorEq, cmpD_nebb, isTrueD_bl, Bool.not_true, Bool.not_false, BEq.rfl, true_implies, false_implies, and_true, true_and, cmpD_neii, Option.map_some, lenD, a3]
      refine (same_list (sv := .zip a b) (xs := xs) (ys := ys) rfl rfl rfl (by simp only [zipD, lstAt, a1, a2]) (by simp only [Sv.len, lstAt, a1, Option.getD_some]) a3 a4 (fun g i K => by
        simp only [Sv.at, lstAt, K.get a1 (by simp), K.get a2 (by simp)] <;>
        (cases xs[i]? <;> cases ys[i]? <;> rfl)) (fun g i x y K e1 e2 => same_ok ((a5 i x y e1 e2).kp K) (by omega))).mono ?_
      rintro d g ⟨e, K⟩
      exact ⟨_, by rw [e]; rfl, rfl, K.gc'⟩
end Zp
set_option Elab.async false
set_option linter.all false
set_option autoImplicit false
set_option maxRecDepth 100000
set_option maxHeartbeats 4000000
namespace Z
open PySem L2
/-- the turns of a block that only tells values -/
theorem turns_pure {tg : Tg} {e0 : En} {cond : List Te} {elt : Ex} {h1 : Hh} {sv : Sv} {xs : List D} {G : D → Option D}
    (ha : ∀ acc i, sv.at (h1 ++ [.lst acc]) i = some xs[i]?)
    (ht : ∀ x ∈ xs, ∃ e1, assignD tg x e0 = some e1 ∧ ∀ acc, match G x with
      | none => denC cond e1 (h1 ++ [.lst acc]) = some (false, h1 ++ [.lst acc])
      | some y => denC cond e1 (h1 ++ [.lst acc]) = some (true, h1 ++ [.lst acc]) ∧ den elt e1 (h1 ++ [.lst acc]) = some (y, h1 ++ [.lst acc])) :
    ∀ (zs ys : List D) (acc : List D), ys ++ zs = xs → (acc ++ zs.filterMap G).length < sizeLine →
      overI (h1.length + 1) (appI h1.length (turnD tg e0 (denC cond) (den elt))) sv (zs.length + 1) ys.length (h1 ++ [.lst acc]) = some (h1 ++ [.lst (acc ++ zs.filterMap G)]) := by
  have g1 : ∀ acc : List D, gc (h1.length + 1) [] (h1 ++ [O.lst acc]) = h1 ++ [O.lst acc] := fun acc => gc_end (by simp)
  intro zs
  induction zs with
  | nil =>
    intro ys acc hxs _
    rw [List.append_nil] at hxs
    subst hxs
    rw [overI]
    simp only [ha, List.getElem?_eq_none (Nat.le_refl _), List.filterMap_nil, List.append_nil]
  | cons z zs ih =>
    intro ys acc hxs hac
    have e1 : xs[ys.length]? = some z := by rw [← hxs, List.getElem?_append_right (Nat.le_refl _)]; simp
    obtain ⟨en, a1, a2⟩ := ht z (by rw [← hxs]; simp)
    replace a2 := a2 acc
    have hx2 : (ys ++ [z]) ++ zs = xs := by rw [← hxs]; simp
    rw [show (z :: zs).length + 1 = (zs.length + 1) + 1 from rfl, overI]
    simp only [ha, e1]
    cases hG : G z with
    | none =>
      rw [hG] at a2
      simp only [List.filterMap_cons, hG] at hac
      simp only [appI, turnD, a1, a2, bindM_some]
      have := ih (ys ++ [z]) acc hx2 hac
      rw [List.length_append] at this
      simp only [Bool.false_eq_true, if_false, g1, List.filterMap_cons, hG]
      exact this
    | some y =>
      rw [hG] at a2
      simp only [List.filterMap_cons, hG] at hac
      have gl : acc.length < sizeLine := by rw [List.length_append, List.length_cons] at hac; omega
      simp only [appI, turnD, a1, a2.1, a2.2, bindM_some, if_true, get_end, if_pos gl, set_end, g1, List.filterMap_cons, hG]
      have := ih (ys ++ [z]) (acc ++ [y]) hx2 (by rw [List.append_assoc]; exact hac)
      rw [List.length_append] at this
      rw [List.append_assoc] at this
      exact this
/-- a comprehension of two fors that only tells values -/
theorem lc2_pure {own : List (Str × Nat)} {vs1 : List Nat} {tg tg1 : Tg} {src src1 : Sr} {cond1 : List Te} {elt : Ex} {e : En} {h h1 : Hh} {sv : Sv} {xs : List D} {Y : D → List D} {G : D → D → Option D} (es : denI src e h = some (sv, h1)) (hl : sv.len h1 = xs.length)
    (ha : ∀ acc i, sv.at (h1 ++ [.lst acc]) i = some xs[i]?) (hz : (xs.flatMap fun x => (Y x).filterMap (G x)).length < sizeLine)
    (ht : ∀ x ∈ xs, ∃ e1, assignD tg x (wipeE e (own.map (·.2))) = some e1 ∧ ∀ acc, ∃ sv1, denI src1 e1 (h1 ++ [.lst acc]) = some (sv1, h1 ++ [.lst acc]) ∧ sv1.len (h1 ++ [.lst acc]) = (Y x).length ∧ (∀ acc i, sv1.at (h1 ++ [.lst acc]) i = some (Y x)[i]?) ∧
      ∀ y ∈ Y x, ∃ e2, assignD tg1 y (wipeE e1 vs1) = some e2 ∧ ∀ acc, match G x y with
        | none => denC cond1 e2 (h1 ++ [.lst acc]) = some (false, h1 ++ [.lst acc])
        | some v => denC cond1 e2 (h1 ++ [.lst acc]) = some (true, h1 ++ [.lst acc]) ∧ den elt e2 (h1 ++ [.lst acc]) = some (v, h1 ++ [.lst acc])) :
    den (.lc2 own vs1 tg src [] tg1 src1 cond1 elt) e h = some (.ref h1.length, h1 ++ [.lst (xs.flatMap fun x => (Y x).filterMap (G x))]) := by
  have g1 : ∀ acc : List D, gc (h1.length + 1) [] (h1 ++ [O.lst acc]) = h1 ++ [O.lst acc] := fun acc => gc_end (by simp)
  have key : ∀ (zs ys : List D) (acc : List D), ys ++ zs = xs → (acc ++ zs.flatMap fun x => (Y x).filterMap (G x)).length < sizeLine →
      overI (h1.length + 1) (fun x h2 => match assignD tg x (wipeE e (own.map (·.2))) with
          | none => none
          | some e1 => match denC [] e1 h2 with
            | none => none
            | some (false, h3) => some h3
            | some (true, h3) => match denI src1 e1 h3 with
              | none => none
              | some (sv1, h4) => overI h4.length (appI h1.length (turnD tg1 (wipeE e1 vs1) (denC cond1) (den elt))) sv1 (sv1.len h4 + 1) 0 h4) sv (zs.length + 1) ys.length (h1 ++ [.lst acc]) = some (h1 ++ [.lst (acc ++ zs.flatMap fun x => (Y x).filterMap (G x))]) := by
    intro zs
    induction zs with
    | nil =>
      intro ys acc hxs _
      rw [List.append_nil] at hxs
      subst hxs
      rw [overI]
      simp only [ha, List.getElem?_eq_none (Nat.le_refl _), List.flatMap_nil, List.append_nil]
    | cons z zs ih =>
      intro ys acc hxs hac
      have e1 : xs[ys.length]? = some z := by rw [← hxs, List.getElem?_append_right (Nat.le_refl _)]; simp
      obtain ⟨en, a1, a2⟩ := ht z (by rw [← hxs]; simp)
      obtain ⟨sv1, b1, b2, b3, b4⟩ := a2 acc
      have hx2 : (ys ++ [z]) ++ zs = xs := by rw [← hxs]; simp
      rw [List.flatMap_cons, ← List.append_assoc] at hac
      have inner := turns_pure (G := G z) b3 b4 (Y z) [] acc rfl (by rw [List.length_append] at hac; omega)
      rw [show (z :: zs).length + 1 = (zs.length + 1) + 1 from rfl, overI]
      have hlen : (h1 ++ [O.lst acc]).length = h1.length + 1 := by simp
      simp only [ha, e1, a1, denC, b1, b2, hlen]
      rw [List.length_nil] at inner
      rw [inner]
      simp only [g1, List.flatMap_cons]
      have := ih (ys ++ [z]) (acc ++ (Y z).filterMap (G z)) hx2 hac
      rw [List.length_append] at this
      rw [List.append_assoc] at this
      exact this
  have := key xs [] [] rfl (by simpa using hz)
  simp only [List.nil_append, List.length_nil] at this
  rw [den]
  simp only [es, bindM_some, hl]
  exact congrArg (fun m : Option Hh => match m with | none => none | some h2 => some (D.ref h1.length, h2)) this
end Z
set_option Elab.async false
set_option linter.all false
set_option autoImplicit false
set_option maxRecDepth 100000
set_option maxHeartbeats 4000000
namespace Zp
open PySem L2 Z
local macro_rules | `(tactic| walk_at "ev") => `(tactic| simp only [W_asg, W_ret, W_ifs, W_nil, W_sub', W_par, W_asgt, W_expr, W_fr, W_brk, W_cnt, W_pas, denI, List.map_cons, List.map_nil, denT, den_var, den_cst, den_gcst, den_bin, den_neg, den_nt, den_and2, den_or2, den_cmp, den_chn, den_ife, den_call, den_blt, den_mth, den_isi, den_idx, den_slc, den_lst, den_tup, den_dic, dens, getVar, WP_bind, WP_some, WP_ifn, WP_itb, wipeE, true_implies, false_implies, reduceCtorEq, denC_nil, denC_one, cmpD_eqss, isisD, isiD, isTrueD_bl, Bool.or_self, Bool.or_false, Bool.or_true, Bool.false_eq_true, Bool.not_true, Bool.not_false, BEq.rfl, cmpD_ness, cmpD_eqbb, cmpD_nebb, cmpD_is, cmpD_isnot, isNon, intsFrom_length, len_sta, List.replicate, Nat.reduceSub, List.cons_append, List.nil_append, List.getElem?_cons_zero, List.getElem?_cons_succ, W_add, W_sub, W_mul, W_mod, W_fdiv, W_pow, W_adds, W_newL, W_newT, WP_opt, semB, intD_i, Option.map_some, List.set_cons_zero, List.set_cons_succ, Option.some.injEq, exists_eq_left', true_and, and_true, Nat.zero_add, Nat.reduceAdd, aft_nx, aft_ret, aft_brk, aft_cnt, aftL_nx, aftL_ret, aftL_brk, aftL_cnt, D.tup.injEq, sets, kindD_str, kindD_tup, cmpD_eqii, cmpD_neii, cmpD_lt, cmpD_gt, cmpD_le, cmpD_ge])
local macro_rules | `(tactic| walk_at "fit") => `(tactic| (simp only [List.length_cons, List.length_nil, List.length_append, List.length_map, PySem.sizeLine_eq] <;> omega))
def bletters_of : List Sm :=
   [.asg (.tp [1, 2, 3]) (.var 0),
    .ret (.lc2 [("down", 4), ("line", 5), ("right", 6), ("sign", 7)] [6, 7] (.tp [4, 5]) (.enm (.var 3)) [] (.tp [6, 7]) (.enm (.var 5)) [.cm .NotEq (.var 7) (.gcst "HOLE" (.str "."))] (.tup [.tup [.bin .Add (.var 1) (.var 4), .bin .Add (.var 2) (.var 6)], .var 7]))]
def Fletters_of : Fn := runDef 8 1 (bletters_of)
def bcovered (gletters_of : Fn) : List Sm :=
   [.asg (.nm 1) (.dic [] []),
    .fr (.tp [2, 3]) (.enm (.idx (.var 0) (.cst (.int 2)))) [.fr (.tp [4, 5]) (.over (.call "letters_of" gletters_of [.var 3])) [.ex (.mth .append (.mth .setdef (.var 1) [.var 4, .lst []]) [.tup [.var 2, .var 5]])]],
    .ret (.var 1)]
def Fcovered : Fn := runDef 6 1 (bcovered Fletters_of)
def b_law_covered : List Sm :=
   [.asg (.nm 1) (.dic [] []),
    .fr (.tp [2, 3]) (.enm (.idx (.var 0) (.cst (.int 2)))) [.fr (.tp [4, 5]) (.enm (.idx (.var 3) (.cst (.int 2)))) [.fr (.tp [6, 7]) (.enm (.var 5)) [.ifs (.cm .NotEq (.var 7) (.cst (.str "."))) [.asg (.nm 8) (.tup [.bin .Add (.idx (.var 3) (.cst (.int 0))) (.var 4), .bin .Add (.idx (.var 3) (.cst (.int 1))) (.var 6)]),
    .sub (.var 1) (.var 8) (.bin .Add (.mth .get2 (.var 1) [.var 8, .lst []]) (.lst [.tup [.var 2, .var 7]]))] []]]],
    .ret (.var 1)]
def F_law_covered : Fn := runDef 9 1 (b_law_covered)

/-! what covers a cell, as values -/
abbrev Cell := Int × Int
def lineL (r c : Int) : List Nat → List (Cell × Nat)
  | [] => []
  | s :: ss => if s = 46 then lineL r (c + 1) ss else ((r, c), s) :: lineL r (c + 1) ss
def picL (r c : Int) : List Str → List (Cell × Nat)
  | [] => []
  | z :: zs => lineL r c z.cps.toList ++ picL (r + 1) c zs
def Sheet.cells (s : Sheet) : List (Cell × Nat) := picL s.row s.col s.pic
theorem lineL_len (r : Int) : ∀ (l : List Nat) (c : Int), (lineL r c l).length ≤ l.length
  | [], _ => Nat.le_refl _
  | s :: ss, c => by
    have := lineL_len r ss (c + 1)
    unfold lineL
    split <;> simp only [List.length_cons] <;> omega
theorem picL_len (c : Int) {C : Nat} : ∀ (zs : List Str) (r : Int), (∀ z ∈ zs, z.cps.toList.length = C) → (picL r c zs).length ≤ zs.length * C
  | [], _, _ => by simp [picL]
  | z :: zs, r, h => by
    have a := picL_len c zs (r + 1) fun y m => h y (by simp [m])
    have b := lineL_len r z.cps.toList c
    have e := h z (by simp)
    rw [picL, List.length_append, List.length_cons, Nat.succ_mul]
    omega
theorem cells_len {R C : Nat} {s : Sheet} (k : s.ok R C) (hR : R ≤ 8) (hC : C ≤ 8) : s.cells.length ≤ 64 := by
  obtain ⟨H, W, _, _, pc, a, b⟩ := k
  have := picL_len s.col (C := W) s.pic s.row fun z m => (pc.2.1 z m).1
  rw [pc.1] at this
  have h8 : H * W ≤ 8 * 8 := Nat.mul_le_mul (by omega) (by omega)
  exact Nat.le_trans this h8
def cellD (c : Cell) : D := .tup [.int c.1, .int c.2]
def ltrD (x : Cell × Nat) : D := .tup [cellD x.1, sgn x.2]
/-- .. as letters_of makes them -/
def mkL (row col : Int) : D → D → Option D
  | .tup [.int i, _], .tup [.int j, .str z] => if z = "." then none else some (.tup [.tup [.int (row + i), .int (col + j)], .str z])
  | _, _ => none
theorem dot_eq (c : Nat) : ((⟨#[c]⟩ : Str) = ".") ↔ c = 46 := by
  have : (("." : Str)) = ⟨#[46]⟩ := by decide
  rw [this]
  simp
theorem line_mk (row col : Int) (i : Nat) (u : D) : ∀ (l : List Nat) (j : Nat), (numb j (l.map sgn)).filterMap (mkL row col (.tup [.int i, u])) = (lineL (row + i) (col + j) l).map ltrD
  | [], _ => rfl
  | s :: ss, j => by
    have ih := line_mk row col i u ss (j + 1)
    have e : col + ((j + 1 : Nat) : Int) = col + j + 1 := by omega
    rw [e] at ih
    rw [List.map_cons, numb, List.filterMap_cons, ih, lineL]
    by_cases h : s = 46
    · subst h
      have : mkL row col (.tup [.int i, u]) (.tup [.int (j : Nat), sgn 46]) = none := by
        simp only [mkL, dot_eq, if_true]
      rw [this, if_pos rfl]
    · have : mkL row col (.tup [.int i, u]) (.tup [.int (j : Nat), sgn s]) = some (ltrD ((row + i, col + j), s)) := by
        simp only [mkL, dot_eq, if_neg h]
        rfl
      rw [this, if_neg h]
      rfl
def ysL : D → List D
  | .tup [_, .str z] => numb 0 (signs z)
  | _ => []
theorem pic_mk (row col : Int) : ∀ (zs : List Str) (i : Nat), (numb i (zs.map .str)).flatMap (fun x => (ysL x).filterMap (mkL row col x)) = (picL (row + i) col zs).map ltrD
  | [], _ => rfl
  | z :: zs, i => by
    have ih := pic_mk row col zs (i + 1)
    have e : row + ((i + 1 : Nat) : Int) = row + i + 1 := by omega
    rw [e] at ih
    rw [List.map_cons, numb, List.flatMap_cons, ih, picL, List.map_append]
    have := line_mk row col i (.str z) z.cps.toList 0
    rw [show col + ((0 : Nat) : Int) = col by omega] at this
    rw [← this]
    rfl
theorem letters_ok {R C : Nat} {s : Sheet} {h : Hh} (k : s.ok R C) (hR : R ≤ 8) (hC : C ≤ 8) : WP (Fletters_of [s.d] h) fun d h' => d = .ref h.length ∧ h' = h ++ [.lst (s.cells.map ltrD)] := by
  refine WP_run rfl ?_
  unfold bletters_of
  have sz := PySem.sizeLine_eq
  walk_at "ev"
  refine ⟨_, rfl, ?_⟩
  walk_at "ev"
  have cl := cells_len k hR hC
  have pm := pic_mk s.row s.col s.pic 0
  rw [show (s.row : Int) + ((0 : Nat) : Int) = s.row by omega] at pm
  have key := lc2_pure (own := [("down", 4), ("line", 5), ("right", 6), ("sign", 7)]) (vs1 := [6, 7]) (tg := .tp [4, 5]) (tg1 := .tp [6, 7]) (src := .enm (.var 3)) (src1 := .enm (.var 5)) (cond1 := [.cm .NotEq (.var 7) (.gcst "HOLE" (.str "."))])
    (elt := .tup [.tup [.bin .Add (.var 1) (.var 4), .bin .Add (.var 2) (.var 6)], .var 7]) (e := [some s.d, some (.int s.row), some (.int s.col), some (.tup (s.pic.map .str)), none, none, none, none]) (h := h) (h1 := h)
    (sv := .sta (numb 0 (s.pic.map .str))) (xs := numb 0 (s.pic.map .str)) (Y := ysL) (G := mkL s.row s.col) ?_ rfl (fun _ _ => rfl) (by rw [pm, List.length_map, sz]; show s.cells.length < _; omega) ?_
  · refine ⟨_, _, key, ?_⟩
    rw [pm]
    exact ⟨rfl, gc_ref (by simp [D.cls, D.cl])⟩
  · rfl
  · intro x hx
    obtain ⟨i, hi⟩ := List.getElem?_of_mem hx
    rw [numb_at, List.getElem?_map] at hi
    obtain ⟨y, hy, rfl⟩ := Option.map_eq_some_iff.mp hi
    obtain ⟨z, hz, rfl⟩ := Option.map_eq_some_iff.mp hy
    refine ⟨_, rfl, fun acc => ⟨.sta (numb 0 (signs z)), rfl, rfl, fun _ _ => rfl, fun y hy => ?_⟩⟩
    obtain ⟨j, hj⟩ := List.getElem?_of_mem hy
    rw [show ysL (D.tup [.int ((0 + i : Nat) : Int), .str z]) = numb 0 (signs z) from rfl, numb_at, signs, List.getElem?_map] at hj
    obtain ⟨q, hq, rfl⟩ := Option.map_eq_some_iff.mp hj
    obtain ⟨c, hc, rfl⟩ := Option.map_eq_some_iff.mp hq
    refine ⟨_, rfl, fun acc => ?_⟩
    by_cases hd : c = 46
    · subst hd
      have : mkL s.row s.col (.tup [.int ((0 + i : Nat) : Int), .str z]) (.tup [.int ((0 + j : Nat) : Int), .str ⟨#[46]⟩]) = none := by
        simp only [mkL, dot_eq, if_true]
      rw [this]
      rfl
    · have : mkL s.row s.col (.tup [.int ((0 + i : Nat) : Int), .str z]) (.tup [.int ((0 + j : Nat) : Int), .str ⟨#[c]⟩]) = some (.tup [.tup [.int (s.row + ((0 + i : Nat) : Int)), .int (s.col + ((0 + j : Nat) : Int))], .str ⟨#[c]⟩]) := by
        simp only [mkL, dot_eq, if_neg hd]
      rw [this]
      have en : ((⟨#[c]⟩ : Str) == ".") = false := by
        rw [beq_eq_false_iff_ne]
        exact fun e => hd ((dot_eq c).mp e)
      constructor
      · simp only [denC_one, denT, den_var, den_gcst, getVar, List.map_cons, List.map_nil, wipeE, sets, List.set_cons_succ, List.set_cons_zero, List.getElem?_cons_succ, List.getElem?_cons_zero, bindM_some, cmpD_ness, en, opt]
        rfl
      · simp only [den_tup, dens, den_bin, den_var, getVar, List.map_cons, List.map_nil, wipeE, sets, List.set_cons_succ, List.set_cons_zero, List.getElem?_cons_succ, List.getElem?_cons_zero, bindM_some, binD, newT]
        rw [if_pos (by walk_at "fit")]
        simp only [bindM_some]
        rw [if_pos (by walk_at "fit")]
end Zp
set_option Elab.async false
set_option linter.all false
set_option autoImplicit false
set_option maxRecDepth 100000
set_option maxHeartbeats 4000000
namespace Zp
open PySem L2 Z
local macro_rules | `(tactic| walk_at "ev") => `(tactic| simp only [W_asg, W_ret, W_ifs, W_nil, W_sub', W_par, W_asgt, W_expr, W_fr, W_brk, W_cnt, W_pas, denI, List.map_cons, List.map_nil, denT, den_var, den_cst, den_gcst, den_bin, den_neg, den_nt, den_and2, den_or2, den_cmp, den_chn, den_ife, den_call, den_blt, den_mth, den_isi, den_idx, den_slc, den_lst, den_tup, den_dic, dens, getVar, WP_bind, WP_some, WP_ifn, WP_itb, wipeE, true_implies, false_implies, reduceCtorEq, denC_nil, denC_one, cmpD_eqss, isisD, isiD, isTrueD_bl, Bool.or_self, Bool.or_false, Bool.or_true, Bool.false_eq_true, Bool.not_true, Bool.not_false, BEq.rfl, cmpD_ness, cmpD_eqbb, cmpD_nebb, cmpD_is, cmpD_isnot, isNon, intsFrom_length, len_sta, List.replicate, Nat.reduceSub, List.cons_append, List.nil_append, List.getElem?_cons_zero, List.getElem?_cons_succ, W_add, W_sub, W_mul, W_mod, W_fdiv, W_pow, W_adds, W_newL, W_newT, WP_opt, semB, intD_i, Option.map_some, List.set_cons_zero, List.set_cons_succ, Option.some.injEq, exists_eq_left', true_and, and_true, Nat.zero_add, Nat.reduceAdd, aft_nx, aft_ret, aft_brk, aft_cnt, aftL_nx, aftL_ret, aftL_brk, aftL_cnt, D.tup.injEq, sets, kindD_str, kindD_tup, cmpD_eqii, cmpD_neii, cmpD_lt, cmpD_gt, cmpD_le, cmpD_ge])
local macro_rules | `(tactic| walk_at "fit") => `(tactic| (simp only [List.length_cons, List.length_nil, List.length_append, List.length_map, PySem.sizeLine_eq] <;> omega))

/-! dicts from cells to lists -/
def cellK (c : Cell) : NestedKey := .tup [.num c.1, .num c.2]
theorem cellK_inj {a b : Cell} : cellK a = cellK b ↔ a = b := by
  constructor
  · intro h
    simp only [cellK, NestedKey.tup.injEq, List.cons.injEq, NestedKey.num.injEq, and_true] at h
    exact Prod.ext h.1 h.2
  · rintro rfl
    rfl
theorem cell_key (c : Cell) : (cellD c).key = some (cellK c) := rfl
theorem cell_keyOf (c : Cell) : keyOf (cellD c) = some (cellK c) := by
  unfold keyOf
  rw [cell_key]
  have : (cellK c).depth ≤ 8 := by
    show NestedKey.depth _ ≤ 8
    simp [cellK, NestedKey.depth, NestedKey.depthAll]
  simp only [if_pos this]
abbrev Rows := List (Cell × List (Nat × Nat))
def itD (x : Nat × Nat) : D := .tup [.int x.1, sgn x.2]
def kvR : Rows → List Nat → List (D × D)
  | r :: rs, L :: ls => (cellD r.1, .ref L) :: kvR rs ls
  | _, _ => []
def idxR (c : Cell) : Rows → Option Nat
  | [] => none
  | r :: rs => if r.1 = c then some 0 else (idxR c rs).map (· + 1)
def insR (k : Nat) (rs : Rows) (x : Cell × Nat) : Rows := match idxR x.1 rs with
  | some i => rs.set i (x.1, ((rs[i]?.map (·.2)).getD []) ++ [(k, x.2)])
  | none => rs ++ [(x.1, [(k, x.2)])]
theorem idxR_some {c : Cell} : ∀ {rs : Rows} {i : Nat}, idxR c rs = some i → ∃ v, rs[i]? = some (c, v)
  | [], _, h => by cases h
  | r :: rs, i, h => by
    unfold idxR at h
    split at h
    · rename_i e
      cases h
      exact ⟨r.2, by rw [← e]; rfl⟩
    · obtain ⟨j, hj, rfl⟩ := Option.map_eq_some_iff.mp h
      obtain ⟨v, hv⟩ := idxR_some (rs := rs) hj
      exact ⟨v, by simpa using hv⟩
theorem kvR_len : ∀ {rs : Rows} {ls : List Nat}, ls.length = rs.length → (kvR rs ls).length = rs.length
  | [], [], _ => rfl
  | [], _ :: _, h => by simp at h
  | _ :: _, [], h => by simp at h
  | r :: rs, L :: ls, h => by rw [kvR, List.length_cons, List.length_cons, kvR_len (by simpa using h)]
theorem find_kvR (c : Cell) : ∀ {rs : Rows} {ls : List Nat}, ls.length = rs.length → findK (cellK c) (kvR rs ls) = (idxR c rs).bind fun i => ls[i]?.map D.ref
  | [], [], _ => rfl
  | [], _ :: _, h => by simp at h
  | _ :: _, [], h => by simp at h
  | r :: rs, L :: ls, h => by
    rw [kvR, findK, idxR]
    simp only [cell_key, Option.some.injEq, cellK_inj]
    by_cases e : r.1 = c
    · rw [if_pos e, if_pos e]; rfl
    · rw [if_neg e, if_neg e, find_kvR c (by simpa using h)]
      cases idxR c rs <;> rfl
theorem put_kvR (c : Cell) (L' : Nat) (v : List (Nat × Nat)) : ∀ {rs : Rows} {ls : List Nat}, ls.length = rs.length → putK (cellK c) (cellD c) (.ref L') (kvR rs ls) = match idxR c rs with
      | some i => kvR (rs.set i (c, v)) (ls.set i L')
      | none => kvR (rs ++ [(c, v)]) (ls ++ [L'])
  | [], [], _ => rfl
  | [], _ :: _, h => by simp at h
  | _ :: _, [], h => by simp at h
  | r :: rs, L :: ls, h => by
    rw [kvR, Z.putK, idxR]
    simp only [cell_key, Option.some.injEq, cellK_inj]
    by_cases e : r.1 = c
    · rw [if_pos e, if_pos e]
      subst e
      rfl
    · rw [if_neg e, if_neg e, put_kvR c L' v (by simpa using h)]
      cases idxR c rs <;> rfl
theorem kvR_app : ∀ {rs : Rows} {ls : List Nat}, ls.length = rs.length → ∀ (r : Cell × List (Nat × Nat)) (L : Nat), kvR rs ls ++ [(cellD r.1, .ref L)] = kvR (rs ++ [r]) (ls ++ [L])
  | [], [], _, _, _ => rfl
  | [], _ :: _, h, _, _ => by simp at h
  | _ :: _, [], h, _, _ => by simp at h
  | r :: rs, L :: ls, h, q, M => by
    rw [kvR, List.cons_append, kvR_app (by simpa using h)]
    rfl
theorem kvR_set (c : Cell) (v w : List (Nat × Nat)) : ∀ {rs : Rows} {ls : List Nat} {i : Nat}, rs[i]? = some (c, v) → kvR (rs.set i (c, w)) ls = kvR rs ls
  | [], _, _, h => by simp at h
  | r :: rs, [], _, _ => by
    rename_i i _
    cases i <;> simp [kvR]
  | r :: rs, L :: ls, 0, h => by
    simp only [List.getElem?_cons_zero, Option.some.injEq] at h
    subst h
    rfl
  | r :: rs, L :: ls, i + 1, h => by
    rw [List.set_cons_succ, kvR, kvR, kvR_set c v w (by simpa using h)]
/-- a dict at d with these rows, its lists at ls, all made from number b on -/
structure Dic (h : Hh) (b d : Nat) (rs : Rows) (ls : List Nat) : Prop where
  len : ls.length = rs.length
  dct : ∃ ep, h[d]? = some (.dct ep (kvR rs ls))
  nd : ls.Nodup
  dn : d ∉ ls
  gd : b ≤ d
  ge : ∀ L ∈ ls, b ≤ L
  at_ : ∀ (i : Nat) (r : Cell × List (Nat × Nat)) (L : Nat), rs[i]? = some r → ls[i]? = some L → h[L]? = some (.lst (r.2.map itD))
structure Small (n : Nat) (rs : Rows) : Prop where
  len : rs.length ≤ n
  row : ∀ r ∈ rs, r.2.length ≤ n
theorem Dic.lt {h : Hh} {b d : Nat} {rs : Rows} {ls : List Nat} (x : Dic h b d rs ls) : d < h.length ∧ ∀ L ∈ ls, L < h.length := by
  refine ⟨lt_of_get x.dct.choose_spec, fun L m => ?_⟩
  obtain ⟨i, hi⟩ := List.getElem?_of_mem m
  have il : i < rs.length := by
    rw [← x.len]
    exact (List.getElem?_eq_some_iff.mp hi).1
  exact lt_of_get (x.at_ i rs[i] L (List.getElem?_eq_getElem il) hi)
theorem Dic.kp {h h' : Hh} {S : List Nat} {b d : Nat} {rs : Rows} {ls : List Nat} (x : Dic h b d rs ls) (K : Kp S h h') (hd : d ∉ S) (hl : ∀ L ∈ ls, L ∉ S) : Dic h' b d rs ls := by
  obtain ⟨ep, e⟩ := x.dct
  exact ⟨x.len, ⟨ep, K.get e hd⟩, x.nd, x.dn, x.gd, x.ge, fun i r L a c => K.get (x.at_ i r L a c) (hl L (List.mem_of_getElem? c))⟩
theorem Small.ins {n k : Nat} {rs : Rows} (s : Small n rs) (x : Cell × Nat) : Small (n + 1) (insR k rs x) := by
  unfold insR
  split
  · rename_i i hi
    obtain ⟨v, hv⟩ := idxR_some hi
    refine ⟨by rw [List.length_set]; have := s.len; omega, fun r hr => ?_⟩
    rcases List.mem_or_eq_of_mem_set hr with hr | rfl
    · have := s.row r hr; omega
    · have := s.row _ (List.mem_of_getElem? hv)
      simp only [hv, Option.map_some, Option.getD_some, List.length_append, List.length_cons, List.length_nil] at this ⊢
      omega
  · refine ⟨by rw [List.length_append]; have := s.len; simp; omega, fun r hr => ?_⟩
    rcases List.mem_append.mp hr with hr | hr
    · have := s.row r hr; omega
    · have : r = (x.1, [(k, x.2)]) := by simpa using hr
      subst this
      simp
theorem nodup_set {L' : Nat} : ∀ {ls : List Nat} {i : Nat}, ls.Nodup → L' ∉ ls → (ls.set i L').Nodup
  | [], _, _, _ => by simp
  | L :: ls, 0, h, m => by
    rw [List.set_cons_zero]
    simp only [List.nodup_cons] at h ⊢
    exact ⟨fun x => m (List.mem_cons_of_mem _ x), h.2⟩
  | L :: ls, i + 1, h, m => by
    rw [List.set_cons_succ]
    simp only [List.nodup_cons] at h ⊢
    refine ⟨fun x => ?_, nodup_set h.2 fun x => m (List.mem_cons_of_mem _ x)⟩
    rcases List.mem_or_eq_of_mem_set x with x | x
    · exact h.1 x
    · exact m (by rw [← x]; exact List.mem_cons_self)
/-- one item more in the list of its cell, as it stands -/
theorem Dic.grow {h : Hh} {b d k i L : Nat} {rs : Rows} {ls : List Nat} {x : Cell × Nat} {v : List (Nat × Nat)} (X : Dic h b d rs ls) (hi : idxR x.1 rs = some i) (hv : rs[i]? = some (x.1, v)) (hL : ls[i]? = some L) :
    Dic (h.set L (.lst ((v ++ [(k, x.2)]).map itD))) b d (insR k rs x) ls := by
  have e : insR k rs x = rs.set i (x.1, v ++ [(k, x.2)]) := by
    unfold insR
    rw [hi]
    simp only [hv, Option.map_some, Option.getD_some]
  have mL := List.mem_of_getElem? hL
  have il := (List.getElem?_eq_some_iff.mp hv).1
  rw [e]
  obtain ⟨ep, hd⟩ := X.dct
  refine ⟨by rw [List.length_set]; exact X.len, ⟨ep, by rw [kvR_set x.1 v _ hv, get_ne (fun q => X.dn (by rw [q]; exact mL))]; exact hd⟩, X.nd, X.dn, X.gd, X.ge, fun j r M a c => ?_⟩
  by_cases hj : j = i
  · subst hj
    rw [List.getElem?_set_self il] at a
    cases a
    rw [hL] at c
    cases c
    exact get_set (X.at_ j _ L hv hL)
  · rw [List.getElem?_set_ne (Ne.symm hj)] at a
    have : M ≠ L := by
      rintro rfl
      exact hj ((List.getElem?_inj (List.getElem?_eq_some_iff.mp c).1 X.nd).mp (c.trans hL.symm))
    rw [get_ne this]
    exact X.at_ j r M a c
end Zp
set_option Elab.async false
set_option linter.all false
set_option autoImplicit false
set_option maxRecDepth 100000
set_option maxHeartbeats 4000000
namespace Zp
open PySem L2 Z
local macro_rules | `(tactic| walk_at "ev") => `(tactic| simp only [W_asg, W_ret, W_ifs, W_nil, W_sub', W_par, W_asgt, W_expr, W_fr, W_brk, W_cnt, W_pas, denI, List.map_cons, List.map_nil, denT, den_var, den_cst, den_gcst, den_bin, den_neg, den_nt, den_and2, den_or2, den_cmp, den_chn, den_ife, den_call, den_blt, den_mth, den_isi, den_idx, den_slc, den_lst, den_tup, den_dic, dens, getVar, WP_bind, WP_some, WP_ifn, WP_itb, wipeE, true_implies, false_implies, reduceCtorEq, denC_nil, denC_one, cmpD_eqss, isisD, isiD, isTrueD_bl, Bool.or_self, Bool.or_false, Bool.or_true, Bool.false_eq_true, Bool.not_true, Bool.not_false, BEq.rfl, cmpD_ness, cmpD_eqbb, cmpD_nebb, cmpD_is, cmpD_isnot, isNon, intsFrom_length, len_sta, List.replicate, Nat.reduceSub, List.cons_append, List.nil_append, List.getElem?_cons_zero, List.getElem?_cons_succ, W_add, W_sub, W_mul, W_mod, W_fdiv, W_pow, W_adds, W_newL, W_newT, WP_opt, semB, intD_i, Option.map_some, List.set_cons_zero, List.set_cons_succ, Option.some.injEq, exists_eq_left', true_and, and_true, Nat.zero_add, Nat.reduceAdd, aft_nx, aft_ret, aft_brk, aft_cnt, aftL_nx, aftL_ret, aftL_brk, aftL_cnt, D.tup.injEq, sets, kindD_str, kindD_tup, cmpD_eqii, cmpD_neii, cmpD_lt, cmpD_gt, cmpD_le, cmpD_ge])
local macro_rules | `(tactic| walk_at "fit") => `(tactic| (simp only [List.length_cons, List.length_nil, List.length_append, List.length_map, PySem.sizeLine_eq] <;> omega))

def oldR (c : Cell) (rs : Rows) : List (Nat × Nat) := ((idxR c rs).bind fun i => rs[i]?.map (·.2)).getD []
/-- a new list for its cell -/
theorem Dic.put {h h' : Hh} {b d k L' : Nat} {rs : Rows} {ls : List Nat} {x : Cell × Nat} (X : Dic h b d rs ls)
    (e1 : ∃ ep, h'[d]? = some (.dct ep (Z.putK (cellK x.1) (cellD x.1) (.ref L') (kvR rs ls)))) (e2 : h'[L']? = some (.lst ((oldR x.1 rs ++ [(k, x.2)]).map itD))) (e3 : ∀ L ∈ ls, h'[L]? = h[L]?) (n : L' ∉ ls) (nd : L' ≠ d) (gb : b ≤ L') :
    ∃ ls', Dic h' b d (insR k rs x) ls' ∧ ∀ L ∈ ls', L ∈ ls ∨ L = L' := by
  obtain ⟨ep, e1⟩ := e1
  rw [put_kvR x.1 L' (oldR x.1 rs ++ [(k, x.2)]) X.len] at e1
  unfold insR
  unfold oldR at e1 e2
  cases hi : idxR x.1 rs with
  | none =>
    rw [hi] at e1 e2
    refine ⟨ls ++ [L'], ⟨by rw [List.length_append, List.length_append, X.len]; rfl, ⟨ep, e1⟩, ?_, ?_, X.gd, ?_, ?_⟩, ?_⟩
    · rw [List.nodup_append]
      exact ⟨X.nd, by simp, fun a ha c hc q => n (by rw [show c = L' by simpa using hc] at q; rw [← q]; exact ha)⟩
    · intro m
      rcases List.mem_append.mp m with m | m
      · exact X.dn m
      · exact nd (by simpa using Eq.symm (by simpa using m))
    · intro L m
      rcases List.mem_append.mp m with m | m
      · exact X.ge L m
      · have : L = L' := by simpa using m
        omega
    · intro j r L a c
      rcases Nat.lt_or_ge j rs.length with hj | hj
      · rw [List.getElem?_append_left hj] at a
        rw [List.getElem?_append_left (by rw [X.len]; exact hj)] at c
        rw [e3 L (List.mem_of_getElem? c)]
        exact X.at_ j r L a c
      · rw [List.getElem?_append_right hj] at a
        rw [List.getElem?_append_right (by rw [X.len]; exact hj), X.len] at c
        have hj0 : j - rs.length = 0 := by
          have := (List.getElem?_eq_some_iff.mp a).1
          simp at this
          omega
        rw [hj0] at a c
        simp only [List.getElem?_cons_zero, Option.some.injEq] at a c
        subst a
        subst c
        exact e2
    · intro L m
      rcases List.mem_append.mp m with m | m
      · exact .inl m
      · exact .inr (by simpa using m)
  | some i =>
    rw [hi] at e1 e2
    obtain ⟨v, hv⟩ := idxR_some hi
    have il := (List.getElem?_eq_some_iff.mp hv).1
    simp only [hv, Option.map_some, Option.getD_some, Option.bind_some] at e1 e2 ⊢
    refine ⟨ls.set i L', ⟨by rw [List.length_set, List.length_set]; exact X.len, ⟨ep, e1⟩, nodup_set X.nd n, ?_, X.gd, ?_, ?_⟩, ?_⟩
    · intro m
      rcases List.mem_or_eq_of_mem_set m with m | m
      · exact X.dn m
      · exact nd m.symm
    · intro L m
      rcases List.mem_or_eq_of_mem_set m with m | m
      · exact X.ge L m
      · omega
    · intro j r L a c
      by_cases hj : j = i
      · subst hj
        rw [List.getElem?_set_self il] at a
        rw [List.getElem?_set_self (by rw [X.len]; exact il)] at c
        cases a
        cases c
        exact e2
      · rw [List.getElem?_set_ne (Ne.symm hj)] at a c
        rw [e3 L (List.mem_of_getElem? c)]
        exact X.at_ j r L a c
    · intro L m
      exact List.mem_or_eq_of_mem_set m
theorem oldR_len {c : Cell} {n : Nat} {rs : Rows} (s : Small n rs) : (oldR c rs).length ≤ n := by
  unfold oldR
  cases hi : idxR c rs with
  | none => simp
  | some i =>
    obtain ⟨v, hv⟩ := idxR_some hi
    simp only [hv, Option.bind_some, Option.map_some, Option.getD_some]
    exact s.row _ (List.mem_of_getElem? hv)
/-- what a step leaves -/
def Step (g : Hh) (b d k : Nat) (rs : Rows) (ls : List Nat) (x : Cell × Nat) (g' : Hh) : Prop := ∃ ls', Dic g' b d (insR k rs x) ls' ∧ Kp (d :: ls) g g' ∧ ∀ L ∈ ls', L ∈ ls ∨ g.length ≤ L
/-- d.setdefault(cell, []).append(it) -/
theorem step_set {g : Hh} {b d k n : Nat} {rs : Rows} {ls : List Nat} {x : Cell × Nat} {Q : D → Hh → Prop} (X : Dic g b d rs ls) (s : Small n rs) (hn : n < 16777216) (q : ∀ g', Step g b d k rs ls x g' → Q .non g') :
    WP (semM .setdef (.ref d) [cellD x.1, .ref g.length] (g ++ [.lst []])) fun a g1 => WP (semM .append a [itD (k, x.2)] g1) Q := by
  have sz := PySem.sizeLine_eq
  obtain ⟨ep, hd⟩ := X.dct
  have lt := X.lt
  have hd1 : (g ++ [O.lst []])[d]? = some (.dct ep (kvR rs ls)) := get_old hd
  simp only [semM, hd1, cell_keyOf, Option.bind_some, find_kvR x.1 X.len]
  cases hi : idxR x.1 rs with
  | some i =>
    obtain ⟨v, hv⟩ := idxR_some hi
    have il := (List.getElem?_eq_some_iff.mp hv).1
    have jl : i < ls.length := by rw [X.len]; exact il
    have hL := List.getElem?_eq_getElem jl
    simp only [Option.bind_some, hL, Option.map_some, WP_some]
    have mL := List.getElem_mem jl
    have eL := X.at_ i _ _ hv hL
    have eL1 : (g ++ [O.lst []])[ls[i]]? = some (.lst (v.map itD)) := get_old eL
    have vl := s.row _ (List.mem_of_getElem? hv)
    refine W_append eL1 (by rw [List.length_map, sz]; simp only at vl; omega) (q _ ⟨ls, ?_, Kp.more Kp.refl |>.set (.inl (by simp [mL])), fun L m => .inl m⟩)
    have X1 : Dic (g ++ [O.lst []]) b d rs ls := X.kp (S := []) Kp.new (by simp) (by simp)
    have := X1.grow (k := k) hi hv hL
    rw [List.map_append] at this
    exact this
  | none =>
    have kl : (kvR rs ls).length < sizeLine := by
      rw [kvR_len X.len, sz]
      have := s.len
      omega
    simp only [Option.bind_none, if_pos kl, WP_some]
    have ne : g.length ≠ d := by omega
    have e1 : ((g ++ [O.lst []]).set d (.dct (ep + 1) (kvR rs ls ++ [(cellD x.1, D.ref g.length)])))[g.length]? = some (.lst []) := by
      rw [get_ne ne]; exact get_end
    refine W_append e1 (by rw [sz]; decide) ?_
    obtain ⟨ls', X', hl⟩ := X.put (x := x) (k := k) (L' := g.length) (h' := (((g ++ [O.lst []]).set d (.dct (ep + 1) (kvR rs ls ++ [(cellD x.1, D.ref g.length)]))).set g.length (.lst ([] ++ [itD (k, x.2)])))) ⟨ep + 1, by
      rw [get_ne (Ne.symm ne), get_set hd1, put_kvR x.1 g.length [(k, x.2)] X.len, hi]
      simp only
      rw [← kvR_app X.len]⟩ (by rw [get_set e1]; unfold oldR; rw [hi]; rfl) (fun L m => by
        have := lt.2 L m
        rw [get_ne (by omega), get_ne (fun q => X.dn (by rw [← q]; exact m))]
        exact List.getElem?_append_left this) (fun m => by have := lt.2 _ m; omega) ne (by have := X.gd; omega)
    refine q _ ⟨ls', X', ((Kp.more Kp.refl).set (.inl (by simp))).set (.inr (Nat.le_refl _)), fun L m => ?_⟩
    rcases hl L m with z | z
    · exact .inl z
    · exact .inr (by omega)
end Zp
set_option Elab.async false
set_option linter.all false
set_option autoImplicit false
set_option maxRecDepth 100000
set_option maxHeartbeats 4000000
namespace Zp
open PySem L2 Z
local macro_rules | `(tactic| walk_at "ev") => `(tactic| simp only [W_asg, W_ret, W_ifs, W_nil, W_sub', W_par, W_asgt, W_expr, W_fr, W_brk, W_cnt, W_pas, denI, List.map_cons, List.map_nil, denT, den_var, den_cst, den_gcst, den_bin, den_neg, den_nt, den_and2, den_or2, den_cmp, den_chn, den_ife, den_call, den_blt, den_mth, den_isi, den_idx, den_slc, den_lst, den_tup, den_dic, dens, getVar, WP_bind, WP_some, WP_ifn, WP_itb, wipeE, true_implies, false_implies, reduceCtorEq, denC_nil, denC_one, cmpD_eqss, isisD, isiD, isTrueD_bl, Bool.or_self, Bool.or_false, Bool.or_true, Bool.false_eq_true, Bool.not_true, Bool.not_false, BEq.rfl, cmpD_ness, cmpD_eqbb, cmpD_nebb, cmpD_is, cmpD_isnot, isNon, intsFrom_length, len_sta, List.replicate, Nat.reduceSub, List.cons_append, List.nil_append, List.getElem?_cons_zero, List.getElem?_cons_succ, W_add, W_sub, W_mul, W_mod, W_fdiv, W_pow, W_adds, W_newL, W_newT, WP_opt, semB, intD_i, Option.map_some, List.set_cons_zero, List.set_cons_succ, Option.some.injEq, exists_eq_left', true_and, and_true, Nat.zero_add, Nat.reduceAdd, aft_nx, aft_ret, aft_brk, aft_cnt, aftL_nx, aftL_ret, aftL_brk, aftL_cnt, D.tup.injEq, sets, kindD_str, kindD_tup, cmpD_eqii, cmpD_neii, cmpD_lt, cmpD_gt, cmpD_le, cmpD_ge])
local macro_rules | `(tactic| walk_at "fit") => `(tactic| (simp only [List.length_cons, List.length_nil, List.length_append, List.length_map, PySem.sizeLine_eq] <;> omega))

def covS : Nat → List Sheet → Rows → Rows
  | _, [], rs => rs
  | k, s :: ss, rs => covS (k + 1) ss (s.cells.foldl (insR k) rs)
def Pile.cov (q : Pile) : Rows := covS 0 q.sheets []
theorem Small.mono {n m : Nat} {rs : Rows} (s : Small n rs) (x : n ≤ m) : Small m rs := ⟨Nat.le_trans s.len x, fun r h => Nat.le_trans (s.row r h) x⟩
theorem covered_ok {q : Pile} {most lines : Nat} {h : Hh} (ok : q.ok most lines) (hm : most ≤ 10) (hl : lines ≤ 8) :
    WP (Fcovered [q.d] h) fun d h' => ∃ D ls, d = .ref D ∧ Dic h' h.length D q.cov ls ∧ Kp [] h h' ∧ Small 640 q.cov := by
  refine WP_run rfl ?_
  unfold bcovered
  have sz := PySem.sizeLine_eq
  walk_at "ev"
  refine ⟨.tup (q.sheets.map Sheet.d), rfl, _, rfl, ?_⟩
  refine fr_ok (n := q.sheets.length) (I := fun k e g => ∃ (x2 x3 x4 x5 : Option D) (rs : Rows) (ls : List Nat), e = [some q.d, some (.ref h.length), x2, x3, x4, x5] ∧ Dic g h.length h.length rs ls ∧ covS k (q.sheets.drop k) rs = q.cov ∧ Small (64 * k) rs ∧ Kp [] h g) ?_ ?_ ?_ ?_
  · rw [len_sta, numb_length, List.length_map]
  · refine ⟨_, _, _, _, [], [], rfl, ⟨rfl, ⟨0, get_end⟩, List.nodup_nil, by simp, Nat.le_refl _, by simp, by simp⟩, rfl, ⟨Nat.le_refl _, by simp⟩, Kp.new⟩
  · rintro k _ g hk ⟨x2, x3, x4, x5, rs, ls, rfl, X, hc, sm, K⟩
    have ek := List.getElem?_eq_getElem hk
    have so := ok.sh _ (List.getElem_mem hk)
    have dk := List.drop_eq_getElem_cons hk
    generalize hs : q.sheets[k] = s at *
    have cl := cells_len so (Nat.le_trans ok.r8 hl) (Nat.le_trans ok.c8 hl)
    refine ⟨_, _, by rw [at_sta, numb_at, List.getElem?_map, ek]; rfl, rfl, ?_⟩
    walk_at "ev"
    refine (letters_ok so (Nat.le_trans ok.r8 hl) (Nat.le_trans ok.c8 hl)).mono ?_
    rintro _ g1 ⟨rfl, rfl⟩
    have i0 : (g ++ [O.lst (s.cells.map ltrD)])[g.length]? = some (.lst (s.cells.map ltrD)) := get_end
    refine ⟨.lst g.length, by simp only [overD, i0], ?_⟩
    rw [dk, covS] at hc
    have lt := X.lt
    refine fr_ok (n := s.cells.length) (I := fun j e g' => ∃ (x4 x5 : Option D) (rs : Rows) (ls : List Nat), e = [some q.d, some (.ref h.length), some (.int ((k : Nat) : Int)), some s.d, x4, x5] ∧ Dic g' h.length h.length rs ls ∧ g.length ∉ ls ∧ g'[g.length]? = some (.lst (s.cells.map ltrD)) ∧ covS (k + 1) (q.sheets.drop (k + 1)) ((s.cells.drop j).foldl (insR k) rs) = q.cov ∧ Small (64 * k + j) rs ∧ Kp [] h g') ?_ ?_ ?_ ?_
    · simp only [Sv.len, lstAt, i0, Option.getD_some, List.length_map]
    · exact ⟨_, _, rs, ls, rfl, X.kp (S := []) Kp.new (by simp) (by simp), fun m => by have := lt.2 _ m; omega, i0, hc, sm, K.more⟩
    · rintro j _ g' hj ⟨x4, x5, rs, ls, rfl, X', nl, e0, hc', sm', K'⟩
      have ej := List.getElem?_eq_getElem hj
      have dj := List.drop_eq_getElem_cons hj
      generalize hx : s.cells[j] = x at *
      refine ⟨_, _, by simp only [Sv.at, lstAt, e0, Option.map_some, List.getElem?_map, ej]; rfl, rfl, ?_⟩
      walk_at "ev"
      have kn : k < 10 := by have := ok.s10; omega
      obtain ⟨ep, hd⟩ := X'.dct
      refine ⟨by walk_at "fit", by rw [kindD_dct hd, kindD_dct (get_old hd)], ?_⟩
      refine (step_set (x := x) (k := k) X' sm' (by omega) (Q := fun _ g2 => Step g' h.length h.length k rs ls x g2) (fun _ z => z)).mono ?_
      rintro a g1 w
      refine ⟨by walk_at "fit", w.mono ?_⟩
      rintro _ g2 ⟨ls', X2, K2, l2⟩
      have gd : g.length ≠ h.length := by omega
      refine ⟨_, _, _, _, rfl, X2, fun m => ?_, K2.get e0 (by simp only [List.mem_cons, not_or]; exact ⟨gd, nl⟩), ?_, sm'.ins x, K'.trans' K2 ?_⟩
      · rcases l2 _ m with m | m
        · exact nl m
        · have := lt_of_get e0; omega
      · rw [dj] at hc'
        exact hc'
      · intro p hp
        rcases List.mem_cons.mp hp with rfl | hp
        · exact .inr (Nat.le_refl _)
        · exact .inr (X'.ge p hp)
    · rintro _ g' ⟨x4, x5, rs, ls, rfl, X', nl, e0, hc', sm', K'⟩
      refine ⟨by simp only [Sv.at, lstAt, e0, Option.map_some]; rw [List.getElem?_eq_none (by rw [List.length_map]; exact Nat.le_refl _)], ?_⟩
      walk_at "ev"
      rw [List.drop_of_length_le (Nat.le_refl _)] at hc'
      exact ⟨_, _, _, _, rs, ls, rfl, X', hc', sm'.mono (by omega), K'⟩
  · rintro _ g ⟨x2, x3, x4, x5, rs, ls, rfl, X, hc, sm, K⟩
    refine ⟨by rw [at_sta, List.getElem?_eq_none (by rw [numb_length, List.length_map]; exact Nat.le_refl _)], ?_⟩
    walk_at "ev"
    rw [List.drop_of_length_le (Nat.le_refl _)] at hc
    have g1 : gc h.length [D.ref h.length] g = g := gc_ref (by simp [D.cls, D.cl])
    rw [g1]
    have e : rs = q.cov := hc
    subst e
    exact ⟨_, ls, rfl, X, K, sm.mono (by have := ok.s10; omega)⟩
end Zp
set_option Elab.async false
set_option linter.all false
set_option autoImplicit false
set_option maxRecDepth 100000
set_option maxHeartbeats 4000000
namespace Zp
open PySem L2 Z
local macro_rules | `(tactic| walk_at "ev") => `(tactic| simp only [W_asg, W_ret, W_ifs, W_nil, W_sub', W_par, W_asgt, W_expr, W_fr, W_brk, W_cnt, W_pas, denI, List.map_cons, List.map_nil, denT, den_var, den_cst, den_gcst, den_bin, den_neg, den_nt, den_and2, den_or2, den_cmp, den_chn, den_ife, den_call, den_blt, den_mth, den_isi, den_idx, den_slc, den_lst, den_tup, den_dic, dens, getVar, WP_bind, WP_some, WP_ifn, WP_itb, wipeE, true_implies, false_implies, reduceCtorEq, denC_nil, denC_one, cmpD_eqss, isisD, isiD, isTrueD_bl, Bool.or_self, Bool.or_false, Bool.or_true, Bool.false_eq_true, Bool.not_true, Bool.not_false, BEq.rfl, cmpD_ness, cmpD_eqbb, cmpD_nebb, cmpD_is, cmpD_isnot, isNon, intsFrom_length, len_sta, List.replicate, Nat.reduceSub, List.cons_append, List.nil_append, List.getElem?_cons_zero, List.getElem?_cons_succ, W_add, W_sub, W_mul, W_mod, W_fdiv, W_pow, W_adds, W_newL, W_newT, WP_opt, semB, intD_i, Option.map_some, List.set_cons_zero, List.set_cons_succ, Option.some.injEq, exists_eq_left', true_and, and_true, Nat.zero_add, Nat.reduceAdd, aft_nx, aft_ret, aft_brk, aft_cnt, aftL_nx, aftL_ret, aftL_brk, aftL_cnt, D.tup.injEq, sets, kindD_str, kindD_tup, cmpD_eqii, cmpD_neii, cmpD_lt, cmpD_gt, cmpD_le, cmpD_ge])
local macro_rules | `(tactic| walk_at "fit") => `(tactic| (simp only [List.length_cons, List.length_nil, List.length_append, List.length_map, PySem.sizeLine_eq] <;> omega))

theorem get_old2 {g : Hh} {b d : Nat} {rs : Rows} {ls : List Nat} {c : Cell} (X : Dic g b d rs ls) : ∃ m, semM .get2 (.ref d) [cellD c, .ref g.length] (g ++ [.lst []]) = some (.ref m, g ++ [.lst []]) ∧ (g ++ [O.lst []])[m]? = some (.lst ((oldR c rs).map itD)) := by
  obtain ⟨ep, hd⟩ := X.dct
  have hd1 : (g ++ [O.lst []])[d]? = some (.dct ep (kvR rs ls)) := get_old hd
  simp only [semM, hd1, cell_keyOf, find_kvR c X.len, Option.map_some, oldR]
  cases hi : idxR c rs with
  | none => exact ⟨_, rfl, get_end⟩
  | some i =>
    obtain ⟨v, hv⟩ := idxR_some hi
    have il := (List.getElem?_eq_some_iff.mp hv).1
    have jl : i < ls.length := by rw [X.len]; exact il
    have hL := List.getElem?_eq_getElem jl
    simp only [Option.bind_some, hL, hv, Option.map_some, Option.getD_some]
    exact ⟨_, rfl, get_old (X.at_ i _ _ hv hL)⟩
theorem step_put {g : Hh} {b d k n : Nat} {rs : Rows} {ls : List Nat} {x : Cell × Nat} (X : Dic g b d rs ls) (s : Small n rs) (hn : n < 16777216) :
    ∃ g', setD (.ref d) (cellD x.1) (.ref (g ++ [O.lst []] ++ [O.lst [itD (k, x.2)]]).length) (g ++ [O.lst []] ++ [O.lst [itD (k, x.2)]] ++ [.lst ((oldR x.1 rs ++ [(k, x.2)]).map itD)]) = some g' ∧ Step g b d k rs ls x g' := by
  have sz := PySem.sizeLine_eq
  obtain ⟨ep, hd⟩ := X.dct
  have lt := X.lt
  generalize hg : g ++ [O.lst []] ++ [O.lst [itD (k, x.2)]] = g2
  have hl : g2.length = g.length + 2 := by rw [← hg]; simp
  have K2 : Kp [] g (g2 ++ [O.lst ((oldR x.1 rs ++ [(k, x.2)]).map itD)]) := by rw [← hg]; exact ((Kp.refl.more).more).more
  have hd1 := K2.get hd (by simp)
  have kl : (kvR rs ls).length < sizeLine := by
    rw [kvR_len X.len, sz]
    have := s.len
    omega
  simp only [setD, hd1, cell_keyOf, Option.bind_some, if_pos kl]
  obtain ⟨ls', X', l'⟩ := X.put (x := x) (k := k) (L' := g2.length) (h' := (g2 ++ [O.lst ((oldR x.1 rs ++ [(k, x.2)]).map itD)]).set d (.dct (if (findK (cellK x.1) (kvR rs ls)).isSome = true then ep else ep + 1) (Z.putK (cellK x.1) (cellD x.1) (.ref g2.length) (kvR rs ls)))) ⟨_, get_set hd1⟩ (by rw [get_ne (by omega)]; exact get_end) (fun L m => by
    rw [get_ne (fun q => X.dn (by rw [← q]; exact m))]
    exact K2.at_ L (lt.2 L m) (by simp)) (fun m => by have := lt.2 _ m; omega) (by omega) (by have := X.gd; omega)
  refine ⟨_, rfl, ls', X', (K2.mono (by simp)).set (.inl (by simp)), fun L m => ?_⟩
  rcases l' L m with z | z
  · exact .inl z
  · exact .inr (by omega)
theorem lcovered_ok {q : Pile} {most lines : Nat} {h : Hh} (ok : q.ok most lines) (hm : most ≤ 10) (hl : lines ≤ 8) :
    WP (F_law_covered [q.d] h) fun d h' => ∃ D ls, d = .ref D ∧ Dic h' h.length D q.cov ls ∧ Kp [] h h' ∧ Small 640 q.cov := by
  refine WP_run rfl ?_
  unfold b_law_covered
  have sz := PySem.sizeLine_eq
  walk_at "ev"
  refine ⟨.tup (q.sheets.map Sheet.d), rfl, _, rfl, ?_⟩
  refine fr_ok (n := q.sheets.length) (I := fun k e g => ∃ (x2 x3 x4 x5 x6 x7 x8 : Option D) (rs : Rows) (ls : List Nat), e = [some q.d, some (.ref h.length), x2, x3, x4, x5, x6, x7, x8] ∧ Dic g h.length h.length rs ls ∧ covS k (q.sheets.drop k) rs = q.cov ∧ Small (64 * k) rs ∧ Kp [] h g) ?_ ?_ ?_ ?_
  · rw [len_sta, numb_length, List.length_map]
  · exact ⟨_, _, _, _, _, _, _, [], [], rfl, ⟨rfl, ⟨0, get_end⟩, List.nodup_nil, by simp, Nat.le_refl _, by simp, by simp⟩, rfl, ⟨Nat.le_refl _, by simp⟩, Kp.new⟩
  · rintro k _ g hk ⟨x2, x3, x4, x5, x6, x7, x8, rs, ls, rfl, X, hc, sm, K⟩
    have ek := List.getElem?_eq_getElem hk
    have so := ok.sh _ (List.getElem_mem hk)
    have dk := List.drop_eq_getElem_cons hk
    generalize hs : q.sheets[k] = s at *
    have cl := cells_len so (Nat.le_trans ok.r8 hl) (Nat.le_trans ok.c8 hl)
    have kn : k < 10 := by have := ok.s10; omega
    refine ⟨_, _, by rw [at_sta, numb_at, List.getElem?_map, ek]; rfl, rfl, ?_⟩
    walk_at "ev"
    refine ⟨.tup (s.pic.map .str), rfl, _, rfl, ?_⟩
    rw [dk, covS] at hc
    refine fr_ok (n := s.pic.length) (I := fun i e g' => ∃ (x4 x5 x6 x7 x8 : Option D) (rs : Rows) (ls : List Nat) (n : Nat), e = [some q.d, some (.ref h.length), some (.int ((k : Nat) : Int)), some s.d, x4, x5, x6, x7, x8] ∧ Dic g' h.length h.length rs ls ∧ covS (k + 1) (q.sheets.drop (k + 1)) ((picL (s.row + i) s.col (s.pic.drop i)).foldl (insR k) rs) = q.cov ∧ Small n rs ∧ n + (picL (s.row + i) s.col (s.pic.drop i)).length ≤ 64 * (k + 1) ∧ Kp [] h g') ?_ ?_ ?_ ?_
    · rw [len_sta, numb_length, List.length_map]
    · refine ⟨_, _, _, _, _, rs, ls, 64 * k, rfl, X, ?_, sm, ?_, K⟩
      · rw [show (s.row : Int) + ((0 : Nat) : Int) = s.row by omega]; exact hc
      · rw [show (s.row : Int) + ((0 : Nat) : Int) = s.row by omega]
        have : (picL s.row s.col (s.pic.drop 0)).length = s.cells.length := rfl
        omega
    · rintro i _ g' hi ⟨x4, x5, x6, x7, x8, rs, ls, n, rfl, X', hc', sm', hn', K'⟩
      have ei := List.getElem?_eq_getElem hi
      have di := List.drop_eq_getElem_cons hi
      generalize hz : s.pic[i] = z at *
      refine ⟨_, _, by rw [at_sta, numb_at, List.getElem?_map, ei]; rfl, rfl, ?_⟩
      walk_at "ev"
      refine ⟨_, rfl, ?_⟩
      rw [di, picL] at hc' hn'
      have ri : (s.row : Int) + i + 1 = s.row + ((i + 1 : Nat) : Int) := by omega
      rw [ri] at hc' hn'
      refine fr_ok (n := z.cps.toList.length) (I := fun j e g' => ∃ (x6 x7 x8 : Option D) (rs : Rows) (ls : List Nat) (n : Nat), e = [some q.d, some (.ref h.length), some (.int ((k : Nat) : Int)), some s.d, some (.int ((i : Nat) : Int)), some (.str z), x6, x7, x8] ∧ Dic g' h.length h.length rs ls ∧ covS (k + 1) (q.sheets.drop (k + 1)) ((lineL (s.row + i) (s.col + j) (z.cps.toList.drop j) ++ picL (s.row + ((i + 1 : Nat) : Int)) s.col (s.pic.drop (i + 1))).foldl (insR k) rs) = q.cov ∧ Small n rs ∧ n + (lineL (s.row + i) (s.col + j) (z.cps.toList.drop j) ++ picL (s.row + ((i + 1 : Nat) : Int)) s.col (s.pic.drop (i + 1))).length ≤ 64 * (k + 1) ∧ Kp [] h g') ?_ ?_ ?_ ?_
      · rw [len_sta, numb_length, signs, List.length_map]
      · refine ⟨_, _, _, rs, ls, n, rfl, X', ?_, sm', ?_, K'⟩
        · rw [show (s.col : Int) + ((0 : Nat) : Int) = s.col by omega]; exact hc'
        · rw [show (s.col : Int) + ((0 : Nat) : Int) = s.col by omega]; exact hn'
      · rintro j _ g2 hj ⟨x6, x7, x8, rs, ls, n, rfl, X2, hc2, sm2, hn2, K2⟩
        have ej := List.getElem?_eq_getElem hj
        have dj := List.drop_eq_getElem_cons hj
        generalize hch : z.cps.toList[j] = ch at *
        rw [dj, lineL] at hc2 hn2
        have rj : (s.col : Int) + j + 1 = s.col + ((j + 1 : Nat) : Int) := by omega
        rw [rj] at hc2 hn2
        refine ⟨_, _, by rw [at_sta, numb_at, signs, List.getElem?_map, ej]; rfl, rfl, ?_⟩
        walk_at "ev"
        refine ⟨fun hb => ?_, fun hb => ?_⟩
        · have ne : ch ≠ 46 := by
            intro e
            rw [(dot_eq ch).mpr e] at hb
            simp at hb
          rw [if_neg ne] at hc2 hn2
          refine ⟨.int s.row, rfl, ?_⟩
          rw [W_add]
          refine ⟨.int s.col, rfl, ?_⟩
          rw [W_add]
          obtain ⟨ep, hd⟩ := X2.dct
          obtain ⟨m, e1, e2⟩ := get_old2 (c := (s.row + i, s.col + j)) X2
          obtain ⟨g', es, st⟩ := step_put (x := ((s.row + i, s.col + j), ch)) (k := k) X2 sm2 (by omega)
          have ol := oldR_len (c := (s.row + i, s.col + j)) sm2
          refine ⟨by walk_at "fit", by walk_at "fit", by rw [kindD_dct hd, kindD_dct (get_old hd)], ?_⟩
          refine ⟨_, _, e1, ?_⟩
          refine ⟨by walk_at "fit", by walk_at "fit", ?_⟩
          rw [W_catL (get_old e2) get_end]
          refine ⟨by rw [sz, List.length_append, List.length_map]; simp only [List.length_cons, List.length_nil]; omega, ?_⟩
          rw [List.map_append] at es
          refine ⟨g', es, ?_⟩
          obtain ⟨ls', X3, K3, l3⟩ := st
          refine ⟨_, _, _, _, ls', n + 1, rfl, X3, hc2, sm2.ins _, by simp only [List.length_append, List.length_cons] at hn2 ⊢; omega, K2.trans' K3 ?_⟩
          intro p hp
          rcases List.mem_cons.mp hp with rfl | hp
          · exact .inr (Nat.le_refl _)
          · exact .inr (X2.ge p hp)
        · have e : ch = 46 := by
            apply Classical.byContradiction
            intro ne
            have : ((⟨#[ch]⟩ : Str) == ".") = false := by
              rw [beq_eq_false_iff_ne]
              exact fun e => ne ((dot_eq ch).mp e)
            rw [this] at hb
            cases hb
          rw [if_pos e] at hc2 hn2
          exact ⟨_, _, _, rs, ls, n, rfl, X2, hc2, sm2, hn2, K2⟩
      · rintro _ g2 ⟨x6, x7, x8, rs, ls, n, rfl, X2, hc2, sm2, hn2, K2⟩
        refine ⟨by rw [at_sta, List.getElem?_eq_none (by rw [numb_length, signs, List.length_map]; exact Nat.le_refl _)], ?_⟩
        rw [List.drop_of_length_le (Nat.le_refl _), lineL, List.nil_append] at hc2 hn2
        exact ⟨_, _, _, _, _, rs, ls, n, rfl, X2, hc2, sm2, hn2, K2⟩
    · rintro _ g' ⟨x4, x5, x6, x7, x8, rs, ls, n, rfl, X', hc', sm', hn', K'⟩
      refine ⟨by rw [at_sta, List.getElem?_eq_none (by rw [numb_length, List.length_map]; exact Nat.le_refl _)], ?_⟩
      rw [List.drop_of_length_le (Nat.le_refl _), picL] at hc' hn'
      exact ⟨_, _, _, _, _, _, _, rs, ls, rfl, X', hc', sm'.mono (by simpa using hn'), K'⟩
  · rintro _ g ⟨x2, x3, x4, x5, x6, x7, x8, rs, ls, rfl, X, hc, sm, K⟩
    refine ⟨by rw [at_sta, List.getElem?_eq_none (by rw [numb_length, List.length_map]; exact Nat.le_refl _)], ?_⟩
    walk_at "ev"
    rw [List.drop_of_length_le (Nat.le_refl _)] at hc
    have g1 : gc h.length [D.ref h.length] g = g := gc_ref (by simp [D.cls, D.cl])
    rw [g1]
    have e : rs = q.cov := hc
    subst e
    exact ⟨_, ls, rfl, X, K, sm.mono (by have := ok.s10; omega)⟩
end Zp
set_option Elab.async false
set_option linter.all false
set_option autoImplicit false
set_option maxRecDepth 100000
set_option maxHeartbeats 4000000
namespace Z
open PySem L2 Z
local macro_rules | `(tactic| walk_at "ev") => `(tactic| simp only [W_asg, W_ret, W_ifs, W_nil, W_sub', W_par, W_asgt, W_expr, W_fr, W_brk, W_cnt, W_pas, denI, List.map_cons, List.map_nil, denT, den_var, den_cst, den_gcst, den_bin, den_neg, den_nt, den_and2, den_or2, den_cmp, den_chn, den_ife, den_call, den_blt, den_mth, den_isi, den_idx, den_slc, den_lst, den_tup, den_dic, dens, getVar, WP_bind, WP_some, WP_ifn, WP_itb, wipeE, true_implies, false_implies, reduceCtorEq, denC_nil, denC_one, cmpD_eqss, isisD, isiD, isTrueD_bl, Bool.or_self, Bool.or_false, Bool.or_true, Bool.false_eq_true, Bool.not_true, Bool.not_false, BEq.rfl, cmpD_ness, cmpD_eqbb, cmpD_nebb, cmpD_is, cmpD_isnot, isNon, intsFrom_length, len_sta, List.replicate, Nat.reduceSub, List.cons_append, List.nil_append, List.getElem?_cons_zero, List.getElem?_cons_succ, W_add, W_sub, W_mul, W_mod, W_fdiv, W_pow, W_adds, W_newL, W_newT, WP_opt, semB, intD_i, Option.map_some, List.set_cons_zero, List.set_cons_succ, Option.some.injEq, exists_eq_left', true_and, and_true, Nat.zero_add, Nat.reduceAdd, aft_nx, aft_ret, aft_brk, aft_cnt, aftL_nx, aftL_ret, aftL_brk, aftL_cnt, D.tup.injEq, sets, kindD_str, kindD_tup, cmpD_eqii, cmpD_neii, cmpD_lt, cmpD_gt, cmpD_le, cmpD_ge])
local macro_rules | `(tactic| walk_at "fit") => `(tactic| (simp only [List.length_cons, List.length_nil, List.length_append, List.length_map, PySem.sizeLine_eq] <;> omega))

/-! repr of values without lists and dicts -/
mutual
/-- a bound of the text's length -/
def wt : D → Nat
  | .int _ => 2000
  | .str x => 10 * x.length + 2
  | .tup xs => wts xs + 8
  | .rol xs => wts xs + 8
  | _ => 8
def wts : List D → Nat
  | [] => 0
  | x :: xs => wt x + 2 + wts xs
end
mutual
def fine : D → Bool
  | .int i => decide (i.natAbs.log2 < 1920)
  | .str x => x.cps.toList.all fun c => decide (c < 4294967296)
  | .tup xs => fines xs
  | .rol xs => fines xs
  | .ref _ => false
  | _ => true
def fines : List D → Bool
  | [] => true
  | x :: xs => fine x && fines xs
end
mutual
def dpt : D → Nat
  | .tup xs => dpts xs + 1
  | .rol xs => dpts xs + 1
  | _ => 0
def dpts : List D → Nat
  | [] => 0
  | x :: xs => max (dpt x) (dpts xs)
end
theorem glued_le : ∀ ts : List Str, (Str.join ", " ts).length ≤ piled ts
  | [] => Nat.zero_le _
  | x :: xs => by
    have := join_length_add (x :: xs) (by simp)
    omega
theorem strLen_app (a b : Str) : (a ++ b).length = a.length + b.length := strLen_append a b
theorem tupleText_le (ts : List Str) : (tupleText ts).length ≤ piled ts + 4 := by
  unfold tupleText
  have a := glued_le ts
  have e1 : (("(" : Str)).length = 1 := rfl
  rw [strLen_app, strLen_app, e1]
  have : ((if ts.length == 1 then ",)" else ")" : String) : Str).length ≤ 2 := by split <;> decide
  omega
theorem listText_le (ts : List Str) : (listText ts).length ≤ piled ts + 4 := by
  cases ts with
  | nil => rw [listText_nil]; decide
  | cons t r =>
    have h := textFrom_length_pos r 1 (("[" : Str) ++ (if (0 : Nat) > 0 then ", " else "" : String) ++ t) (Nat.succ_pos 0)
    show (textFrom 1 (("[" : Str) ++ (if (0 : Nat) > 0 then ", " else "" : String) ++ t) r ++ ("]" : Str)).length ≤ _
    rw [strLen_app, h, strLen_app, strLen_app, piled_cons]
    have e1 : (("[" : Str)).length = 1 := rfl
    have e2 : (("]" : Str)).length = 1 := rfl
    have e3 : ((if (0 : Nat) > 0 then ", " else "" : String) : Str).length = 0 := rfl
    omega
mutual
theorem rep_pure {f : Nat → Option PyData} : ∀ {d : D}, fine d = true → ∃ p : PyData, (∀ f, py0 f d = some p) ∧ p.showable = true ∧ p.hasDict = false ∧ p.shown.length ≤ wt d ∧ p.depth = dpt d
  | .non, _ => ⟨.none, fun _ => rfl, rfl, rfl, by show (("None" : Str)).length ≤ 8; decide, rfl⟩
  | .bl b, _ => ⟨.bool b, fun _ => rfl, rfl, rfl, by simp only [PyData.shown, wt]; cases b <;> decide, rfl⟩
  | .int i, h => ⟨.int i, fun _ => rfl, h, rfl, by
      simp only [fine, decide_eq_true_eq] at h
      have := PyProof.Rows.int_text_len_1921 h
      simp only [PyData.shown, wt]
      omega, rfl⟩
  | .str x, h => ⟨.str x, fun _ => rfl, rfl, rfl, by
      simp only [fine, List.all_eq_true, decide_eq_true_eq] at h
      exact PySem.StrLaws.reprText_len x fun c m => h c m, rfl⟩
  | .tup xs, h => by
    obtain ⟨ps, a, b, c, e, g⟩ := reps_pure (f := f) (show fines xs = true from h)
    refine ⟨.tuple ps, fun f => by rw [py0, a f]; rfl, b, c, ?_, by simp only [PyData.depth, dpt, g]⟩
    have := tupleText_le (PyData.shownAll ps)
    simp only [PyData.shown, wt]
    omega
  | .rol xs, h => by
    obtain ⟨ps, a, b, c, e, g⟩ := reps_pure (f := f) (show fines xs = true from h)
    refine ⟨.list ps, fun f => by rw [py0, a f]; rfl, b, c, ?_, by simp only [PyData.depth, dpt, g]⟩
    have := listText_le (PyData.shownAll ps)
    simp only [PyData.shown, wt]
    omega
  | .ref _, h => by cases h
theorem reps_pure {f : Nat → Option PyData} : ∀ {xs : List D}, fines xs = true → ∃ ps : List PyData, (∀ f, pys0 f xs = some ps) ∧ PyData.showableAll ps = true ∧ PyData.hasDictAll ps = false ∧ piled (PyData.shownAll ps) ≤ wts xs ∧ PyData.depthAll ps = dpts xs
  | [], _ => ⟨[], fun _ => rfl, rfl, rfl, Nat.le_refl _, rfl⟩
  | x :: xs, h => by
    simp only [fines, Bool.and_eq_true] at h
    obtain ⟨p, a, b, c, e, g⟩ := rep_pure (f := f) h.1
    obtain ⟨ps, a', b', c', e', g'⟩ := reps_pure (f := f) h.2
    refine ⟨p :: ps, fun f => by rw [pys0, a f, a' f], by simp only [PyData.showableAll, b, b', Bool.and_self], by simp only [PyData.hasDictAll, c, c', Bool.or_self], ?_, by simp only [PyData.depthAll, dpts, g, g']⟩
    rw [PyData.shownAll, piled_cons, wts]
    omega
end
theorem repr_ok {xs : List D} (h : fines xs = true) (w : wts xs + 8 ≤ 16777216) (p : dpts xs < 60) : ∃ s, ∀ h, reprD (.tup xs) h = some s := by
  obtain ⟨d, a, b, c, e, g⟩ := rep_pure (f := fun _ => none) (d := .tup xs) h
  refine ⟨d.shown, fun h => ?_⟩
  have sz := PySem.sizeLine_eq
  simp only [wt, dpt] at e g
  simp only [reprD, reprD.rep0, pyD, a]
  rw [if_pos ⟨b, by omega, by omega, c⟩]
/-! equal to itself -/
theorem eqL_refl {f : D → D → Option Bool} : ∀ {xs : List D}, (∀ x ∈ xs, f x x = some true) → eqL f xs xs = some true
  | [], _ => rfl
  | x :: xs, h => by
    rw [eqL, h x (by simp), eqL_refl fun y m => h y (by simp [m])]
    rfl
end Z
namespace Zp
open PySem L2 Z
theorem ltr_sam {h : Hh} {n : Nat} (x : Nat × Nat) : Sam h (n + 2) (itD x) (itD x) := by
  refine ⟨rfl, by simp, fun i a b e1 e2 => ?_⟩
  rw [e1] at e2
  cases e2
  have : a = .int x.1 ∨ a = sgn x.2 := by
    have := List.mem_of_getElem? e1
    simpa using this
  rcases this with rfl | rfl
  · exact (rfl : (x.1 : Int) = x.1)
  · exact (rfl : (⟨#[x.2]⟩ : Str) = _)
/-- the cells of a dict, sorted -/
def keysD (rs : Rows) : List D := rs.map fun r => cellD r.1
def sorted (rs : Rows) : List D := if rs = [] then [] else sortB ltPr (keysD rs)
theorem kvR_keys : ∀ {rs : Rows} {ls : List Nat}, ls.length = rs.length → (kvR rs ls).map (·.1) = keysD rs
  | [], [], _ => rfl
  | [], _ :: _, h => by simp at h
  | _ :: _, [], h => by simp at h
  | r :: rs, L :: ls, h => by
    rw [kvR, List.map_cons, kvR_keys (by simpa using h)]
    rfl
theorem sortD_keys (rs : Rows) : sortD (keysD rs) = some (sorted rs) := by
  unfold sorted
  cases rs with
  | nil => rfl
  | cons r rs =>
    have a : (keysD (r :: rs)).all isI = false := rfl
    have b : (keysD (r :: rs)).all isP = true := by
      rw [List.all_eq_true]
      intro x hx
      obtain ⟨y, _, rfl⟩ := List.mem_map.mp hx
      rfl
    unfold sortD
    rw [a, b]
    rfl
theorem sorted_mem {rs : Rows} {x : D} : x ∈ sorted rs ↔ x ∈ keysD rs := by
  unfold sorted
  split
  · rename_i h
    subst h
    exact Iff.rfl
  · exact (sort_stb swoP).perm.mem_iff
theorem sorted_len {rs : Rows} : (sorted rs).length = rs.length := by
  unfold sorted
  split
  · rename_i h
    subst h
    rfl
  · rw [(sort_stb swoP).perm.length_eq, keysD, List.length_map]
theorem eqF_cell {h : Hh} {n : Nat} (c : Cell) : eqF h (n + 2) (cellD c) (cellD c) = some true := by
  simp [eqF, cellD, eqL]
end Zp
set_option Elab.async false
set_option linter.all false
set_option autoImplicit false
set_option maxRecDepth 100000
set_option maxHeartbeats 4000000
namespace Zp
open PySem L2 Z
local macro_rules | `(tactic| walk_at "ev") => `(tactic| simp only [W_asg, W_ret, W_ifs, W_nil, W_sub', W_par, W_asgt, W_expr, W_fr, W_brk, W_cnt, W_pas, denI, List.map_cons, List.map_nil, denT, den_var, den_cst, den_gcst, den_bin, den_neg, den_nt, den_and2, den_or2, den_cmp, den_chn, den_ife, den_call, den_blt, den_mth, den_isi, den_idx, den_slc, den_lst, den_tup, den_dic, dens, getVar, WP_bind, WP_some, WP_ifn, WP_itb, wipeE, true_implies, false_implies, reduceCtorEq, denC_nil, denC_one, cmpD_eqss, isisD, isiD, isTrueD_bl, Bool.or_self, Bool.or_false, Bool.or_true, Bool.false_eq_true, Bool.not_true, Bool.not_false, BEq.rfl, cmpD_ness, cmpD_eqbb, cmpD_nebb, cmpD_is, cmpD_isnot, isNon, intsFrom_length, len_sta, List.replicate, Nat.reduceSub, List.cons_append, List.nil_append, List.getElem?_cons_zero, List.getElem?_cons_succ, W_add, W_sub, W_mul, W_mod, W_fdiv, W_pow, W_adds, W_newL, W_newT, WP_opt, semB, intD_i, Option.map_some, List.set_cons_zero, List.set_cons_succ, Option.some.injEq, exists_eq_left', true_and, and_true, Nat.zero_add, Nat.reduceAdd, aft_nx, aft_ret, aft_brk, aft_cnt, aftL_nx, aftL_ret, aftL_brk, aftL_cnt, D.tup.injEq, sets, kindD_str, kindD_tup, cmpD_eqii, cmpD_neii, cmpD_lt, cmpD_gt, cmpD_le, cmpD_ge])
local macro_rules | `(tactic| walk_at "fit") => `(tactic| (simp only [List.length_cons, List.length_nil, List.length_append, List.length_map, PySem.sizeLine_eq] <;> omega))

/-! each cell once -/
abbrev Rows.keys (rs : Rows) : List Cell := rs.map (·.1)
theorem idxR_none {c : Cell} : ∀ {rs : Rows}, idxR c rs = none → c ∉ rs.keys
  | [], _ => by simp
  | r :: rs, h => by
    unfold idxR at h
    split at h
    · cases h
    · rename_i ne
      have := idxR_none (rs := rs) (by cases q : idxR c rs with | none => rfl | some i => rw [q] at h; cases h)
      intro m
      rcases List.mem_cons.mp m with m | m
      · exact ne m.symm
      · exact this m
theorem idxR_at : ∀ {rs : Rows} {i : Nat} {r : Cell × List (Nat × Nat)}, rs.keys.Nodup → rs[i]? = some r → idxR r.1 rs = some i
  | [], _, _, _, h => by simp at h
  | q :: rs, 0, r, _, h => by
    simp only [List.getElem?_cons_zero, Option.some.injEq] at h
    subst h
    unfold idxR
    rw [if_pos rfl]
  | q :: rs, i + 1, r, nd, h => by
    have h' : rs[i]? = some r := by simpa using h
    have nd' := List.nodup_cons.mp nd
    unfold idxR
    rw [if_neg (fun e => nd'.1 (List.mem_map.mpr ⟨r, List.mem_of_getElem? h', e.symm⟩)), idxR_at nd'.2 h']
    rfl
theorem insR_keys {k : Nat} {rs : Rows} (x : Cell × Nat) (nd : rs.keys.Nodup) : (insR k rs x).keys.Nodup := by
  unfold insR
  cases hi : idxR x.1 rs with
  | some i =>
    obtain ⟨v, hv⟩ := idxR_some hi
    have il := (List.getElem?_eq_some_iff.mp hv).1
    have : Rows.keys (rs.set i (x.1, ((rs[i]?.map (·.2)).getD []) ++ [(k, x.2)])) = rs.keys := by
      refine List.ext_getElem? fun j => ?_
      simp only [Rows.keys, List.getElem?_map]
      by_cases hj : j = i
      · subst hj
        rw [List.getElem?_set_self il, hv]
        rfl
      · rw [List.getElem?_set_ne (Ne.symm hj)]
    simp only [this]
    exact nd
  | none =>
    have := idxR_none hi
    simp only [Rows.keys, List.map_append, List.map_cons, List.map_nil]
    rw [List.nodup_append]
    exact ⟨nd, by simp, fun a ha c hc q => this (by rw [show c = x.1 by simpa using hc] at q; rw [← q]; exact ha)⟩
theorem fold_keys {k : Nat} : ∀ (xs : List (Cell × Nat)) {rs : Rows}, rs.keys.Nodup → (xs.foldl (insR k) rs).keys.Nodup
  | [], _, h => h
  | x :: xs, _, h => fold_keys xs (insR_keys x h)
theorem covS_keys : ∀ (ss : List Sheet) (k : Nat) {rs : Rows}, rs.keys.Nodup → (covS k ss rs).keys.Nodup
  | [], _, _, h => h
  | s :: ss, k, _, h => covS_keys ss (k + 1) (fold_keys s.cells h)
theorem cov_keys (q : Pile) : q.cov.keys.Nodup := covS_keys q.sheets 0 List.nodup_nil
/-! [d[cell] for cell in sorted(d)] -/
def toV (rs : Rows) (ls : List Nat) (x : D) : Option D := x.key.bind fun k => findK k (kvR rs ls)
theorem srt_ok {g : Hh} {b d n : Nat} {rs : Rows} {ls : List Nat} (X : Dic g b d rs ls) (s : Small n rs) (hn : n < 16777216) : srtM (.ref d) g = some (.ref g.length, g ++ [.lst (sorted rs)]) := by
  obtain ⟨ep, hd⟩ := X.dct
  have sz := PySem.sizeLine_eq
  have := s.len
  simp only [srtM, itmOf, Z.listOf, hd, kvR_keys X.len, Option.bind_some, sortD_keys, newL]
  rw [if_pos (by rw [sorted_len]; omega)]
theorem toV_ok {g : Hh} {b d : Nat} {rs : Rows} {ls : List Nat} (X : Dic g b d rs ls) {x : D} (hx : x ∈ sorted rs) : ∃ i c v L, x = cellD c ∧ idxR c rs = some i ∧ rs[i]? = some (c, v) ∧ ls[i]? = some L ∧ toV rs ls x = some (.ref L) := by
  rw [sorted_mem] at hx
  obtain ⟨r, hr, rfl⟩ := List.mem_map.mp hx
  cases hi : idxR r.1 rs with
  | none => exact absurd (List.mem_map.mpr ⟨r, hr, rfl⟩) (idxR_none hi)
  | some i =>
    obtain ⟨v, hv⟩ := idxR_some hi
    have il := (List.getElem?_eq_some_iff.mp hv).1
    have jl : i < ls.length := by rw [X.len]; exact il
    have hL := List.getElem?_eq_getElem jl
    refine ⟨i, r.1, v, _, rfl, hi, hv, hL, ?_⟩
    unfold toV
    rw [cell_key, Option.bind_some, find_kvR r.1 X.len, hi, Option.bind_some, hL]
    rfl
theorem vals_ok {g : Hh} {b d n v : Nat} {rs : Rows} {ls : List Nat} {e : En} (X : Dic g b d rs ls) (s : Small n rs) (hn : n < 16777216) (hv : e[v]? = some (some (.ref d))) (hl : e.length = 9) (v8 : v < 8) :
    den (.lc [("cell", 8)] (.nm 8) (.over (.blt .sorted [.var v])) [] (.idx (.var v) (.var 8))) e g = some (.ref (g.length + 1), g ++ [.lst (sorted rs)] ++ [.lst ((sorted rs).filterMap (toV rs ls))]) := by
  have sz := PySem.sizeLine_eq
  have sl := s.len
  have key := lc_pure (own := [("cell", 8)]) (tg := .nm 8) (src := .over (.blt .sorted [.var v])) (cond := []) (elt := .idx (.var v) (.var 8)) (e := e) (h := g) (h1 := g ++ [.lst (sorted rs)]) (sv := .lst g.length) (xs := sorted rs) (G := toV rs ls) ?_ ?_ ?_ ?_ ?_
  · rw [key, List.length_append]
    rfl
  · have eb : semB .sorted [D.ref d] g = some (.ref g.length, g ++ [.lst (sorted rs)]) := srt_ok X s hn
    rw [denI, den_blt, dens, den_var, getVar, hv]
    simp only [bindM_some, dens, eb, overD, get_end, opt]
  · simp only [Sv.len, lstAt, get_end, Option.getD_some]
  · intro acc i
    have : (g ++ [O.lst (sorted rs)] ++ [O.lst acc])[g.length]? = some (.lst (sorted rs)) := get_old get_end
    simp only [Sv.at, lstAt, this, Option.map_some]
  · rw [sorted_len, sz]; omega
  · intro x hx acc
    obtain ⟨i, c, w, L, rfl, hi, hw, hL, et⟩ := toV_ok X hx
    refine ⟨_, rfl, ?_⟩
    rw [et]
    obtain ⟨ep, hd⟩ := X.dct
    have hd1 : (g ++ [O.lst (sorted rs)] ++ [O.lst acc])[d]? = some (.dct ep (kvR rs ls)) := get_old (get_old hd)
    have a1 : ((wipeE e [8]).set 8 (some (cellD c)))[v]? = some (some (.ref d)) := by
      simp only [wipeE]
      rw [List.getElem?_set_ne (by omega), List.getElem?_set_ne (by omega), hv]
    have a2 : ((wipeE e [8]).set 8 (some (cellD c)))[8]? = some (some (cellD c)) := by
      simp only [wipeE]
      rw [List.getElem?_set_self (by simp [hl])]
    refine ⟨by rw [denC_nil], ?_⟩
    simp only [List.map_cons, List.map_nil, den_idx, den_var, getVar, a1, a2, bindM_some, idxD, hd1, cell_keyOf, Option.bind_some, find_kvR c X.len, hi, hL, Option.map_some, opt]
/-- both dicts' values are the same -/
theorem fm_pair {G1 G2 : D → Option D} {P : D → D → Prop} : ∀ {ks : List D}, (∀ x ∈ ks, ∃ y z, G1 x = some y ∧ G2 x = some z ∧ P y z) → (ks.filterMap G1).length = ks.length ∧ (ks.filterMap G2).length = ks.length ∧ ∀ (i : Nat) (x y : D), (ks.filterMap G1)[i]? = some x → (ks.filterMap G2)[i]? = some y → P x y
  | [], _ => ⟨rfl, rfl, fun i x y h => by simp at h⟩
  | k :: ks, h => by
    obtain ⟨y, z, a, b, c⟩ := h k (by simp)
    obtain ⟨d, e, f⟩ := fm_pair (ks := ks) fun x m => h x (by simp [m])
    rw [List.filterMap_cons, List.filterMap_cons, a, b]
    refine ⟨by simp [d], by simp [e], fun i x y h1 h2 => ?_⟩
    cases i with
    | zero =>
      simp only [List.getElem?_cons_zero, Option.some.injEq] at h1 h2
      subst h1
      subst h2
      exact c
    | succ i => exact f i x y (by simpa using h1) (by simpa using h2)
theorem vals_sam {g g' : Hh} {b b' d d' n : Nat} {rs : Rows} {ls ls' : List Nat} (X : Dic g b d rs ls) (X' : Dic g' b' d' rs ls') (s : Small n rs) (hn : n < 16777216) {a a' : Nat} (K : Kp [] g g') (ea : g'[a]? = some (.lst ((sorted rs).filterMap (toV rs ls)))) (ea' : g'[a']? = some (.lst ((sorted rs).filterMap (toV rs ls')))) :
    Sam g' 4 (.ref a) (.ref a') := by
  have := fm_pair (G1 := toV rs ls) (G2 := toV rs ls') (P := Sam g' 3) (ks := sorted rs) fun x hx => by
    obtain ⟨i, c, v, L, rfl, hi, hv, hL, et⟩ := toV_ok X hx
    obtain ⟨i', c', v', L', ec, hi', hv', hL', et'⟩ := toV_ok X' hx
    have cc : cellK c = cellK c' := by
      have := congrArg D.key ec
      rw [cell_key, cell_key] at this
      exact Option.some.inj this
    rw [cellK_inj] at cc
    subst cc
    rw [hi] at hi'
    cases hi'
    rw [hv] at hv'
    cases hv'
    refine ⟨_, _, et, et', v.map itD, v.map itD, K.get (X.at_ i _ L hv hL) (by simp), X'.at_ i _ L' hv hL', rfl, ?_, ?_⟩
    · have := s.row _ (List.mem_of_getElem? hv)
      rw [List.length_map]
      simp only at this
      omega
    · intro j x y e1 e2
      rw [e1] at e2
      cases e2
      rw [List.getElem?_map] at e1
      obtain ⟨z, _, rfl⟩ := Option.map_eq_some_iff.mp e1
      exact ltr_sam z
  refine ⟨_, _, ea, ea', by rw [this.1, this.2.1], by rw [this.1, sorted_len]; have := s.len; omega, this.2.2⟩
/-- a list and another one with the same items -/
theorem ne_same {h : Hh} {a b : Nat} {xs : List D} (ea : h[a]? = some (.lst xs)) (eb : h[b]? = some (.lst xs)) (hx : ∀ x ∈ xs, eqF h 30 x x = some true) : cmpD .NotEq (.ref a) (.ref b) h = some false := by
  simp only [cmpD, eqD, lstAt, ea, eb]
  split
  · rfl
  · rw [if_pos trivial, eqL_refl hx]
    rfl
theorem cnt_ltr {h : Hh} : ∀ v : List (Nat × Nat), cntD h .non (v.map itD ++ [.non]) = some 1
  | [] => by simp [cntD, eqF]
  | x :: v => by
    rw [List.map_cons, List.cons_append, cntD, cnt_ltr v]
    simp [eqF, itD]
/-- .. that all have None once -/
theorem cnts_ok {g : Hh} {d ep : Nat} {rs : Rows} {ls : List Nat} {e : En} (hl : ls.length = rs.length) (nd : rs.keys.Nodup) (hd : g[d]? = some (.dct ep (kvR rs ls))) (ha : ∀ (i : Nat) (r : Cell × List (Nat × Nat)) (L : Nat), rs[i]? = some r → ls[i]? = some L → g[L]? = some (.lst (r.2.map itD ++ [.non])))
    (hn : rs.length < 16777216) (hv : e[7]? = some (some (.ref d))) (h9 : e.length = 9) :
    den (.lc [("cell", 8)] (.nm 8) (.over (.var 7)) [.cm .NotEq (.mth .count (.idx (.var 7) (.var 8)) [.cst .non]) (.cst (.int 1))] (.var 8)) e g = some (.ref g.length, g ++ [.lst []]) := by
  have sz := PySem.sizeLine_eq
  have key := lc_pure (own := [("cell", 8)]) (tg := .nm 8) (src := .over (.var 7)) (cond := [.cm .NotEq (.mth .count (.idx (.var 7) (.var 8)) [.cst .non]) (.cst (.int 1))]) (elt := .var 8) (e := e) (h := g) (h1 := g) (sv := .key d ep (kvR rs ls).length) (xs := keysD rs) (G := fun _ => none) ?_ ?_ ?_ ?_ ?_
  · rw [key]
    simp
  · rw [denI, den_var, getVar, hv]
    simp only [bindM_some, overD, hd, opt]
  · simp only [Sv.len, kvR_len hl, keysD, List.length_map]
  · intro acc i
    have hd1 : (g ++ [O.lst acc])[d]? = some (.dct ep (kvR rs ls)) := get_old hd
    simp only [Sv.at, hd1, and_self, if_true]
    rw [← kvR_keys hl, List.getElem?_map]
  · rw [keysD, List.length_map, sz]; exact hn
  · intro x hx acc
    obtain ⟨r, hr, rfl⟩ := List.mem_map.mp hx
    obtain ⟨i, hi⟩ := List.getElem?_of_mem hr
    have il := (List.getElem?_eq_some_iff.mp hi).1
    have hL := List.getElem?_eq_getElem (show i < ls.length by omega)
    have hd1 : (g ++ [O.lst acc])[d]? = some (.dct ep (kvR rs ls)) := get_old hd
    have hb1 : (g ++ [O.lst acc])[ls[i]]? = some (.lst (r.2.map itD ++ [.non])) := get_old (ha i r _ hi hL)
    refine ⟨_, rfl, ?_⟩
    have a1 : ((wipeE e [8]).set 8 (some (cellD r.1)))[7]? = some (some (.ref d)) := by
      simp only [wipeE]
      rw [List.getElem?_set_ne (by omega), List.getElem?_set_ne (by omega), hv]
    have a2 : ((wipeE e [8]).set 8 (some (cellD r.1)))[8]? = some (some (cellD r.1)) := by
      simp only [wipeE]
      rw [List.getElem?_set_self (by simp [h9])]
    simp only [List.map_cons, List.map_nil, denC_one, denT, den_mth, den_idx, den_var, den_cst, dens, getVar, a1, a2, bindM_some, idxD, hd1, cell_keyOf, Option.bind_some, find_kvR r.1 hl, idxR_at nd hi, hL, Option.map_some, opt, if_true, semM, hb1, cnt_ltr, cmpD_neii]
    rfl
end Zp
set_option Elab.async false
set_option linter.all false
set_option autoImplicit false
set_option maxRecDepth 100000
set_option maxHeartbeats 4000000
namespace Zp
open PySem L2 Z
local macro_rules | `(tactic| walk_at "ev") => `(tactic| simp only [W_asg, W_ret, W_ifs, W_nil, W_sub', W_par, W_asgt, W_expr, W_fr, W_brk, W_cnt, W_pas, denI, List.map_cons, List.map_nil, denT, den_var, den_cst, den_gcst, den_bin, den_neg, den_nt, den_and2, den_or2, den_cmp, den_chn, den_ife, den_call, den_blt, den_mth, den_isi, den_idx, den_slc, den_lst, den_tup, den_dic, dens, getVar, WP_bind, WP_some, WP_ifn, WP_itb, wipeE, true_implies, false_implies, reduceCtorEq, denC_nil, denC_one, cmpD_eqss, isisD, isiD, isTrueD_bl, Bool.or_self, Bool.or_false, Bool.or_true, Bool.false_eq_true, Bool.not_true, Bool.not_false, BEq.rfl, cmpD_ness, cmpD_eqbb, cmpD_nebb, cmpD_is, cmpD_isnot, isNon, intsFrom_length, len_sta, List.replicate, Nat.reduceSub, List.cons_append, List.nil_append, List.getElem?_cons_zero, List.getElem?_cons_succ, W_add, W_sub, W_mul, W_mod, W_fdiv, W_pow, W_adds, W_newL, W_newT, WP_opt, semB, intD_i, Option.map_some, List.set_cons_zero, List.set_cons_succ, Option.some.injEq, exists_eq_left', true_and, and_true, Nat.zero_add, Nat.reduceAdd, aft_nx, aft_ret, aft_brk, aft_cnt, aftL_nx, aftL_ret, aftL_brk, aftL_cnt, D.tup.injEq, sets, kindD_str, kindD_tup, cmpD_eqii, cmpD_neii, cmpD_lt, cmpD_gt, cmpD_le, cmpD_ge])
local macro_rules | `(tactic| walk_at "fit") => `(tactic| (simp only [List.length_cons, List.length_nil, List.length_append, List.length_map, PySem.sizeLine_eq] <;> omega))
def b_k03 (g_law_open : Fn) (g_law_draw_pile : Fn) (g_law_one_of : Fn) (g_law_covered : Fn) (gcovered : Fn) (g_law_same : Fn) : List Sm :=
   [.asg (.nm 1) (.call "_law_open" g_law_open [.var 0]),
    .fr (.nm 2) (.rng [.cst (.int 6)]) [.asg (.nm 3) (.call "_law_draw_pile" g_law_draw_pile [.var 1, .cst (.int 10), .call "_law_one_of" g_law_one_of [.var 1, .lst [.cst (.int 2), .cst (.int 4), .cst (.int 8)]]]),
    .asg (.tp [5, 6]) (.tup [.call "_law_covered" g_law_covered [.var 3], .blt .repr [.var 3]]),
    .fr (.nm 4) (.rng [.cst (.int 2)]) [.asg (.nm 7) (.call "covered" gcovered [.var 3]),
    .ifs (.or2 (.nt (.val (.isi (.var 7) [.dict]))) (.or2 (.cm .NotEq (.blt .sorted [.var 7]) (.blt .sorted [.var 5])) (.cm .NotEq (.blt .repr [.var 3]) (.var 6)))) [.ret (.cst (.bl false))] [],
    .ifs (.nt (.val (.call "_law_same" g_law_same [.lc [("cell", 8)] (.nm 8) (.over (.blt .sorted [.var 7])) [] (.idx (.var 7) (.var 8)), .lc [("cell", 8)] (.nm 8) (.over (.blt .sorted [.var 5])) [] (.idx (.var 5) (.var 8))]))) [.ret (.cst (.bl false))] [],
    .fr (.nm 8) (.over (.var 7)) [.ex (.mth .append (.idx (.var 7) (.var 8)) [.cst (.non)])],
    .ifs (.cm .NotEq (.lc [("cell", 8)] (.nm 8) (.over (.var 7)) [.cm .NotEq (.mth .count (.idx (.var 7) (.var 8)) [.cst (.non)]) (.cst (.int 1))] (.var 8)) (.lst [])) [.ret (.cst (.bl false))] [],
    .sub (.var 7) (.cst (.non)) (.lst [])]],
    .ret (.cst (.bl true))]
def F_k03 : Fn := runDef 9 1 (b_k03 F_law_open F_law_draw_pile F_law_one_of F_law_covered Fcovered (F_law_same 8))
theorem fines_str : ∀ {zs : List Str}, (∀ z ∈ zs, ∃ C, Line C z) → fines (zs.map .str) = true
  | [], _ => rfl
  | z :: zs, h => by
    obtain ⟨C, l⟩ := h z (by simp)
    rw [List.map_cons, fines, fines_str fun y m => h y (by simp [m]), fine, Bool.and_true, List.all_eq_true]
    intro c hc
    have := l.2 c hc
    simp only [decide_eq_true_eq]
    rcases this with rfl | ⟨_, h2⟩ <;> omega
theorem wts_str {C : Nat} : ∀ {zs : List Str}, (∀ z ∈ zs, Line C z) → wts (zs.map .str) = zs.length * (10 * C + 4)
  | [], _ => by simp [wts]
  | z :: zs, h => by
    rw [List.map_cons, wts, wts_str fun y m => h y (by simp [m]), wt, str_len, (h z (by simp)).1, List.length_cons, Nat.succ_mul]
    simp only [Nat.add_mul, Nat.one_mul]; omega
theorem dpts_str : ∀ zs : List Str, dpts (zs.map .str) = 0
  | [] => rfl
  | z :: zs => by
    rw [List.map_cons, dpts, dpts_str zs]
    rfl
theorem log_n (n : Nat) (h : n < 100) : (decide ((n : Int).natAbs.log2 < 1920)) = true := by
  rw [decide_eq_true_eq]
  have := log_b (i := (n : Int)) (by omega)
  omega
theorem sheet_fine {R C : Nat} {s : Sheet} (k : s.ok R C) (hR : R ≤ 8) (hC : C ≤ 8) : fine s.d = true ∧ wt s.d ≤ 5000 ∧ dpt s.d = 2 := by
  obtain ⟨H, W, h1, w1, pc, a, b⟩ := k
  have f := fines_str (zs := s.pic) fun z m => ⟨W, pc.2.1 z m⟩
  have w := wts_str (zs := s.pic) (C := W) fun z m => pc.2.1 z m
  rw [pc.1] at w
  have : H * (10 * W + 4) ≤ 8 * 84 := Nat.mul_le_mul (by omega) (by omega)
  refine ⟨?_, ?_, ?_⟩
  · simp only [Sheet.d, fine, fines, f, log_n s.row (by omega), log_n s.col (by omega), Bool.and_true]
  · simp only [Sheet.d, wt, wts]
    omega
  · simp only [Sheet.d, dpt, dpts, dpts_str]
    rfl
theorem sheets_fine {R C : Nat} (hR : R ≤ 8) (hC : C ≤ 8) : ∀ {ss : List Sheet}, (∀ s ∈ ss, s.ok R C) → fines (ss.map Sheet.d) = true ∧ wts (ss.map Sheet.d) ≤ ss.length * 5002 ∧ dpts (ss.map Sheet.d) ≤ 2
  | [], _ => ⟨rfl, by simp [wts], by simp [dpts]⟩
  | s :: ss, h => by
    obtain ⟨a, b, c⟩ := sheet_fine (h s (by simp)) hR hC
    obtain ⟨a', b', c'⟩ := sheets_fine hR hC (ss := ss) fun y m => h y (by simp [m])
    refine ⟨by rw [List.map_cons, fines, a, a']; rfl, by rw [List.map_cons, wts, List.length_cons, Nat.succ_mul]; omega, by rw [List.map_cons, dpts]; omega⟩
theorem pile_repr {q : Pile} {most lines : Nat} (ok : q.ok most lines) (hm : most ≤ 10) (hl : lines ≤ 8) : ∃ s, ∀ h, reprD q.d h = some s := by
  obtain ⟨a, b, c⟩ := sheets_fine (Nat.le_trans ok.r8 hl) (Nat.le_trans ok.c8 hl) ok.sh
  have := ok.s10
  have r8 := ok.r8
  have c8 := ok.c8
  have w : q.sheets.length * 5002 ≤ 10 * 5002 := Nat.mul_le_mul (by omega) (Nat.le_refl _)
  refine repr_ok ?_ ?_ ?_
  · simp only [fines, fine, a, log_n q.rows (by omega), log_n q.cols (by omega), Bool.and_true]
  · simp only [wts, wt]
    omega
  · simp only [dpts, dpt]
    omega
theorem hp_k03 (ns : List Int) (hn : ns.length ≤ 63) : ∃ h', F_k03 [.rol (ns.map .int)] [] = some (.bl true, h') := by
  have key : WP (F_k03 [.rol (ns.map .int)] []) fun d _ => d = .bl true := by
    refine WP_run rfl ?_
    unfold b_k03
    have sz := PySem.sizeLine_eq
    walk_at "ev"
    refine (open_ok ns hn).mono ?_
    rintro _ h1 ⟨rfl, l1, P1⟩
    refine ⟨_, range1 (by decide) (by decide), ?_⟩
    refine fr_ok (n := 6) (I := fun i e g => ∃ (x2 x3 x4 x5 x6 x7 x8 : Option D), e = [some (.rol (ns.map .int)), some (.ref 3), x2, x3, x4, x5, x6, x7, x8] ∧ Pen (4000 * i) 3 1 g) ?_ ?_ ?_ ?_
    · rfl
    · exact ⟨_, _, _, _, _, _, _, rfl, P1⟩
    · rintro i _ g hi ⟨x2, x3, x4, x5, x6, x7, x8, rfl, P⟩
      refine ⟨_, _, by rw [at_sta]; exact congrArg some (intsFrom_get 6 0 i hi), rfl, ?_⟩
      walk_at "ev"
      refine ⟨by walk_at "fit", ?_⟩
      have lt := P.lt
      refine (one_of_lst P.more (by omega) (by omega) get_end (by decide) (by decide)).mono ?_
      rintro w g1 ⟨hw, P2, K1⟩
      have e : ∃ k : Nat, w = .int ((k : Nat) : Int) ∧ 1 ≤ k ∧ k ≤ 8 := by
        simp only [List.mem_cons, List.not_mem_nil, or_false] at hw
        rcases hw with rfl | rfl | rfl
        · exact ⟨2, rfl, by decide, by decide⟩
        · exact ⟨4, rfl, by decide, by decide⟩
        · exact ⟨8, rfl, by decide, by decide⟩
      obtain ⟨lines, rfl, ln1, ln8⟩ := e
      refine (pile_ok (most := 10) P2 (by omega) (by decide) (by decide) ln1 ln8).mono ?_
      rintro _ g2 ⟨q, rfl, ok, P3, K2⟩
      refine (lcovered_ok ok (by decide) ln8).mono ?_
      rintro _ g3 ⟨Dd, lsd, rfl, Xd, Kd, sm⟩
      obtain ⟨tx, htx⟩ := pile_repr ok (by decide) ln8
      simp only [htx, Option.map_some, Option.some.injEq, exists_eq_left']
      refine ⟨by walk_at "fit", _, range1 (by decide) (by decide), ?_⟩
      have l2 : g.length + 1 ≤ g2.length := by
        have a := K1.len
        have b := K2.len
        rw [List.length_append] at a
        simp only [List.length_cons, List.length_nil] at a
        omega
      generalize hb : g2.length = b0 at *
      refine fr_ok (n := 2) (I := fun j e g' => ∃ (x4 x7 x8 : Option D), e = [some (.rol (ns.map .int)), some (.ref 3), some (.int (0 + (i : Int))), some q.d, x4, some (.ref Dd), some (.str tx), x7, x8] ∧ Pen (4000 * i + 1 + 3000) 3 1 g' ∧ Dic g' b0 Dd q.cov lsd) ?_ ?_ ?_ ?_
      · rfl
      · exact ⟨_, _, _, rfl, P3.kp Kd (by simp) (by simp), Xd⟩
      · rintro j _ g4 hj ⟨x4, x7, x8, rfl, P4, X4⟩
        refine ⟨_, _, by rw [at_sta]; exact congrArg some (intsFrom_get 2 0 j hj), rfl, ?_⟩
        walk_at "ev"
        refine (covered_ok ok (by decide) ln8).mono ?_
        rintro _ g5 ⟨D5, ls5, rfl, X5, K5, _⟩
        obtain ⟨ep, hd⟩ := X5.dct
        have X45 := X4.kp K5 (by simp) (by simp)
        have s7 : srtM (.ref D5) g5 = some (.ref g5.length, g5 ++ [.lst (sorted q.cov)]) := srt_ok X5 sm (by decide)
        have s5 : srtM (.ref Dd) (g5 ++ [O.lst (sorted q.cov)]) = some (.ref (g5 ++ [O.lst (sorted q.cov)]).length, g5 ++ [O.lst (sorted q.cov)] ++ [.lst (sorted q.cov)]) := srt_ok (X45.kp (S := []) Kp.new (by simp) (by simp)) sm (by decide)
        generalize hg6 : g5 ++ [O.lst (sorted q.cov)] ++ [O.lst (sorted q.cov)] = g6 at *
        have K56 : Kp [] g5 g6 := by rw [← hg6]; exact Kp.refl.more.more
        have c1 : cmpD .NotEq (.ref g5.length) (.ref (g5 ++ [O.lst (sorted q.cov)]).length) g6 = some false := by
          refine ne_same (xs := sorted q.cov) (by rw [← hg6]; exact get_old get_end) (by rw [← hg6]; exact get_end) fun x hx => ?_
          rw [sorted_mem] at hx
          obtain ⟨r, _, rfl⟩ := List.mem_map.mp hx
          exact eqF_cell _
        have X6 := X5.kp K56 (by simp) (by simp)
        have X46 := X45.kp K56 (by simp) (by simp)
        have c2 : ∀ hh, cmpD .NotEq (.str tx) (.str tx) hh = some false := fun hh => by rw [cmpD_ness]; simp
        simp only [hd, Option.some.injEq, exists_eq_left', Bool.not_true, reduceCtorEq, false_implies, true_implies, Bool.or_false, Option.map_some, isTrueD_bl, true_and, s7, s5, WP_some, c1, htx, c2]
        have lG : g6.length = g5.length + 2 := by rw [← hg6]; simp
        generalize hE : [some (D.rol (ns.map .int)), some (D.ref 3), some (D.int (0 + (i : Int))), some q.d, some (D.int (0 + (j : Int))), some (D.ref Dd), some (D.str tx), some (D.ref D5), x8] = E
        have e7 : E[7]? = some (some (.ref D5)) := by rw [← hE]; rfl
        have e5 : E[5]? = some (some (.ref Dd)) := by rw [← hE]; rfl
        have e9 : E.length = 9 := by rw [← hE]; rfl
        have v7 := vals_ok (v := 7) (e := E) X6 sm (by decide) e7 e9 (by decide)
        rw [v7]
        simp only [WP_some]
        generalize hv7 : (sorted q.cov).filterMap (toV q.cov ls5) = w7 at *
        have Ka : Kp [] g6 (g6 ++ [O.lst (sorted q.cov)] ++ [O.lst w7]) := Kp.refl.more.more
        have X7 := X6.kp Ka (by simp) (by simp)
        have X47 := X46.kp Ka (by simp) (by simp)
        have i7 : (g6 ++ [O.lst (sorted q.cov)] ++ [O.lst w7])[g6.length + 1]? = some (.lst w7) := get_at (by simp)
        generalize hg7 : g6 ++ [O.lst (sorted q.cov)] ++ [O.lst w7] = g7 at *
        have v5 := vals_ok (v := 5) (e := E) X47 sm (by decide) e5 e9 (by decide)
        rw [v5]
        simp only [WP_some]
        generalize hv5 : (sorted q.cov).filterMap (toV q.cov lsd) = w5 at *
        have Kb : Kp [] g7 (g7 ++ [O.lst (sorted q.cov)] ++ [O.lst w5]) := Kp.refl.more.more
        have X8 := X7.kp Kb (by simp) (by simp)
        have X48 := X47.kp Kb (by simp) (by simp)
        have i5 : (g7 ++ [O.lst (sorted q.cov)] ++ [O.lst w5])[g7.length + 1]? = some (.lst w5) := get_at (by simp)
        have i78 := Kb.get i7 (by simp)
        generalize hg8 : g7 ++ [O.lst (sorted q.cov)] ++ [O.lst w5] = g8 at *
        rw [← hv7] at i78
        rw [← hv5] at i5
        refine (same_ok (vals_sam X8 X48 sm (by decide) Kp.refl i78 i5) (by decide)).mono ?_
        rintro _ g9 ⟨rfl, K9⟩
        have K59 : Kp [] g5 g9 := ((K56.trans Ka).trans Kb).trans K9
        obtain ⟨ep9, hd9⟩ : ∃ ep, g9[D5]? = some (.dct ep (kvR q.cov ls5)) := ⟨ep, K59.get hd (by simp)⟩
        have X9 := X5.kp K59 (by simp) (by simp)
        have K49 : Kp [] g4 g9 := K5.trans K59
        simp only [isTrueD_bl, Option.some.injEq, exists_eq_left', Bool.not_true, reduceCtorEq, false_implies, true_implies, true_and]
        refine ⟨.key D5 ep9 (kvR q.cov ls5).length, by simp only [overD, hd9], ?_⟩
        have smr := sm.len
        refine fr_ok (n := q.cov.length) (I := fun k e g' => ∃ y8 : Option D, e = [some (.rol (ns.map .int)), some (.ref 3), some (.int (0 + (i : Int))), some q.d, some (.int (0 + (j : Int))), some (.ref Dd), some (.str tx), some (.ref D5), y8] ∧ g'[D5]? = some (.dct ep9 (kvR q.cov ls5)) ∧ (∀ (m : Nat) (r : Cell × List (Nat × Nat)) (L : Nat), q.cov[m]? = some r → ls5[m]? = some L → g'[L]? = some (.lst (r.2.map itD ++ if m < k then [.non] else []))) ∧ Kp [] g4 g') ?_ ?_ ?_ ?_
        · simp only [Sv.len, kvR_len X5.len]
        · exact ⟨x8, hE.symm, hd9, fun m r L a c => by rw [X9.at_ m r L a c]; simp, K49⟩
        · rintro k _ g' hk ⟨y8, rfl, hd', ha', K'⟩
          have ek := List.getElem?_eq_getElem hk
          have lk : k < ls5.length := by rw [X5.len]; exact hk
          have eL := List.getElem?_eq_getElem lk
          generalize hr : q.cov[k] = r at *
          generalize hL : ls5[k] = L at *
          have kk : (kvR q.cov ls5)[k]?.map (·.1) = some (cellD r.1) := by
            rw [← List.getElem?_map, kvR_keys X5.len, keysD, List.getElem?_map, ek]
            rfl
          refine ⟨cellD r.1, _, ?_, rfl, ?_⟩
          · simp only [Sv.at, hd', and_self, if_true, kk]
          · have fk : findK (cellK r.1) (kvR q.cov ls5) = some (.ref L) := by
              rw [find_kvR r.1 X5.len, idxR_at (cov_keys q) ek, Option.bind_some, eL]
              rfl
            have hL' := ha' k r L ek eL
            have rl := sm.row r (List.mem_of_getElem? ek)
            walk_at "ev"
            simp only [idxD, hd', cell_keyOf, Option.bind_some, fk, Option.some.injEq, exists_eq_left', true_and]
            refine W_append hL' ?_ ?_
            · rw [if_neg (Nat.lt_irrefl _), List.length_append, List.length_map, sz]
              simp only [List.length_nil]
              omega
            · refine ⟨_, rfl, ?_, ?_, K'.set (.inr ?_)⟩
              · rw [get_ne (fun e => X5.dn (by rw [e]; exact List.mem_of_getElem? eL))]
                exact hd'
              · intro m r' M a c
                by_cases hm : m = k
                · subst hm
                  rw [ek] at a
                  rw [eL] at c
                  cases a
                  cases c
                  rw [get_set hL', if_neg (Nat.lt_irrefl _), if_pos (Nat.lt_succ_self _), List.append_nil]
                · have ne : M ≠ L := by
                    rintro rfl
                    exact hm ((List.getElem?_inj (List.getElem?_eq_some_iff.mp c).1 X5.nd).mp (c.trans eL.symm))
                  rw [get_ne ne, ha' m r' M a c]
                  congr 3
                  by_cases hlt : m < k
                  · rw [if_pos hlt, if_pos (by omega)]
                  · rw [if_neg hlt, if_neg (by omega)]
              · exact X5.ge L (List.mem_of_getElem? eL)
        · rintro _ g' ⟨y8, rfl, hd', ha', K'⟩
          refine ⟨?_, ?_⟩
          · simp only [Sv.at, hd', and_self, if_true]
            rw [List.getElem?_eq_none (by rw [kvR_len X5.len]; exact Nat.le_refl _)]
            rfl
          · simp only [aft_nx]
            have cn := cnts_ok (e := [some (.rol (ns.map .int)), some (.ref 3), some (.int (0 + (i : Int))), some q.d, some (.int (0 + (j : Int))), some (.ref Dd), some (.str tx), some (.ref D5), y8]) X5.len (cov_keys q) hd' (fun m r L a c => by
              rw [ha' m r L a c, if_pos (List.getElem?_eq_some_iff.mp a).1]) (by omega) rfl rfl
            rw [cn]
            simp only [WP_some]
            have c3 : cmpD .NotEq (.ref g'.length) (.ref (g' ++ [O.lst []]).length) (g' ++ [O.lst []] ++ [O.lst []]) = some false := ne_same (xs := []) (get_old get_end) get_end (by simp)
            have hd'' : (g' ++ [O.lst []] ++ [O.lst []] ++ [O.lst []])[D5]? = some (.dct ep9 (kvR q.cov ls5)) := get_old (get_old (get_old hd'))
            simp only [c3, Option.some.injEq, exists_eq_left', reduceCtorEq, false_implies, true_implies, true_and, List.getElem?_cons_succ, List.getElem?_cons_zero, WP_some]
            have kn : keyOf D.non = some .none := rfl
            have kl : (kvR q.cov ls5).length < sizeLine := by rw [kvR_len X5.len, sz]; omega
            simp only [setD, hd'', kn, Option.bind_some, if_pos kl, Option.some.injEq, exists_eq_left']
            have Kf : ∀ o, Kp [] g4 ((g' ++ [O.lst []] ++ [O.lst []] ++ [O.lst []]).set D5 o) := fun o => (((K'.more).more).more).set (.inr X5.gd)
            refine ⟨by walk_at "fit", by walk_at "fit", _, _, _, rfl, P4.kp (Kf _) (by simp) (by simp), X4.kp (Kf _) (by simp) (by simp)⟩
      · rintro _ g' ⟨x4, x7, x8, rfl, P4, X4⟩
        refine ⟨rfl, ?_⟩
        walk_at "ev"
        exact ⟨_, _, _, _, _, _, _, rfl, P4.mono (by omega)⟩
    · rintro _ g ⟨x2, x3, x4, x5, x6, x7, x8, rfl, P⟩
      refine ⟨rfl, ?_⟩
      walk_at "ev"
  obtain ⟨d, h', e, rfl⟩ := key
  exact ⟨h', e⟩
end Zp
namespace Zk
open PySem L2 Z
local macro_rules | `(tactic| walk_at "cal_tac") => `(tactic| (simp only [CalSs, CalS, Cal, Cals, CalT, CalC, CalI, and_true, true_and] <;> first | trivial | (repeat' apply And.intro) <;> first | assumption | trivial))
def top (i : Nat) : Stmt := PySem.Challenge.pw_laidsheets_k03_covered_cells.main.body.getD i (.Pass ⟨0, 0, 0, 0⟩)
def bletters_of : List Sm :=
   [.asg (.tp [1, 2, 3]) (.var 0),
    .ret (.lc2 [("down", 4), ("line", 5), ("right", 6), ("sign", 7)] [6, 7] (.tp [4, 5]) (.enm (.var 3)) [] (.tp [6, 7]) (.enm (.var 5)) [.cm .NotEq (.var 7) (.gcst "HOLE" (.str "."))] (.tup [.tup [.bin .Add (.var 1) (.var 4), .bin .Add (.var 2) (.var 6)], .var 7]))]
def Fletters_of : Fn := runDef 8 1 (bletters_of)
def nletters_of : List Str := ["sheet", "row", "column", "picture", "down", "line", "right", "sign"]
theorem scletters_of : FnScope nletters_of ["sheet"] (defScope (top 2)) := ⟨rfl, rfl, rfl, by decide +kernel, rfl, by decide +kernel, by decide +kernel⟩
theorem ckletters_of : chkSs { N := nletters_of, sc := defScope (top 2), bn := ["enumerate"] } (bletters_of) (defBody (top 2)) = true := by decide +kernel
def bcovered (gletters_of : Fn) : List Sm :=
   [.asg (.nm 1) (.dic [] []),
    .fr (.tp [2, 3]) (.enm (.idx (.var 0) (.cst (.int 2)))) [.fr (.tp [4, 5]) (.over (.call "letters_of" gletters_of [.var 3])) [.ex (.mth .append (.mth .setdef (.var 1) [.var 4, .lst []]) [.tup [.var 2, .var 5]])]],
    .ret (.var 1)]
def Fcovered : Fn := runDef 6 1 (bcovered Fletters_of)
def ncovered : List Str := ["pile", "cells", "s", "sheet", "cell", "letter"]
theorem sccovered : FnScope ncovered ["pile"] (defScope (top 3)) := ⟨rfl, rfl, rfl, by decide +kernel, rfl, by decide +kernel, by decide +kernel⟩
theorem ckcovered : chkSs { N := ncovered, sc := defScope (top 3), bn := ["enumerate"] } (bcovered Fletters_of) (defBody (top 3)) = true := by decide +kernel
def b_law_open : List Sm :=
   [.asg (.nm 1) (.blt .list [.slc (.var 0) [] [.cst (.int 12)]]),
    .fr (.tp [2, 3]) (.enm (.slc (.var 0) [.cst (.int 12)] [.cst (.int 63)])) [.sub (.var 1) (.bin .Mod (.blt .int [.var 2]) (.cst (.int 12))) (.bin .Add (.idx (.var 1) (.bin .Mod (.blt .int [.var 2]) (.cst (.int 12)))) (.var 3))],
    .ret (.lst [.var 1, .cst (.int 0), .cst (.int 0)])]
def F_law_open : Fn := runDef 4 1 (b_law_open)
def n_law_open : List Str := ["script", "cells", "k", "cell"]
theorem sc_law_open : FnScope n_law_open ["script"] (defScope (top 5)) := ⟨rfl, rfl, rfl, by decide +kernel, rfl, by decide +kernel, by decide +kernel⟩
theorem ck_law_open : chkSs { N := n_law_open, sc := defScope (top 5), bn := ["list", "enumerate", "int"] } (b_law_open) (defBody (top 5)) = true := by decide +kernel
def b_law_spread : List Sm :=
   [.ifs (.cm .GtE (.var 0) (.bin .Pow (.cst (.int 10)) (.cst (.int 18)))) [.ret (.var 0)] [],
    .asg (.nm 2) (.lst [.cst (.int 2147483629), .cst (.int 2147483587), .cst (.int 2147483579), .cst (.int 2147483563), .cst (.int 2147483549), .cst (.int 2147483543), .cst (.int 2147483497), .cst (.int 2147483489)]),
    .asg (.nm 2) (.bin .Add (.var 2) (.lst [.cst (.int 2147483477), .cst (.int 2147483423), .cst (.int 2147483399), .cst (.int 2147483353), .cst (.int 2147483323)])),
    .asg (.nm 3) (.bin .Add (.bin .Add (.bin .Mult (.bin .Mod (.blt .int [.var 0]) (.cst (.int 1000000007))) (.bin .Add (.bin .Mult (.cst (.int 2)) (.var 1)) (.cst (.int 69069)))) (.bin .Mult (.var 1) (.cst (.int 40503)))) (.cst (.int 977))),
    .asg (.nm 3) (.bin .Mod (.blt .int [.bin .Pow (.var 3) (.cst (.int 3))]) (.idx (.var 2) (.bin .Mod (.blt .int [.var 1]) (.cst (.int 13))))),
    .asg (.nm 4) (.bin .Mod (.blt .int [.bin .Pow (.bin .Add (.bin .Add (.bin .Mult (.var 3) (.bin .Add (.var 1) (.cst (.int 3)))) (.bin .Mod (.blt .int [.var 0]) (.cst (.int 65537)))) (.cst (.int 5))) (.cst (.int 5))]) (.idx (.var 2) (.bin .Mod (.blt .int [.bin .Add (.var 1) (.cst (.int 5))]) (.cst (.int 13))))),
    .asg (.nm 5) (.bin .Mod (.blt .int [.bin .Pow (.bin .Add (.bin .Add (.var 4) (.bin .Mod (.blt .int [.var 3]) (.cst (.int 1009)))) (.var 1)) (.cst (.int 3))]) (.idx (.var 2) (.bin .Mod (.blt .int [.bin .Add (.var 1) (.cst (.int 7))]) (.cst (.int 13))))),
    .ret (.bin .Add (.bin .Mult (.bin .Add (.bin .Mult (.var 3) (.cst (.int 2147483647))) (.var 4)) (.cst (.int 2147483647))) (.var 5))]
def F_law_spread : Fn := runDef 6 2 (b_law_spread)
def n_law_spread : List Str := ["cell", "at", "primes", "one", "two", "three"]
theorem sc_law_spread : FnScope n_law_spread ["cell", "at"] (defScope (top 6)) := ⟨rfl, rfl, rfl, by decide +kernel, rfl, by decide +kernel, by decide +kernel⟩
theorem ck_law_spread : chkSs { N := n_law_spread, sc := defScope (top 6), bn := ["int"] } (b_law_spread) (defBody (top 6)) = true := by decide +kernel
def b_law_take (g_law_spread : Fn) : List Sm :=
   [.ifs (.cm .Lt (.idx (.var 0) (.cst (.int 2))) (.var 1)) [.asg (.nm 2) (.idx (.var 0) (.cst (.int 1))),
    .asg (.nm 3) (.cst (.int 0)),
    .ifs (.cm .Lt (.var 2) (.blt .len [.idx (.var 0) (.cst (.int 0))])) [.asg (.nm 3) (.idx (.idx (.var 0) (.cst (.int 0))) (.var 2))] [.ifs (.cm .Gt (.blt .len [.idx (.var 0) (.cst (.int 0))]) (.cst (.int 0))) [.asg (.nm 3) (.bin .Mod (.blt .int [.idx (.idx (.var 0) (.cst (.int 0))) (.bin .Mod (.blt .int [.bin .Add (.bin .Mult (.var 2) (.cst (.int 5))) (.cst (.int 3))]) (.blt .len [.idx (.var 0) (.cst (.int 0))]))]) (.bin .Add (.bin .Pow (.cst (.int 10)) (.cst (.int 17))) (.var 2)))] []],
    .sub (.var 0) (.cst (.int 1)) (.bin .Add (.var 2) (.cst (.int 1))),
    .sub (.var 0) (.cst (.int 2)) (.call "_law_spread" g_law_spread [.var 3, .var 2])] [],
    .asg (.nm 4) (.bin .Mod (.blt .int [.idx (.var 0) (.cst (.int 2))]) (.var 1)),
    .sub (.var 0) (.cst (.int 2)) (.bin .FloorDiv (.idx (.var 0) (.cst (.int 2))) (.var 1)),
    .ret (.var 4)]
def F_law_take : Fn := runDef 5 2 (b_law_take F_law_spread)
def n_law_take : List Str := ["pen", "amount", "at", "cell", "found"]
theorem sc_law_take : FnScope n_law_take ["pen", "amount"] (defScope (top 7)) := ⟨rfl, rfl, rfl, by decide +kernel, rfl, by decide +kernel, by decide +kernel⟩
theorem ck_law_take : chkSs { N := n_law_take, sc := defScope (top 7), bn := ["len", "int"] } (b_law_take F_law_spread) (defBody (top 7)) = true := by decide +kernel
def b_law_same (g_law_same : Fn) : List Sm :=
   [.ifs (.or2 (.cm .Is (.var 1) (.cst (.non))) (.cm .Is (.var 0) (.cst (.non)))) [.ret (.and2 (.cmp .Is (.var 1) (.cst (.non))) (.cmp .Is (.var 0) (.cst (.non))))] [],
    .ifs (.or2 (.val (.isi (.var 1) [.bool])) (.val (.isi (.var 0) [.bool]))) [.ret (.and2 (.isi (.var 1) [.bool]) (.and2 (.isi (.var 0) [.bool]) (.cmp .Eq (.var 0) (.var 1))))] [],
    .ifs (.val (.isi (.var 1) [.int, .str])) [.ifs (.cm .NotEq (.isi (.var 0) [.int]) (.isi (.var 1) [.int])) [.ret (.cst (.bl false))] [],
    .ret (.and2 (.isi (.var 0) [.int, .str]) (.cmp .Eq (.var 0) (.var 1)))] [],
    .ifs (.or2 (.cm .NotEq (.isi (.var 1) [.tuple]) (.isi (.var 0) [.tuple])) (.cm .NotEq (.isi (.var 1) [.list]) (.isi (.var 0) [.list]))) [.ret (.cst (.bl false))] [],
    .ifs (.cm .NotEq (.blt .len [.var 0]) (.blt .len [.var 1])) [.ret (.cst (.bl false))] [],
    .ret (.cmp .NotIn (.cst (.bl false)) (.lc [("one", 2), ("other", 3)] (.tp [2, 3]) (.zp (.var 0) (.var 1)) [] (.call "_law_same" g_law_same [.var 2, .var 3])))]
def F_law_same : Nat → Fn
  | 0 => fun _ _ => none
  | k + 1 => runDef 4 2 (b_law_same (F_law_same k))
def n_law_same : List Str := ["found", "due", "one", "other"]
theorem sc_law_same : FnScope n_law_same ["found", "due"] (defScope (top 8)) := ⟨rfl, rfl, rfl, by decide +kernel, rfl, by decide +kernel, by decide +kernel⟩
theorem ck_law_same : ∀ j : Fin 8, chkSs { N := n_law_same, sc := defScope (top 8), bn := ["isinstance", "bool", "int", "str", "tuple", "list", "len", "zip"] } (b_law_same (F_law_same j.val)) (defBody (top 8)) = true := by decide +kernel
def b_law_one_of (g_law_take : Fn) : List Sm :=
   [.ret (.idx (.var 1) (.call "_law_take" g_law_take [.var 0, .blt .len [.var 1]]))]
def F_law_one_of : Fn := runDef 2 2 (b_law_one_of F_law_take)
def n_law_one_of : List Str := ["pen", "some"]
theorem sc_law_one_of : FnScope n_law_one_of ["pen", "some"] (defScope (top 9)) := ⟨rfl, rfl, rfl, by decide +kernel, rfl, by decide +kernel, by decide +kernel⟩
theorem ck_law_one_of : chkSs { N := n_law_one_of, sc := defScope (top 9), bn := ["len"] } (b_law_one_of F_law_take) (defBody (top 9)) = true := by decide +kernel
def b_law_alphabet (g_law_take : Fn) (g_law_one_of : Fn) : List Sm :=
   [.par [1, 2] [.cst (.str "abcdefghijklmnopqrstuvwxyz"), .call "_law_take" g_law_take [.var 0, .cst (.int 26)]],
    .ret (.slc (.bin .Add (.var 1) (.var 1)) [.var 2] [.bin .Add (.var 2) (.call "_law_one_of" g_law_one_of [.var 0, .lst [.cst (.int 1), .cst (.int 2), .cst (.int 3), .cst (.int 3), .cst (.int 5)]])])]
def F_law_alphabet : Fn := runDef 3 1 (b_law_alphabet F_law_take F_law_one_of)
def n_law_alphabet : List Str := ["pen", "letters", "far"]
theorem sc_law_alphabet : FnScope n_law_alphabet ["pen"] (defScope (top 10)) := ⟨rfl, rfl, rfl, by decide +kernel, rfl, by decide +kernel, by decide +kernel⟩
theorem ck_law_alphabet : chkSs { N := n_law_alphabet, sc := defScope (top 10), bn := [] } (b_law_alphabet F_law_take F_law_one_of) (defBody (top 10)) = true := by decide +kernel
def b_law_draw_picture (g_law_one_of : Fn) (g_law_take : Fn) : List Sm :=
   [.asg (.tp [4, 5]) (.tup [.call "_law_one_of" g_law_one_of [.var 0, .lst [.cst (.int 2), .cst (.int 5), .cst (.int 99)]], .lst []]),
    .fr (.nm 6) (.rng [.var 1]) [.asg (.nm 7) (.lc [("j", 8)] (.nm 8) (.rng [.var 2]) [] (.ife (.cm .Eq (.call "_law_take" g_law_take [.var 0, .var 4]) (.cst (.int 0))) (.cst (.str ".")) (.call "_law_one_of" g_law_one_of [.var 0, .blt .list [.var 3]]))),
    .ex (.mth .append (.var 5) [.mth .join (.cst (.str "")) [.var 7]])],
    .ifs (.cm .Eq (.mth .strip (.mth .join (.cst (.str "")) [.var 5]) [.cst (.str ".")]) (.cst (.str ""))) [.sub (.var 5) (.cst (.int 0)) (.bin .Add (.idx (.var 3) (.cst (.int 0))) (.slc (.idx (.var 5) (.cst (.int 0))) [.cst (.int 1)] []))] [],
    .ret (.blt .tuple [.var 5])]
def F_law_draw_picture : Fn := runDef 9 4 (b_law_draw_picture F_law_one_of F_law_take)
def n_law_draw_picture : List Str := ["pen", "rows", "columns", "letters", "wild", "found", "k", "signs", "j"]
theorem sc_law_draw_picture : FnScope n_law_draw_picture ["pen", "rows", "columns", "letters"] (defScope (top 11)) := ⟨rfl, rfl, rfl, by decide +kernel, rfl, by decide +kernel, by decide +kernel⟩
theorem ck_law_draw_picture : chkSs { N := n_law_draw_picture, sc := defScope (top 11), bn := ["range", "list", "tuple"] } (b_law_draw_picture F_law_one_of F_law_take) (defBody (top 11)) = true := by decide +kernel
def b_law_draw_pile (g_law_take : Fn) (g_law_alphabet : Fn) (g_law_draw_picture : Fn) : List Sm :=
   [.par [3, 4] [.bin .Add (.cst (.int 1)) (.call "_law_take" g_law_take [.var 0, .var 2]), .bin .Add (.cst (.int 1)) (.call "_law_take" g_law_take [.var 0, .var 2])],
    .par [5, 6] [.call "_law_alphabet" g_law_alphabet [.var 0], .lst []],
    .fr (.nm 7) (.rng [.bin .Add (.cst (.int 1)) (.call "_law_take" g_law_take [.var 0, .var 1])]) [.par [9, 10] [.bin .Add (.cst (.int 1)) (.call "_law_take" g_law_take [.var 0, .var 3]), .bin .Add (.cst (.int 1)) (.call "_law_take" g_law_take [.var 0, .var 4])],
    .asg (.nm 8) (.call "_law_draw_picture" g_law_draw_picture [.var 0, .var 9, .var 10, .var 5]),
    .ex (.mth .append (.var 6) [.tup [.call "_law_take" g_law_take [.var 0, .bin .Add (.bin .Sub (.var 3) (.var 9)) (.cst (.int 1))], .call "_law_take" g_law_take [.var 0, .bin .Add (.bin .Sub (.var 4) (.var 10)) (.cst (.int 1))], .var 8]])],
    .ret (.tup [.var 3, .var 4, .blt .tuple [.var 6]])]
def F_law_draw_pile : Fn := runDef 11 3 (b_law_draw_pile F_law_take F_law_alphabet F_law_draw_picture)
def n_law_draw_pile : List Str := ["pen", "many", "lines", "rows", "columns", "letters", "sheets", "again", "picture", "high", "wide"]
theorem sc_law_draw_pile : FnScope n_law_draw_pile ["pen", "many", "lines"] (defScope (top 12)) := ⟨rfl, rfl, rfl, by decide +kernel, rfl, by decide +kernel, by decide +kernel⟩
theorem ck_law_draw_pile : chkSs { N := n_law_draw_pile, sc := defScope (top 12), bn := ["range", "tuple"] } (b_law_draw_pile F_law_take F_law_alphabet F_law_draw_picture) (defBody (top 12)) = true := by decide +kernel
def b_law_covered : List Sm :=
   [.asg (.nm 1) (.dic [] []),
    .fr (.tp [2, 3]) (.enm (.idx (.var 0) (.cst (.int 2)))) [.fr (.tp [4, 5]) (.enm (.idx (.var 3) (.cst (.int 2)))) [.fr (.tp [6, 7]) (.enm (.var 5)) [.ifs (.cm .NotEq (.var 7) (.cst (.str "."))) [.asg (.nm 8) (.tup [.bin .Add (.idx (.var 3) (.cst (.int 0))) (.var 4), .bin .Add (.idx (.var 3) (.cst (.int 1))) (.var 6)]),
    .sub (.var 1) (.var 8) (.bin .Add (.mth .get2 (.var 1) [.var 8, .lst []]) (.lst [.tup [.var 2, .var 7]]))] []]]],
    .ret (.var 1)]
def F_law_covered : Fn := runDef 9 1 (b_law_covered)
def n_law_covered : List Str := ["pile", "found", "number", "sheet", "down", "line", "right", "sign", "cell"]
theorem sc_law_covered : FnScope n_law_covered ["pile"] (defScope (top 13)) := ⟨rfl, rfl, rfl, by decide +kernel, rfl, by decide +kernel, by decide +kernel⟩
theorem ck_law_covered : chkSs { N := n_law_covered, sc := defScope (top 13), bn := ["enumerate"] } (b_law_covered) (defBody (top 13)) = true := by decide +kernel
def blaw (g_law_open : Fn) (g_law_draw_pile : Fn) (g_law_one_of : Fn) (g_law_covered : Fn) (gcovered : Fn) (g_law_same : Fn) : List Sm :=
   [.asg (.nm 1) (.call "_law_open" g_law_open [.var 0]),
    .fr (.nm 2) (.rng [.cst (.int 6)]) [.asg (.nm 3) (.call "_law_draw_pile" g_law_draw_pile [.var 1, .cst (.int 10), .call "_law_one_of" g_law_one_of [.var 1, .lst [.cst (.int 2), .cst (.int 4), .cst (.int 8)]]]),
    .asg (.tp [5, 6]) (.tup [.call "_law_covered" g_law_covered [.var 3], .blt .repr [.var 3]]),
    .fr (.nm 4) (.rng [.cst (.int 2)]) [.asg (.nm 7) (.call "covered" gcovered [.var 3]),
    .ifs (.or2 (.nt (.val (.isi (.var 7) [.dict]))) (.or2 (.cm .NotEq (.blt .sorted [.var 7]) (.blt .sorted [.var 5])) (.cm .NotEq (.blt .repr [.var 3]) (.var 6)))) [.ret (.cst (.bl false))] [],
    .ifs (.nt (.val (.call "_law_same" g_law_same [.lc [("cell", 8)] (.nm 8) (.over (.blt .sorted [.var 7])) [] (.idx (.var 7) (.var 8)), .lc [("cell", 8)] (.nm 8) (.over (.blt .sorted [.var 5])) [] (.idx (.var 5) (.var 8))]))) [.ret (.cst (.bl false))] [],
    .fr (.nm 8) (.over (.var 7)) [.ex (.mth .append (.idx (.var 7) (.var 8)) [.cst (.non)])],
    .ifs (.cm .NotEq (.lc [("cell", 8)] (.nm 8) (.over (.var 7)) [.cm .NotEq (.mth .count (.idx (.var 7) (.var 8)) [.cst (.non)]) (.cst (.int 1))] (.var 8)) (.lst [])) [.ret (.cst (.bl false))] [],
    .sub (.var 7) (.cst (.non)) (.lst [])]],
    .ret (.cst (.bl true))]
def Flaw : Fn := runDef 9 1 (blaw F_law_open F_law_draw_pile F_law_one_of F_law_covered Fcovered (F_law_same 8))
def nlaw : List Str := ["script", "pen", "turn", "pile", "again", "due", "text", "found", "cell"]
theorem sclaw : FnScope nlaw ["script"] (defScope (top 14)) := ⟨rfl, rfl, rfl, by decide +kernel, rfl, by decide +kernel, by decide +kernel⟩
theorem cklaw : chkSs { N := nlaw, sc := defScope (top 14), bn := ["range", "repr", "isinstance", "dict", "sorted"] } (blaw F_law_open F_law_draw_pile F_law_one_of F_law_covered Fcovered (F_law_same 8)) (defBody (top 14)) = true := by decide +kernel
section
variable {P : Program} {w : World} {K : PySem.W.Frag} {mg : Str → Option Value} {base : Heap}
theorem okletters_of {f : Addr} {fd : FuncData} (F : Fun K "letters_of" "letters_of" (top 2) f fd) (zHOLE : ∃ u v, mg "HOLE" = some u ∧ RelV v u ∧ ∀ H R, VR K H R (.str ".") v) (menumerate : mg "enumerate" = none) : FnG P w K mg base 1 f fd ["sheet"] Fletters_of := by
  refine def_ok (P := (fun x g => CalOk P w K mg base 0 x g)) (G := (fun x d => ∃ u v, mg x = some u ∧ RelV v u ∧ ∀ H R, VR K H R d v)) (bn := ["enumerate"]) F scletters_of rfl rfl (fun y hy => by simp only [List.mem_cons, List.not_mem_nil, or_false] at hy; rcases hy with rfl <;> assumption) (fun _ _ h => h) (fun _ _ h => h) (ckletters_of) ?_
  unfold bletters_of
  walk_at "cal_tac"
theorem okcovered {f : Addr} {fd : FuncData} (F : Fun K "covered" "covered" (top 3) f fd) (cletters_of : CalOk P w K mg base 1 "letters_of" Fletters_of) (menumerate : mg "enumerate" = none) : FnG P w K mg base 2 f fd ["pile"] Fcovered := by
  have cletters_of := cletters_of.mono (show 1 ≤ 1 by decide)
  refine def_ok (P := (fun x g => CalOk P w K mg base 1 x g)) (G := (fun x d => ∃ u v, mg x = some u ∧ RelV v u ∧ ∀ H R, VR K H R d v)) (bn := ["enumerate"]) F sccovered rfl rfl (fun y hy => by simp only [List.mem_cons, List.not_mem_nil, or_false] at hy; rcases hy with rfl <;> assumption) (fun _ _ h => h) (fun _ _ h => h) (ckcovered) ?_
  unfold bcovered
  walk_at "cal_tac"
theorem ok_law_open {f : Addr} {fd : FuncData} (F : Fun K "_law_open" "_law_open" (top 5) f fd) (mlist : mg "list" = none) (menumerate : mg "enumerate" = none) (mint : mg "int" = none) : FnG P w K mg base 1 f fd ["script"] F_law_open := by
  refine def_ok (P := (fun x g => CalOk P w K mg base 0 x g)) (G := (fun x d => ∃ u v, mg x = some u ∧ RelV v u ∧ ∀ H R, VR K H R d v)) (bn := ["list", "enumerate", "int"]) F sc_law_open rfl rfl (fun y hy => by simp only [List.mem_cons, List.not_mem_nil, or_false] at hy; rcases hy with rfl | rfl | rfl <;> assumption) (fun _ _ h => h) (fun _ _ h => h) (ck_law_open) ?_
  unfold b_law_open
  walk_at "cal_tac"
theorem ok_law_spread {f : Addr} {fd : FuncData} (F : Fun K "_law_spread" "_law_spread" (top 6) f fd) (mint : mg "int" = none) : FnG P w K mg base 1 f fd ["cell", "at"] F_law_spread := by
  refine def_ok (P := (fun x g => CalOk P w K mg base 0 x g)) (G := (fun x d => ∃ u v, mg x = some u ∧ RelV v u ∧ ∀ H R, VR K H R d v)) (bn := ["int"]) F sc_law_spread rfl rfl (fun y hy => by simp only [List.mem_cons, List.not_mem_nil, or_false] at hy; rcases hy with rfl <;> assumption) (fun _ _ h => h) (fun _ _ h => h) (ck_law_spread) ?_
  unfold b_law_spread
  walk_at "cal_tac"
theorem ok_law_take {f : Addr} {fd : FuncData} (F : Fun K "_law_take" "_law_take" (top 7) f fd) (c_law_spread : CalOk P w K mg base 1 "_law_spread" F_law_spread) (mlen : mg "len" = none) (mint : mg "int" = none) : FnG P w K mg base 2 f fd ["pen", "amount"] F_law_take := by
  have c_law_spread := c_law_spread.mono (show 1 ≤ 1 by decide)
  refine def_ok (P := (fun x g => CalOk P w K mg base 1 x g)) (G := (fun x d => ∃ u v, mg x = some u ∧ RelV v u ∧ ∀ H R, VR K H R d v)) (bn := ["len", "int"]) F sc_law_take rfl rfl (fun y hy => by simp only [List.mem_cons, List.not_mem_nil, or_false] at hy; rcases hy with rfl | rfl <;> assumption) (fun _ _ h => h) (fun _ _ h => h) (ck_law_take) ?_
  unfold b_law_take
  walk_at "cal_tac"
theorem ok_law_same {f : Addr} {fd : FuncData} (F : Fun K "_law_same" "_law_same" (top 8) f fd) (hm : mg "_law_same" = some (.ref f)) (hk : PySem.W.keepIn K (.ref f) = true) (hb : Binds K fd ["found", "due"] []) (misinstance : mg "isinstance" = none) (mbool : mg "bool" = none) (mint : mg "int" = none) (mstr : mg "str" = none) (mtuple : mg "tuple" = none) (mlist : mg "list" = none) (mlen : mg "len" = none) (mzip : mg "zip" = none) : ∀ j, j ≤ 8 → FnG P w K mg base (0 + j) f fd ["found", "due"] (F_law_same j)
  | 0, _ => ⟨(fun _ _ _ h => by cases h), fun _ _ _ _ _ _ _ _ _ _ _ _ _ _ _ _ _ _ _ _ h => by cases h⟩
  | j + 1, hj => by
    have ih := ok_law_same F hm hk hb misinstance mbool mint mstr mtuple mlist mlen mzip j (Nat.le_of_succ_le hj)
    have c_law_same : CalOk P w K mg base (0 + j) "_law_same" (F_law_same j) := ⟨f, fd, _, hm, ih, hk, hb⟩
    refine def_ok (P := (fun x g => CalOk P w K mg base (0 + j) x g)) (G := (fun x d => ∃ u v, mg x = some u ∧ RelV v u ∧ ∀ H R, VR K H R d v)) (bn := ["isinstance", "bool", "int", "str", "tuple", "list", "len", "zip"]) F sc_law_same rfl rfl (fun y hy => by simp only [List.mem_cons, List.not_mem_nil, or_false] at hy; rcases hy with rfl | rfl | rfl | rfl | rfl | rfl | rfl | rfl <;> assumption) (fun _ _ h => h) (fun _ _ h => h) (ck_law_same ⟨j, hj⟩) ?_
    unfold b_law_same
    walk_at "cal_tac"
theorem ok_law_one_of {f : Addr} {fd : FuncData} (F : Fun K "_law_one_of" "_law_one_of" (top 9) f fd) (c_law_take : CalOk P w K mg base 2 "_law_take" F_law_take) (mlen : mg "len" = none) : FnG P w K mg base 3 f fd ["pen", "some"] F_law_one_of := by
  have c_law_take := c_law_take.mono (show 2 ≤ 2 by decide)
  refine def_ok (P := (fun x g => CalOk P w K mg base 2 x g)) (G := (fun x d => ∃ u v, mg x = some u ∧ RelV v u ∧ ∀ H R, VR K H R d v)) (bn := ["len"]) F sc_law_one_of rfl rfl (fun y hy => by simp only [List.mem_cons, List.not_mem_nil, or_false] at hy; rcases hy with rfl <;> assumption) (fun _ _ h => h) (fun _ _ h => h) (ck_law_one_of) ?_
  unfold b_law_one_of
  walk_at "cal_tac"
theorem ok_law_alphabet {f : Addr} {fd : FuncData} (F : Fun K "_law_alphabet" "_law_alphabet" (top 10) f fd) (c_law_take : CalOk P w K mg base 2 "_law_take" F_law_take) (c_law_one_of : CalOk P w K mg base 3 "_law_one_of" F_law_one_of) : FnG P w K mg base 4 f fd ["pen"] F_law_alphabet := by
  have c_law_take := c_law_take.mono (show 2 ≤ 3 by decide)
  have c_law_one_of := c_law_one_of.mono (show 3 ≤ 3 by decide)
  refine def_ok (P := (fun x g => CalOk P w K mg base 3 x g)) (G := (fun x d => ∃ u v, mg x = some u ∧ RelV v u ∧ ∀ H R, VR K H R d v)) (bn := []) F sc_law_alphabet rfl rfl (fun y hy => nomatch hy) (fun _ _ h => h) (fun _ _ h => h) (ck_law_alphabet) ?_
  unfold b_law_alphabet
  walk_at "cal_tac"
theorem ok_law_draw_picture {f : Addr} {fd : FuncData} (F : Fun K "_law_draw_picture" "_law_draw_picture" (top 11) f fd) (c_law_one_of : CalOk P w K mg base 3 "_law_one_of" F_law_one_of) (c_law_take : CalOk P w K mg base 2 "_law_take" F_law_take) (mrange : mg "range" = none) (mlist : mg "list" = none) (mtuple : mg "tuple" = none) : FnG P w K mg base 4 f fd ["pen", "rows", "columns", "letters"] F_law_draw_picture := by
  have c_law_one_of := c_law_one_of.mono (show 3 ≤ 3 by decide)
  have c_law_take := c_law_take.mono (show 2 ≤ 3 by decide)
  refine def_ok (P := (fun x g => CalOk P w K mg base 3 x g)) (G := (fun x d => ∃ u v, mg x = some u ∧ RelV v u ∧ ∀ H R, VR K H R d v)) (bn := ["range", "list", "tuple"]) F sc_law_draw_picture rfl rfl (fun y hy => by simp only [List.mem_cons, List.not_mem_nil, or_false] at hy; rcases hy with rfl | rfl | rfl <;> assumption) (fun _ _ h => h) (fun _ _ h => h) (ck_law_draw_picture) ?_
  unfold b_law_draw_picture
  walk_at "cal_tac"
theorem ok_law_draw_pile {f : Addr} {fd : FuncData} (F : Fun K "_law_draw_pile" "_law_draw_pile" (top 12) f fd) (c_law_take : CalOk P w K mg base 2 "_law_take" F_law_take) (c_law_alphabet : CalOk P w K mg base 4 "_law_alphabet" F_law_alphabet) (c_law_draw_picture : CalOk P w K mg base 4 "_law_draw_picture" F_law_draw_picture) (mrange : mg "range" = none) (mtuple : mg "tuple" = none) : FnG P w K mg base 5 f fd ["pen", "many", "lines"] F_law_draw_pile := by
  have c_law_take := c_law_take.mono (show 2 ≤ 4 by decide)
  have c_law_alphabet := c_law_alphabet.mono (show 4 ≤ 4 by decide)
  have c_law_draw_picture := c_law_draw_picture.mono (show 4 ≤ 4 by decide)
  refine def_ok (P := (fun x g => CalOk P w K mg base 4 x g)) (G := (fun x d => ∃ u v, mg x = some u ∧ RelV v u ∧ ∀ H R, VR K H R d v)) (bn := ["range", "tuple"]) F sc_law_draw_pile rfl rfl (fun y hy => by simp only [List.mem_cons, List.not_mem_nil, or_false] at hy; rcases hy with rfl | rfl <;> assumption) (fun _ _ h => h) (fun _ _ h => h) (ck_law_draw_pile) ?_
  unfold b_law_draw_pile
  walk_at "cal_tac"
theorem ok_law_covered {f : Addr} {fd : FuncData} (F : Fun K "_law_covered" "_law_covered" (top 13) f fd) (menumerate : mg "enumerate" = none) : FnG P w K mg base 1 f fd ["pile"] F_law_covered := by
  refine def_ok (P := (fun x g => CalOk P w K mg base 0 x g)) (G := (fun x d => ∃ u v, mg x = some u ∧ RelV v u ∧ ∀ H R, VR K H R d v)) (bn := ["enumerate"]) F sc_law_covered rfl rfl (fun y hy => by simp only [List.mem_cons, List.not_mem_nil, or_false] at hy; rcases hy with rfl <;> assumption) (fun _ _ h => h) (fun _ _ h => h) (ck_law_covered) ?_
  unfold b_law_covered
  walk_at "cal_tac"
theorem oklaw {f : Addr} {fd : FuncData} (F : Fun K "law" "law" (top 14) f fd) (c_law_open : CalOk P w K mg base 1 "_law_open" F_law_open) (c_law_draw_pile : CalOk P w K mg base 5 "_law_draw_pile" F_law_draw_pile) (c_law_one_of : CalOk P w K mg base 3 "_law_one_of" F_law_one_of) (c_law_covered : CalOk P w K mg base 1 "_law_covered" F_law_covered) (ccovered : CalOk P w K mg base 2 "covered" Fcovered) (c_law_same : CalOk P w K mg base 8 "_law_same" (F_law_same 8)) (mrange : mg "range" = none) (mrepr : mg "repr" = none) (misinstance : mg "isinstance" = none) (mdict : mg "dict" = none) (msorted : mg "sorted" = none) : FnG P w K mg base 9 f fd ["script"] Flaw := by
  have c_law_open := c_law_open.mono (show 1 ≤ 8 by decide)
  have c_law_draw_pile := c_law_draw_pile.mono (show 5 ≤ 8 by decide)
  have c_law_one_of := c_law_one_of.mono (show 3 ≤ 8 by decide)
  have c_law_covered := c_law_covered.mono (show 1 ≤ 8 by decide)
  have ccovered := ccovered.mono (show 2 ≤ 8 by decide)
  have c_law_same := c_law_same.mono (show 8 ≤ 8 by decide)
  refine def_ok (P := (fun x g => CalOk P w K mg base 8 x g)) (G := (fun x d => ∃ u v, mg x = some u ∧ RelV v u ∧ ∀ H R, VR K H R d v)) (bn := ["range", "repr", "isinstance", "dict", "sorted"]) F sclaw rfl rfl (fun y hy => by simp only [List.mem_cons, List.not_mem_nil, or_false] at hy; rcases hy with rfl | rfl | rfl | rfl | rfl <;> assumption) (fun _ _ h => h) (fun _ _ h => h) (cklaw) ?_
  unfold blaw
  walk_at "cal_tac"
end
theorem hp_law : ∀ ns : List Int, ns.length ≤ 63 → ∃ h', Flaw [scriptD ns] [] = some (.bl true, h') := fun ns h => Zp.hp_k03 ns h
theorem all_mk {l : PySem.W.OpenLaw} {w : World} {K : PySem.W.Frag} {h : Heap} {mg : Str → Option Value} {fa fletters_of fcovered f_law_open f_law_spread f_law_take f_law_same f_law_one_of f_law_alphabet f_law_draw_picture f_law_draw_pile f_law_covered flaw : Addr} (X : K.In h) (G : h.Ns mainGlobals mg) (hfa : mg "law" = some (.ref fa))
    {odletters_of anletters_of : Option Addr} {slletters_of : Array (Option Value)} {ocletters_of kVletters_of dcletters_of pmletters_of cdletters_of ctletters_of : Value} {odcovered ancovered : Option Addr} {slcovered : Array (Option Value)} {occovered kVcovered dccovered pmcovered cdcovered ctcovered : Value} {od_law_open an_law_open : Option Addr} {sl_law_open : Array (Option Value)} {oc_law_open kV_law_open dc_law_open pm_law_open cd_law_open ct_law_open : Value} {od_law_spread an_law_spread : Option Addr} {sl_law_spread : Array (Option Value)} {oc_law_spread kV_law_spread dc_law_spread pm_law_spread cd_law_spread ct_law_spread : Value} {od_law_take an_law_take : Option Addr} {sl_law_take : Array (Option Value)} {oc_law_take kV_law_take dc_law_take pm_law_take cd_law_take ct_law_take : Value} {od_law_same an_law_same : Option Addr} {sl_law_same : Array (Option Value)} {oc_law_same kV_law_same dc_law_same pm_law_same cd_law_same ct_law_same : Value} {od_law_one_of an_law_one_of : Option Addr} {sl_law_one_of : Array (Option Value)} {oc_law_one_of kV_law_one_of dc_law_one_of pm_law_one_of cd_law_one_of ct_law_one_of : Value} {od_law_alphabet an_law_alphabet : Option Addr} {sl_law_alphabet : Array (Option Value)} {oc_law_alphabet kV_law_alphabet dc_law_alphabet pm_law_alphabet cd_law_alphabet ct_law_alphabet : Value} {od_law_draw_picture an_law_draw_picture : Option Addr} {sl_law_draw_picture : Array (Option Value)} {oc_law_draw_picture kV_law_draw_picture dc_law_draw_picture pm_law_draw_picture cd_law_draw_picture ct_law_draw_picture : Value} {od_law_draw_pile an_law_draw_pile : Option Addr} {sl_law_draw_pile : Array (Option Value)} {oc_law_draw_pile kV_law_draw_pile dc_law_draw_pile pm_law_draw_pile cd_law_draw_pile ct_law_draw_pile : Value} {od_law_covered an_law_covered : Option Addr} {sl_law_covered : Array (Option Value)} {oc_law_covered kV_law_covered dc_law_covered pm_law_covered cd_law_covered ct_law_covered : Value} {odlaw anlaw : Option Addr} {sllaw : Array (Option Value)} {oclaw kVlaw dclaw pmlaw cdlaw ctlaw : Value}
    (aletters_of : PySem.W.nsIn K mainGlobals "letters_of" = some (some (.ref fletters_of))) (lletters_of : K.lookup fletters_of = some ⟨ocletters_of, odletters_of, .func (PySem.W.fnOf "letters_of" "letters_of" (defArgs (top 2)) (defBody (top 2)) (defScope (top 2)) .none kVletters_of dcletters_of pmletters_of anletters_of cdletters_of ctletters_of), slletters_of⟩) (cletters_of : PySem.W.codeIn K cdletters_of "letters_of" = true) (kletters_of : PySem.W.keepIn K (.ref fletters_of) = true)
    (acovered : PySem.W.nsIn K mainGlobals "covered" = some (some (.ref fcovered))) (lcovered : K.lookup fcovered = some ⟨occovered, odcovered, .func (PySem.W.fnOf "covered" "covered" (defArgs (top 3)) (defBody (top 3)) (defScope (top 3)) .none kVcovered dccovered pmcovered ancovered cdcovered ctcovered), slcovered⟩) (ccovered : PySem.W.codeIn K cdcovered "covered" = true) (kcovered : PySem.W.keepIn K (.ref fcovered) = true)
    (a_law_open : PySem.W.nsIn K mainGlobals "_law_open" = some (some (.ref f_law_open))) (l_law_open : K.lookup f_law_open = some ⟨oc_law_open, od_law_open, .func (PySem.W.fnOf "_law_open" "_law_open" (defArgs (top 5)) (defBody (top 5)) (defScope (top 5)) .none kV_law_open dc_law_open pm_law_open an_law_open cd_law_open ct_law_open), sl_law_open⟩) (c_law_open : PySem.W.codeIn K cd_law_open "_law_open" = true) (k_law_open : PySem.W.keepIn K (.ref f_law_open) = true)
    (a_law_spread : PySem.W.nsIn K mainGlobals "_law_spread" = some (some (.ref f_law_spread))) (l_law_spread : K.lookup f_law_spread = some ⟨oc_law_spread, od_law_spread, .func (PySem.W.fnOf "_law_spread" "_law_spread" (defArgs (top 6)) (defBody (top 6)) (defScope (top 6)) .none kV_law_spread dc_law_spread pm_law_spread an_law_spread cd_law_spread ct_law_spread), sl_law_spread⟩) (c_law_spread : PySem.W.codeIn K cd_law_spread "_law_spread" = true) (k_law_spread : PySem.W.keepIn K (.ref f_law_spread) = true)
    (a_law_take : PySem.W.nsIn K mainGlobals "_law_take" = some (some (.ref f_law_take))) (l_law_take : K.lookup f_law_take = some ⟨oc_law_take, od_law_take, .func (PySem.W.fnOf "_law_take" "_law_take" (defArgs (top 7)) (defBody (top 7)) (defScope (top 7)) .none kV_law_take dc_law_take pm_law_take an_law_take cd_law_take ct_law_take), sl_law_take⟩) (c_law_take : PySem.W.codeIn K cd_law_take "_law_take" = true) (k_law_take : PySem.W.keepIn K (.ref f_law_take) = true)
    (a_law_same : PySem.W.nsIn K mainGlobals "_law_same" = some (some (.ref f_law_same))) (l_law_same : K.lookup f_law_same = some ⟨oc_law_same, od_law_same, .func (PySem.W.fnOf "_law_same" "_law_same" (defArgs (top 8)) (defBody (top 8)) (defScope (top 8)) .none kV_law_same dc_law_same pm_law_same an_law_same cd_law_same ct_law_same), sl_law_same⟩) (c_law_same : PySem.W.codeIn K cd_law_same "_law_same" = true) (k_law_same : PySem.W.keepIn K (.ref f_law_same) = true)
    (a_law_one_of : PySem.W.nsIn K mainGlobals "_law_one_of" = some (some (.ref f_law_one_of))) (l_law_one_of : K.lookup f_law_one_of = some ⟨oc_law_one_of, od_law_one_of, .func (PySem.W.fnOf "_law_one_of" "_law_one_of" (defArgs (top 9)) (defBody (top 9)) (defScope (top 9)) .none kV_law_one_of dc_law_one_of pm_law_one_of an_law_one_of cd_law_one_of ct_law_one_of), sl_law_one_of⟩) (c_law_one_of : PySem.W.codeIn K cd_law_one_of "_law_one_of" = true) (k_law_one_of : PySem.W.keepIn K (.ref f_law_one_of) = true)
    (a_law_alphabet : PySem.W.nsIn K mainGlobals "_law_alphabet" = some (some (.ref f_law_alphabet))) (l_law_alphabet : K.lookup f_law_alphabet = some ⟨oc_law_alphabet, od_law_alphabet, .func (PySem.W.fnOf "_law_alphabet" "_law_alphabet" (defArgs (top 10)) (defBody (top 10)) (defScope (top 10)) .none kV_law_alphabet dc_law_alphabet pm_law_alphabet an_law_alphabet cd_law_alphabet ct_law_alphabet), sl_law_alphabet⟩) (c_law_alphabet : PySem.W.codeIn K cd_law_alphabet "_law_alphabet" = true) (k_law_alphabet : PySem.W.keepIn K (.ref f_law_alphabet) = true)
    (a_law_draw_picture : PySem.W.nsIn K mainGlobals "_law_draw_picture" = some (some (.ref f_law_draw_picture))) (l_law_draw_picture : K.lookup f_law_draw_picture = some ⟨oc_law_draw_picture, od_law_draw_picture, .func (PySem.W.fnOf "_law_draw_picture" "_law_draw_picture" (defArgs (top 11)) (defBody (top 11)) (defScope (top 11)) .none kV_law_draw_picture dc_law_draw_picture pm_law_draw_picture an_law_draw_picture cd_law_draw_picture ct_law_draw_picture), sl_law_draw_picture⟩) (c_law_draw_picture : PySem.W.codeIn K cd_law_draw_picture "_law_draw_picture" = true) (k_law_draw_picture : PySem.W.keepIn K (.ref f_law_draw_picture) = true)
    (a_law_draw_pile : PySem.W.nsIn K mainGlobals "_law_draw_pile" = some (some (.ref f_law_draw_pile))) (l_law_draw_pile : K.lookup f_law_draw_pile = some ⟨oc_law_draw_pile, od_law_draw_pile, .func (PySem.W.fnOf "_law_draw_pile" "_law_draw_pile" (defArgs (top 12)) (defBody (top 12)) (defScope (top 12)) .none kV_law_draw_pile dc_law_draw_pile pm_law_draw_pile an_law_draw_pile cd_law_draw_pile ct_law_draw_pile), sl_law_draw_pile⟩) (c_law_draw_pile : PySem.W.codeIn K cd_law_draw_pile "_law_draw_pile" = true) (k_law_draw_pile : PySem.W.keepIn K (.ref f_law_draw_pile) = true)
    (a_law_covered : PySem.W.nsIn K mainGlobals "_law_covered" = some (some (.ref f_law_covered))) (l_law_covered : K.lookup f_law_covered = some ⟨oc_law_covered, od_law_covered, .func (PySem.W.fnOf "_law_covered" "_law_covered" (defArgs (top 13)) (defBody (top 13)) (defScope (top 13)) .none kV_law_covered dc_law_covered pm_law_covered an_law_covered cd_law_covered ct_law_covered), sl_law_covered⟩) (c_law_covered : PySem.W.codeIn K cd_law_covered "_law_covered" = true) (k_law_covered : PySem.W.keepIn K (.ref f_law_covered) = true)
    (alaw : PySem.W.nsIn K mainGlobals "law" = some (some (.ref flaw))) (llaw : K.lookup flaw = some ⟨oclaw, odlaw, .func (PySem.W.fnOf "law" "law" (defArgs (top 14)) (defBody (top 14)) (defScope (top 14)) .none kVlaw dclaw pmlaw anlaw cdlaw ctlaw), sllaw⟩) (claw : PySem.W.codeIn K cdlaw "law" = true) (klaw : PySem.W.keepIn K (.ref flaw) = true)
    (zenumerate : PySem.W.nsIn K mainGlobals "enumerate" = some none)
    (zlist : PySem.W.nsIn K mainGlobals "list" = some none)
    (zint : PySem.W.nsIn K mainGlobals "int" = some none)
    (zlen : PySem.W.nsIn K mainGlobals "len" = some none)
    (zisinstance : PySem.W.nsIn K mainGlobals "isinstance" = some none)
    (zbool : PySem.W.nsIn K mainGlobals "bool" = some none)
    (zstr : PySem.W.nsIn K mainGlobals "str" = some none)
    (ztuple : PySem.W.nsIn K mainGlobals "tuple" = some none)
    (zzip : PySem.W.nsIn K mainGlobals "zip" = some none)
    (zrange : PySem.W.nsIn K mainGlobals "range" = some none)
    (zrepr : PySem.W.nsIn K mainGlobals "repr" = some none)
    (zdict : PySem.W.nsIn K mainGlobals "dict" = some none)
    (zsorted : PySem.W.nsIn K mainGlobals "sorted" = some none)
    {tHOLE : Tok} (gHOLE : PySem.W.nsIn K mainGlobals "HOLE" = some (some (.str "." tHOLE)))
    : ∃ fd : FuncData, (∀ (s : Shared) (v : Value), BindsTo s fd ⟨[v], []⟩ [("script", v)]) ∧ ∀ base : Heap, K.In base → base.Ns mainGlobals mg → FnG l.prog w K mg base 9 fa fd ["script"] Flaw := by
  have e := hfa.symm.trans (PySem.W.mg_of X G alaw)
  cases e
  have menumerate := PySem.W.mg_none_of X G zenumerate
  have mlist := PySem.W.mg_none_of X G zlist
  have mint := PySem.W.mg_none_of X G zint
  have mlen := PySem.W.mg_none_of X G zlen
  have misinstance := PySem.W.mg_none_of X G zisinstance
  have mbool := PySem.W.mg_none_of X G zbool
  have mstr := PySem.W.mg_none_of X G zstr
  have mtuple := PySem.W.mg_none_of X G ztuple
  have mzip := PySem.W.mg_none_of X G zzip
  have mrange := PySem.W.mg_none_of X G zrange
  have mrepr := PySem.W.mg_none_of X G zrepr
  have mdict := PySem.W.mg_none_of X G zdict
  have msorted := PySem.W.mg_none_of X G zsorted
  have yHOLE : ∃ u v, mg "HOLE" = some u ∧ RelV v u ∧ ∀ H R, VR K H R (.str ".") v := ⟨_, .str ".", PySem.W.mg_of X G gHOLE, ⟨_, rfl⟩, fun _ _ => rfl⟩
  have Fletters_of := fun_mk (st := top 2) lletters_of cletters_of kletters_of
  have bletters_of := Fletters_of.binds (ps := ["sheet"]) fun _ _ _ _ _ _ us hl => match us, hl with | [_], _ => rfl
  have Fcovered := fun_mk (st := top 3) lcovered ccovered kcovered
  have bcovered := Fcovered.binds (ps := ["pile"]) fun _ _ _ _ _ _ us hl => match us, hl with | [_], _ => rfl
  have F_law_open := fun_mk (st := top 5) l_law_open c_law_open k_law_open
  have b_law_open := F_law_open.binds (ps := ["script"]) fun _ _ _ _ _ _ us hl => match us, hl with | [_], _ => rfl
  have F_law_spread := fun_mk (st := top 6) l_law_spread c_law_spread k_law_spread
  have b_law_spread := F_law_spread.binds (ps := ["cell", "at"]) fun _ _ _ _ _ _ us hl => match us, hl with | [_, _], _ => rfl
  have F_law_take := fun_mk (st := top 7) l_law_take c_law_take k_law_take
  have b_law_take := F_law_take.binds (ps := ["pen", "amount"]) fun _ _ _ _ _ _ us hl => match us, hl with | [_, _], _ => rfl
  have F_law_same := fun_mk (st := top 8) l_law_same c_law_same k_law_same
  have b_law_same := F_law_same.binds (ps := ["found", "due"]) fun _ _ _ _ _ _ us hl => match us, hl with | [_, _], _ => rfl
  have F_law_one_of := fun_mk (st := top 9) l_law_one_of c_law_one_of k_law_one_of
  have b_law_one_of := F_law_one_of.binds (ps := ["pen", "some"]) fun _ _ _ _ _ _ us hl => match us, hl with | [_, _], _ => rfl
  have F_law_alphabet := fun_mk (st := top 10) l_law_alphabet c_law_alphabet k_law_alphabet
  have b_law_alphabet := F_law_alphabet.binds (ps := ["pen"]) fun _ _ _ _ _ _ us hl => match us, hl with | [_], _ => rfl
  have F_law_draw_picture := fun_mk (st := top 11) l_law_draw_picture c_law_draw_picture k_law_draw_picture
  have b_law_draw_picture := F_law_draw_picture.binds (ps := ["pen", "rows", "columns", "letters"]) fun _ _ _ _ _ _ us hl => match us, hl with | [_, _, _, _], _ => rfl
  have F_law_draw_pile := fun_mk (st := top 12) l_law_draw_pile c_law_draw_pile k_law_draw_pile
  have b_law_draw_pile := F_law_draw_pile.binds (ps := ["pen", "many", "lines"]) fun _ _ _ _ _ _ us hl => match us, hl with | [_, _, _], _ => rfl
  have F_law_covered := fun_mk (st := top 13) l_law_covered c_law_covered k_law_covered
  have b_law_covered := F_law_covered.binds (ps := ["pile"]) fun _ _ _ _ _ _ us hl => match us, hl with | [_], _ => rfl
  have Flaw := fun_mk (st := top 14) llaw claw klaw
  refine ⟨PySem.W.fnOf "law" "law" (defArgs (top 14)) (defBody (top 14)) (defScope (top 14)) .none kVlaw dclaw pmlaw anlaw cdlaw ctlaw, fun s v => .of_eq rfl, fun base _ _ => ?_⟩
  have Cletters_of : CalOk l.prog w K mg base 1 "letters_of" Zk.Fletters_of := ⟨fletters_of, _, _, PySem.W.mg_of X G aletters_of, okletters_of (P := l.prog) (w := w) (base := base) Fletters_of yHOLE menumerate, kletters_of, bletters_of⟩
  have Ccovered : CalOk l.prog w K mg base 2 "covered" Zk.Fcovered := ⟨fcovered, _, _, PySem.W.mg_of X G acovered, okcovered (P := l.prog) (w := w) (base := base) Fcovered Cletters_of menumerate, kcovered, bcovered⟩
  have C_law_open : CalOk l.prog w K mg base 1 "_law_open" Zk.F_law_open := ⟨f_law_open, _, _, PySem.W.mg_of X G a_law_open, ok_law_open (P := l.prog) (w := w) (base := base) F_law_open mlist menumerate mint, k_law_open, b_law_open⟩
  have C_law_spread : CalOk l.prog w K mg base 1 "_law_spread" Zk.F_law_spread := ⟨f_law_spread, _, _, PySem.W.mg_of X G a_law_spread, ok_law_spread (P := l.prog) (w := w) (base := base) F_law_spread mint, k_law_spread, b_law_spread⟩
  have C_law_take : CalOk l.prog w K mg base 2 "_law_take" Zk.F_law_take := ⟨f_law_take, _, _, PySem.W.mg_of X G a_law_take, ok_law_take (P := l.prog) (w := w) (base := base) F_law_take C_law_spread mlen mint, k_law_take, b_law_take⟩
  have C_law_same : CalOk l.prog w K mg base 8 "_law_same" (Zk.F_law_same 8) := ⟨f_law_same, _, _, PySem.W.mg_of X G a_law_same, ok_law_same F_law_same (PySem.W.mg_of X G a_law_same) k_law_same b_law_same misinstance mbool mint mstr mtuple mlist mlen mzip 8 (Nat.le_refl _), k_law_same, b_law_same⟩
  have C_law_one_of : CalOk l.prog w K mg base 3 "_law_one_of" Zk.F_law_one_of := ⟨f_law_one_of, _, _, PySem.W.mg_of X G a_law_one_of, ok_law_one_of (P := l.prog) (w := w) (base := base) F_law_one_of C_law_take mlen, k_law_one_of, b_law_one_of⟩
  have C_law_alphabet : CalOk l.prog w K mg base 4 "_law_alphabet" Zk.F_law_alphabet := ⟨f_law_alphabet, _, _, PySem.W.mg_of X G a_law_alphabet, ok_law_alphabet (P := l.prog) (w := w) (base := base) F_law_alphabet C_law_take C_law_one_of, k_law_alphabet, b_law_alphabet⟩
  have C_law_draw_picture : CalOk l.prog w K mg base 4 "_law_draw_picture" Zk.F_law_draw_picture := ⟨f_law_draw_picture, _, _, PySem.W.mg_of X G a_law_draw_picture, ok_law_draw_picture (P := l.prog) (w := w) (base := base) F_law_draw_picture C_law_one_of C_law_take mrange mlist mtuple, k_law_draw_picture, b_law_draw_picture⟩
  have C_law_draw_pile : CalOk l.prog w K mg base 5 "_law_draw_pile" Zk.F_law_draw_pile := ⟨f_law_draw_pile, _, _, PySem.W.mg_of X G a_law_draw_pile, ok_law_draw_pile (P := l.prog) (w := w) (base := base) F_law_draw_pile C_law_take C_law_alphabet C_law_draw_picture mrange mtuple, k_law_draw_pile, b_law_draw_pile⟩
  have C_law_covered : CalOk l.prog w K mg base 1 "_law_covered" Zk.F_law_covered := ⟨f_law_covered, _, _, PySem.W.mg_of X G a_law_covered, ok_law_covered (P := l.prog) (w := w) (base := base) F_law_covered menumerate, k_law_covered, b_law_covered⟩
  exact oklaw (P := l.prog) (w := w) (base := base) Flaw C_law_open C_law_draw_pile C_law_one_of C_law_covered Ccovered C_law_same mrange mrepr misinstance mdict msorted
end Zk
open PySem PySem.W PyProof.Rows
set_option maxRecDepth 100000 in
set_option maxHeartbeats 0 in
theorem PySem.Challenge.cw_laidsheets_k03_covered_cells_holds : PySem.Challenge.rw_laidsheets_k03_covered_cells.Holds := by
  w_on; o_law; k_head; (case hw => w_witness2)
  k_fill
  refine Z.law_ok (l := PySem.Challenge.rw_laidsheets_k03_covered_cells) (k := 9) (x := "script") (g := Zk.Flaw) rfl (by decide) rfl ⟨rfl, by decide, by decide⟩ (fun w h Y => PySem.W.kIn_of Y) ?F Zk.hp_law
  case F =>
    intro w mg fa h KX G hmg
    refine' Zk.all_mk KX G hmg ?aletters_of ?lletters_of ?cletters_of ?kletters_of ?acovered ?lcovered ?ccovered ?kcovered ?a_law_open ?l_law_open ?c_law_open ?k_law_open ?a_law_spread ?l_law_spread ?c_law_spread ?k_law_spread ?a_law_take ?l_law_take ?c_law_take ?k_law_take ?a_law_same ?l_law_same ?c_law_same ?k_law_same ?a_law_one_of ?l_law_one_of ?c_law_one_of ?k_law_one_of ?a_law_alphabet ?l_law_alphabet ?c_law_alphabet ?k_law_alphabet ?a_law_draw_picture ?l_law_draw_picture ?c_law_draw_picture ?k_law_draw_picture ?a_law_draw_pile ?l_law_draw_pile ?c_law_draw_pile ?k_law_draw_pile ?a_law_covered ?l_law_covered ?c_law_covered ?k_law_covered ?alaw ?llaw ?claw ?klaw ?zenumerate ?zlist ?zint ?zlen ?zisinstance ?zbool ?zstr ?ztuple ?zzip ?zrange ?zrepr ?zdict ?zsorted ?gHOLE
    (case aletters_of => k_is)
    (case lletters_of => k_is)
    (case cletters_of => k_is)
    (case kletters_of => k_is)
    (case acovered => k_is)
    (case lcovered => k_is)
    (case ccovered => k_is)
    (case kcovered => k_is)
    (case a_law_open => k_is)
    (case l_law_open => k_is)
    (case c_law_open => k_is)
    (case k_law_open => k_is)
    (case a_law_spread => k_is)
    (case l_law_spread => k_is)
    (case c_law_spread => k_is)
    (case k_law_spread => k_is)
    (case a_law_take => k_is)
    (case l_law_take => k_is)
    (case c_law_take => k_is)
    (case k_law_take => k_is)
    (case a_law_same => k_is)
    (case l_law_same => k_is)
    (case c_law_same => k_is)
    (case k_law_same => k_is)
    (case a_law_one_of => k_is)
    (case l_law_one_of => k_is)
    (case c_law_one_of => k_is)
    (case k_law_one_of => k_is)
    (case a_law_alphabet => k_is)
    (case l_law_alphabet => k_is)
    (case c_law_alphabet => k_is)
    (case k_law_alphabet => k_is)
    (case a_law_draw_picture => k_is)
    (case l_law_draw_picture => k_is)
    (case c_law_draw_picture => k_is)
    (case k_law_draw_picture => k_is)
    (case a_law_draw_pile => k_is)
    (case l_law_draw_pile => k_is)
    (case c_law_draw_pile => k_is)
    (case k_law_draw_pile => k_is)
    (case a_law_covered => k_is)
    (case l_law_covered => k_is)
    (case c_law_covered => k_is)
    (case k_law_covered => k_is)
    (case alaw => k_is)
    (case llaw => k_is)
    (case claw => k_is)
    (case klaw => k_is)
    (case zenumerate => k_is)
    (case zlist => k_is)
    (case zint => k_is)
    (case zlen => k_is)
    (case zisinstance => k_is)
    (case zbool => k_is)
    (case zstr => k_is)
    (case ztuple => k_is)
    (case zzip => k_is)
    (case zrange => k_is)
    (case zrepr => k_is)
    (case zdict => k_is)
    (case zsorted => k_is)
    (case gHOLE => k_is)

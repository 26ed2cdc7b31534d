/-
  ROWS THAT RISE, MERGED, as plain lists ('Merged'); numbers with their row and place ('On'), put in order one by one. No condition but what each theorem says.
-/
import Derived.Test.YtpanpebllapbcaaHpA
namespace Go.Proofs.Ytpanpebllapbcaa

theorem flat_take_next {α : Type} {L : List (List α)} {i : Nat} {r : List α} (hr : L[i]? = some r) : (L.take (i + 1)).flatten.length = (L.take i).flatten.length + r.length ∧ (L.take (i + 1)).flatten.length ≤ L.flatten.length := by
  obtain ⟨hi, rfl⟩ := List.getElem?_eq_some_iff.1 hr
  refine ⟨?_, ?_⟩
  · rw [List.take_succ_eq_append_getElem hi, List.flatten_append, List.length_append, List.flatten_cons, List.flatten_nil, List.append_nil]
  · conv => rhs; rw [← List.take_append_drop (i + 1) L, List.flatten_append, List.length_append]
    omega
/-- out are the rows, merged: all, rising; of alike ones those of an earlier row first, of one row in its order -/
structure Merged {α : Type} (R : α → α → Bool) (rows : List (List α)) (out : List α) : Prop where
  perm : out.Perm rows.flatten
  rise : out.Pairwise fun a b => R b a = false
  same : ∀ x, out.filter (fun y => !R x y && !R y x) = rows.flatten.filter (fun y => !R x y && !R y x)
theorem Merged.len {α : Type} {R : α → α → Bool} {rows : List (List α)} {out : List α} (h : Merged R rows out) : out.length = rows.flatten.length := h.perm.length_eq
/-- two that stand side by side -/
theorem side_by_side {α : Type} {l : List α} {i : Nat} {a b : α} (ha : l[i]? = some a) (hb : l[i + 1]? = some b) : [a, b].Sublist l := by
  induction l generalizing i with
  | nil => simp at ha
  | cons x l ih =>
    match i, ha, hb with
    | 0, ha, hb =>
      simp at ha
      subst ha
      rw [List.getElem?_cons_succ] at hb
      exact List.Sublist.cons_cons _ (List.singleton_sublist.2 (List.mem_of_getElem? hb))
    | i + 1, ha, hb =>
      rw [List.getElem?_cons_succ] at ha hb
      exact List.Sublist.cons _ (ih ha hb)
theorem Merged.next {α : Type} {R : α → α → Bool} {rows : List (List α)} {out : List α} {P : α → α → Prop} (h : Merged R rows out) (hP : rows.flatten.Pairwise P) (irr : ∀ a, R a a = false) {i : Nat} {a b : α} (ha : out[i]? = some a) (hb : out[i + 1]? = some b) :
    R b a = false ∧ (R a b = false → P a b) := by
  have hs := side_by_side ha hb
  have h1 := List.Pairwise.sublist hs h.rise
  have hba : R b a = false := by simpa using h1
  refine ⟨hba, fun hab => ?_⟩
  have h2 := hs.filter (fun y => !R a y && !R y a)
  rw [h.same a] at h2
  have h3 : [a, b].filter (fun y => !R a y && !R y a) = [a, b] := by simp [irr, hab, hba]
  rw [h3] at h2
  have h4 := List.Pairwise.sublist (h2.trans List.filter_sublist) hP
  simpa using h4

/-- a number, its row, and its place there -/
structure On where
  n : Int
  row : Int
  at_ : Int
def onR (a b : On) : Bool := decide (a.n < b.n)
def onP (a b : On) : Prop := a.row < b.row ∨ (a.row = b.row ∧ a.at_ < b.at_)
theorem onO : WeakO onR fun _ => True where
  irr a _ := by simp [onR]
  trans a b c _ _ _ h1 h2 := by simp only [onR, decide_eq_true_eq] at *; omega
  split a b c _ _ _ h1 := by simp only [onR, decide_eq_true_eq] at *; omega
/-- they rise -/
def OnUp (l : List On) : Prop := l.Pairwise fun a b => a.n ≤ b.n
theorem OnUp.put {l : List On} {p : Nat} {x : On} (h : OnUp l) (h1 : ∀ (j : Nat) (y : On), l[j]? = some y → p ≤ j → x.n ≤ y.n) (h2 : p = 0 ∨ ∃ y, l[p - 1]? = some y ∧ y.n ≤ x.n) : OnUp (l.take p ++ [x] ++ l.drop p) := by
  have hd : ∀ y ∈ l.drop p, x.n ≤ y.n := fun y hy => by
    obtain ⟨j, hj⟩ := List.getElem?_of_mem hy
    rw [List.getElem?_drop] at hj
    exact h1 _ y hj (by omega)
  have ht : ∀ y ∈ l.take p, y.n ≤ x.n := fun y hy => by
    obtain ⟨j, hj⟩ := List.getElem?_of_mem hy
    have hjl := (List.getElem?_eq_some_iff.1 hj).1
    rw [List.length_take] at hjl
    rw [List.getElem?_take_of_lt (by omega)] at hj
    rcases h2 with h0 | ⟨z, hz, hzx⟩
    · omega
    · by_cases e : j = p - 1
      · subst e
        rw [hz] at hj
        injection hj with hj
        subst hj
        exact hzx
      · obtain ⟨hj1, hj2⟩ := List.getElem?_eq_some_iff.1 hj
        obtain ⟨hz1, hz2⟩ := List.getElem?_eq_some_iff.1 hz
        have := (List.pairwise_iff_getElem.1 h) j (p - 1) hj1 hz1 (by omega)
        rw [hj2, hz2] at this
        omega
  have h3 : OnUp (l.take p) := List.Pairwise.sublist (List.take_sublist ..) h
  have h4 : OnUp (l.drop p) := List.Pairwise.sublist (List.drop_sublist ..) h
  unfold OnUp at *
  rw [List.append_assoc, List.pairwise_append]
  refine ⟨h3, ?_, fun a ha b hb => ?_⟩
  · rw [List.singleton_append, List.pairwise_cons]
    exact ⟨hd, h4⟩
  · rcases List.mem_append.1 hb with hb | hb
    · simp at hb
      subst hb
      exact ht a ha
    · have := List.pairwise_append.1 (by rw [List.take_append_drop]; exact h : ((l.take p) ++ (l.drop p)).Pairwise fun a b => a.n ≤ b.n)
      exact this.2.2 a ha b hb
/-- each with its row and its place, as far as k -/
structure Tagd (l : List On) (i : Int) (k : Nat) : Prop where
  up : OnUp l
  tag : ∀ (j : Nat) (y : On), l[j]? = some y → j < k → y.row = i ∧ y.at_ = (j : Int)
theorem Tagd.set {l : List On} {i : Int} {k : Nat} {y : On} (h : Tagd l i k) (hy : l[k]? = some y) : Tagd (l.set k ⟨y.n, i, (k : Int)⟩) i (k + 1) := by
  have hk := (List.getElem?_eq_some_iff.1 hy).1
  have hat : ∀ (j : Nat) (z : On), (l.set k ⟨y.n, i, (k : Int)⟩)[j]? = some z → (j = k ∧ z = ⟨y.n, i, (k : Int)⟩) ∨ (j ≠ k ∧ l[j]? = some z) := fun j z hj => by
    by_cases e : j = k
    · subst e
      rw [List.getElem?_set_self hk] at hj
      injection hj with hj
      exact .inl ⟨rfl, hj.symm⟩
    · rw [List.getElem?_set_ne (fun e' => e e'.symm)] at hj
      exact .inr ⟨e, hj⟩
  have hn : ∀ (j : Nat) (z : On), (l.set k ⟨y.n, i, (k : Int)⟩)[j]? = some z → ∃ u, l[j]? = some u ∧ u.n = z.n := fun j z hj => by
    rcases hat j z hj with ⟨rfl, rfl⟩ | ⟨_, h1⟩
    · exact ⟨y, hy, rfl⟩
    · exact ⟨z, h1, rfl⟩
  refine ⟨?_, fun j z hj hlt => ?_⟩
  · unfold OnUp
    rw [List.pairwise_iff_getElem]
    intro a b ha hb hab
    obtain ⟨u, hu, hun⟩ := hn a _ (List.getElem?_eq_getElem ha)
    obtain ⟨v, hv, hvn⟩ := hn b _ (List.getElem?_eq_getElem hb)
    obtain ⟨hu1, hu2⟩ := List.getElem?_eq_some_iff.1 hu
    obtain ⟨hv1, hv2⟩ := List.getElem?_eq_some_iff.1 hv
    have := (List.pairwise_iff_getElem.1 h.up) a b hu1 hv1 hab
    rw [hu2, hv2] at this
    rw [← hun, ← hvn]
    exact this
  · rcases hat j z hj with ⟨rfl, rfl⟩ | ⟨hne, h1⟩
    · exact ⟨rfl, rfl⟩
    · exact h.tag j z h1 (by omega)
/-- all rows so far -/
def AllTagd (rr : List (List On)) : Prop := ∀ (i : Nat) (l : List On), rr[i]? = some l → Tagd l (i : Int) l.length
theorem AllTagd.snoc {rr : List (List On)} {l : List On} (h : AllTagd rr) (hl : Tagd l (rr.length : Int) l.length) : AllTagd (rr ++ [l]) := fun i m hi => by
  rcases Nat.lt_trichotomy i rr.length with hlt | heq | hgt
  · rw [List.getElem?_append_left hlt] at hi
    exact h i m hi
  · subst heq
    rw [List.getElem?_append_right (Nat.le_refl _), Nat.sub_self] at hi
    simp at hi
    subst hi
    exact hl
  · rw [List.getElem?_eq_none (by simp; omega)] at hi
    cases hi
theorem AllTagd.up {rr : List (List On)} (h : AllTagd rr) : ∀ l ∈ rr, l.Pairwise fun a b => onR b a = false := fun l hl => by
  obtain ⟨i, hi⟩ := List.getElem?_of_mem hl
  refine (h i l hi).up.imp fun h1 => ?_
  simp only [onR, decide_eq_false_iff_not]
  omega
theorem AllTagd.flat {rr : List (List On)} (h : AllTagd rr) : rr.flatten.Pairwise onP := by
  rw [List.pairwise_flatten]
  refine ⟨fun l hl => ?_, ?_⟩
  · obtain ⟨i, hi⟩ := List.getElem?_of_mem hl
    have ht := h i l hi
    rw [List.pairwise_iff_getElem]
    intro a b ha hb hab
    obtain ⟨h1, h2⟩ := ht.tag a _ (List.getElem?_eq_getElem ha) ha
    obtain ⟨h3, h4⟩ := ht.tag b _ (List.getElem?_eq_getElem hb) hb
    exact .inr ⟨by rw [h1, h3], by rw [h2, h4]; omega⟩
  · rw [List.pairwise_iff_getElem]
    intro a b ha hb hab x hx y hy
    obtain ⟨j, hj⟩ := List.getElem?_of_mem hx
    obtain ⟨k, hk⟩ := List.getElem?_of_mem hy
    have h1 := (h a _ (List.getElem?_eq_getElem ha)).tag j x hj (List.getElem?_eq_some_iff.1 hj).1
    have h2 := (h b _ (List.getElem?_eq_getElem hb)).tag k y hk (List.getElem?_eq_some_iff.1 hk).1
    exact .inl (by rw [h1.1, h2.1]; omega)
end Go.Proofs.Ytpanpebllapbcaa

/-
  ITEMS of tankardlaw09; CONTRACTS of its functions first, pick, less. Conditions: what each says.
-/
import Derived.Test.YtpcaecnkdcobmaaHpB
import Derived.Test.YtpcaecnkdcobmaaCode
import Derived.Test.YtpcaecnkdcobmaaLs
import Derived.Deep.DeepCutAuto
namespace Go.Proofs.Ytpcaecnkdcobmaa
open Go.RowKit
set_option maxRecDepth 100000

theorem IsFirst.snoc {α : Type} {R : α → α → Bool} {D : α → Prop} (hR : WeakO R D) {l : List α} {i : Nat} {x y : α} (h : IsFirst R l i x) (hD : ∀ z ∈ l, D z) (hy : D y) : (R y x = true → IsFirst R (l ++ [y]) l.length y) ∧ (R y x = false → IsFirst R (l ++ [y]) i x) := by
  have hx := hD x (List.mem_of_getElem? h.at_)
  have hi := (List.getElem?_eq_some_iff.1 h.at_).1
  have hcut : ∀ (j : Nat) (z : α), (l ++ [y])[j]? = some z → (j < l.length ∧ l[j]? = some z) ∨ (j = l.length ∧ z = y) := by
    intro j z hj
    rcases Nat.lt_trichotomy j l.length with hlt | heq | hgt
    · rw [List.getElem?_append_left hlt] at hj
      exact .inl ⟨hlt, hj⟩
    · subst heq
      rw [List.getElem?_append_right (Nat.le_refl _), Nat.sub_self] at hj
      simp at hj
      exact .inr ⟨rfl, hj.symm⟩
    · rw [List.getElem?_eq_none (by simp; omega)] at hj
      cases hj
  refine ⟨fun hyx => ⟨by simp, fun j z hj hlt => ?_, fun j z hj => ?_⟩, fun hyx => ⟨by rw [List.getElem?_append_left hi]; exact h.at_, fun j z hj hlt => ?_, fun j z hj => ?_⟩⟩
  · rcases hcut j z hj with ⟨_, hz⟩ | ⟨he, _⟩
    · have hDz := hD z (List.mem_of_getElem? hz)
      rcases hR.split y z x hy hDz hx hyx with h1 | h1
      · exact h1
      · rw [h.least j z hz] at h1
        cases h1
    · omega
  · rcases hcut j z hj with ⟨_, hz⟩ | ⟨_, rfl⟩
    · have hDz := hD z (List.mem_of_getElem? hz)
      cases hzy : R z y with
      | false => rfl
      | true =>
        have h1 := hR.trans z y x hDz hy hx hzy hyx
        rw [h.least j z hz] at h1
        cases h1
    · exact hR.irr z hy
  · rcases hcut j z hj with ⟨_, hz⟩ | ⟨he, _⟩
    · exact h.ahead j z hz hlt
    · omega
  · rcases hcut j z hj with ⟨_, hz⟩ | ⟨_, rfl⟩
    · exact h.least j z hz
    · exact hyx
theorem IsFirst.single {α : Type} {R : α → α → Bool} {x : α} (h : R x x = false) : IsFirst R [x] 0 x := ⟨rfl, fun j y _ hj => absurd hj (by omega), fun j y hj => by
  rcases j with _ | j <;> simp at hj
  subst hj
  exact h⟩

/-- an item -/
structure It where
  key : Int
  nm : List UInt8
def itC (o : It) : List Value := [.int .i64 o.key, .string (Bstr o.nm)]
def itV (o : It) : Value := .agg #[.int .i64 o.key, .string (Bstr o.nm)]
def itR (a b : It) : Bool := decide (a.key < b.key)
theorem itO : WeakO itR fun _ => True where
  irr a _ := by simp [itR]
  trans a b c _ _ _ h1 h2 := by simp only [itR, decide_eq_true_eq] at *; omega
  split a b c _ _ _ h1 := by simp only [itR, decide_eq_true_eq] at *; omega
theorem itT : ElemT Try.prog 29 27 2 24 := ⟨Try.underlying29, by omega, by
  refine ⟨_, _, rfl, rfl, rfl, rfl, ?_⟩
  rfl⟩
abbrev HeapIt := HeapK itV (.agg #[.int .i64 0, .string ⟨#[]⟩]) 6 10 11 12 13
/-- a slice of items -/
def ItL (w : World) (v : Value) (l : List It) : Prop := Lv 2 w v (l.map itC)
theorem ItL.form {w : World} {v : Value} {l : List It} (h : ItL w v l) : ∃ A c, v = .slice A l.length c ∧ l.length ≤ c ∧ c ≤ 9223372036854775807 := by
  obtain ⟨A, c, hv, h1, h2⟩ := Lv.form h
  rw [List.length_map] at hv h1
  exact ⟨A, c, hv, h1, h2⟩
theorem ItL.cell {w : World} {A : Option Addr} {n c : Nat} {l : List It} (h : ItL w (.slice A n c) l) {i : Nat} {s : It} (hi : l[i]? = some s) :
    ∃ q p, A = some ⟨q, p, none⟩ ∧ q < w.heap.size ∧ w.cell? ⟨q, p + i * 2, none⟩ = some (.int .i64 s.key) ∧ w.cell? ⟨q, p + i * 2 + 1, none⟩ = some (.string (Bstr s.nm)) := by
  obtain ⟨q, p, hA, hq, hc⟩ := Lv.cells h (by omega) (i := i) (x := itC s) (by rw [List.getElem?_map, hi]; rfl)
  exact ⟨q, p, hA, hq, by simpa using hc 0 _ rfl, hc 1 _ rfl⟩
theorem itLess_any (a b : It) (w : World) : Calls Try.prog 7 #[itV a, itV b] w fun e w' => e = .returned (.bool (itR a b)) ∧ Below w.heap.size w w' := by
  unfold itV itR
  go_enter Try.func7, Try.ntmps7
  go_wp2_with fail
  go_ret
  exact ⟨rfl, by first | exact Below.refl _ _ | exact ((Below.refl _ w).alloc (Nat.le_refl _) _).alloc (by simp) _⟩
theorem itKeep (F : Nat → Prop) (u : World) : Keep F (LessAt itV (.func (.func 7) #[] #[]) itR fun _ => True) u := fun w' _ => ⟨_, _, rfl, fun _ _ => rfl, fun a b _ _ => itLess_any a b w'⟩

/-- one of n -/
def pick9 (c n : Int) : Int := (if c < 0 then -(c + 1) else c) % n
set_option maxHeartbeats 800000 in
theorem pick9_any (c n : Int) (w : World) (h0 : -9223372036854775808 ≤ c) (h1 : c ≤ 9223372036854775807) (hn : 0 < n) (hn1 : n ≤ 1000) :
    Calls Try.prog 9 #[.int .i64 c, .int .i64 n] w fun e w' => e = .returned (.int .i64 (pick9 c n)) ∧ w = w' := by
  by_cases hc : c < 0
  · have hp : Hid (pick9 c n = -((c + 1).tmod n)) := Lib.hid (by rw [pick9, if_pos hc, ← Int.neg_tmod, Int.tmod_eq_emod_of_nonneg (by omega)])
    go_enter Try.func9, Try.ntmps9
    go_wp2_with fail
    go_ret
    exact ⟨ret_int hp.out.symm, rfl⟩
  · have hp : Hid (pick9 c n = c % n) := Lib.hid (by rw [pick9, if_neg hc])
    go_enter Try.func9, Try.ntmps9
    go_wp2_with fail
    go_ret
    exact ⟨ret_int hp.out.symm, rfl⟩

/-- the place of the first one that is least; -1: there is none -/
def FirstAt (l : List It) (at_ : Int) : Prop := (l = [] ∧ at_ = -1) ∨ ∃ (i : Nat) (x : It), at_ = (i : Int) ∧ IsFirst itR l i x
set_option maxHeartbeats 1600000 in
theorem first_any (v : Value) (l : List It) (w : World) (h : ItL w v l) : Calls Try.prog 8 #[v] w fun e w' => (∃ a : Int, e = .returned (.int .i64 a) ∧ FirstAt l a) ∧ Below w.heap.size w w' := by
  have H := Lib.hid h
  obtain ⟨A, c, rfl, hc1, hc2⟩ := h.form
  clear h
  go_enter Try.func8, Try.ntmps8
  go_wp2_with fail
  go_loopg [3, 4] l.length (fun gk bv iv wr => ∃ (k : Nat) (b : Int), k + gk = l.length ∧ iv = .int .i64 (k : Int) ∧ bv = .int .i64 b ∧ (∃ n, wr = w.drewN n) ∧ Hid (FirstAt (l.take k) b))
  case atStart => exact ⟨0, -1, by omega, rfl, rfl, ⟨0, rfl⟩, Lib.hid (.inl ⟨rfl, rfl⟩)⟩
  case round =>
    obtain ⟨k, b, hk, rfl, rfl, ⟨n, rfl⟩, HB⟩ := hrel
    by_cases hlt : k < l.length
    · obtain ⟨gk1, hgk1⟩ : ∃ x, gk = x + 1 := ⟨gk - 1, by omega⟩
      obtain ⟨y, hky⟩ : ∃ y, l[k]? = some y := ⟨_, List.getElem?_eq_getElem hlt⟩
      have HS : Hid (l.take (k + 1) = l.take k ++ [y]) := Lib.hid (by
        obtain ⟨hk', rfl⟩ := List.getElem?_eq_some_iff.1 hky
        exact List.take_succ_eq_append_getElem hk')
      obtain ⟨q, p, rfl, hq, c0, _⟩ := H.out.cell hky
      have a0 : (0 : Int) ≤ (k : Int) := by omega
      have a1 : (k : Int) < (l.length : Int) := by omega
      rcases HB.out with ⟨he, rfl⟩ | ⟨i, x, rfl, hF⟩
      · have hk0 : k = 0 := by
          have := congrArg List.length he
          rw [List.length_take] at this
          simp only [List.length_nil] at this
          omega
        have HN : Hid (FirstAt (l.take (k + 1)) (k : Int)) := Lib.hid (.inr ⟨k, y, rfl, by
          rw [HS.out, he, hk0]
          exact IsFirst.single (itO.irr y trivial)⟩)
        have d1 : ¬ y.key < y.key := by omega
        clear he hk0 hky HS
        go_wp2_with fail
        go_quiet (fail)
        go_wp2_with fail
        go_roundg gk1
        case measure => omega
        case rel => exact ⟨k + 1, (k : Int), by omega, by go_num, rfl, ⟨_, rfl⟩, HN⟩
      · have hil := (List.getElem?_eq_some_iff.1 hF.at_).1
        rw [List.length_take] at hil
        have hix : l[i]? = some x := by
          have := hF.at_
          rw [List.getElem?_take_of_lt (by omega)] at this
          exact this
        obtain ⟨q', p', hA, hq', c0', _⟩ := H.out.cell hix
        injection hA with hA
        injection hA with hA1 hA2
        subst hA1 hA2
        have b0 : (0 : Int) ≤ (i : Int) := by omega
        have b1 : (i : Int) < (l.length : Int) := by omega
        have b2 : ¬ (i : Int) < 0 := by omega
        obtain ⟨s1, s2⟩ := hF.snoc itO (y := y) (fun _ _ => trivial) trivial
        rw [← HS.out] at s1 s2
        have hlk : (l.take k).length = k := by rw [List.length_take]; omega
        rw [hlk] at s1
        cases hyx : itR y x with
        | true =>
          have HN : Hid (FirstAt (l.take (k + 1)) (k : Int)) := Lib.hid (.inr ⟨k, y, rfl, s1 hyx⟩)
          have d1 : y.key < x.key := by simpa [itR] using hyx
          clear s1 s2 hF hyx hix hky hil hlk HS
          go_wp2_with fail
          go_quiet (fail)
          go_wp2_with fail
          go_roundg gk1
          case measure => omega
          case rel => exact ⟨k + 1, (k : Int), by omega, by go_num, rfl, ⟨_, rfl⟩, HN⟩
        | false =>
          have HN : Hid (FirstAt (l.take (k + 1)) (i : Int)) := Lib.hid (.inr ⟨i, x, rfl, s2 hyx⟩)
          have d1 : ¬ y.key < x.key := by simpa [itR] using hyx
          clear s1 s2 hF hyx hix hky hil hlk HS
          go_wp2_with fail
          go_quiet (fail)
          go_wp2_with fail
          go_roundg gk1
          case measure => omega
          case rel => exact ⟨k + 1, (i : Int), by omega, by go_num, rfl, ⟨_, rfl⟩, HN⟩
    · have hkn : k = l.length := by omega
      subst hkn
      have hE := HB.out
      rw [List.take_length] at hE
      have HE := Lib.hid hE
      clear hE
      go_wp2_with fail
      go_ret
      exact ⟨⟨b, rfl, HE.out⟩, below_drewN (Below.refl _ _) _⟩
end Go.Proofs.Ytpcaecnkdcobmaa

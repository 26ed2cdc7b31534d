/-
  CONTRACTS of the program's index: isIndex, Find. Conditions: what each says.
-/
import Derived.Test.YtnlflgannghfpaaIxA
import Derived.Test.YtnlflgannghfpaaUs
import Derived.Test.YtnlflgannghfpaaMix
import Derived.Deep.DeepCutAuto
namespace Go.Proofs.Ytnlflgannghfpaa
open Go.RowKit
set_option maxRecDepth 100000

theorem wrap_pred {k m : Nat} (h : k = m + 1) (hm : (m : Int) < 9223372036854775807) : IntKind.i64.wrap ((k : Int) - 1) = (m : Int) := by
  rw [show (k : Int) - 1 = (m : Int) by omega]
  exact IntWalk.i64_in _ (by omega)
theorem risB_take_succ {l : List Nat} {k m x y : Nat} (hk : k = m + 1) (hy : l[m]? = some y) (hx : l[k]? = some x) : risB (l.take (k + 1)) = (risB (l.take k) && decide (y < x)) := by
  subst hk
  obtain ⟨h1, e1⟩ := List.getElem?_eq_some_iff.1 hx
  obtain ⟨h2, e2⟩ := List.getElem?_eq_some_iff.1 hy
  subst e1
  subst e2
  rw [List.take_succ_eq_append_getElem h1, List.take_succ_eq_append_getElem h2, List.append_assoc]
  exact risB_snoc _ _ _
theorem risB_take_false : ∀ {l : List Nat} {n : Nat}, risB (l.take n) = false → risB l = false := by
  intro l n h
  cases hb : risB l with
  | false => rfl
  | true =>
    have : risB (l.take n) = true := (risB_iff _).2 fun i a b h1 h2 => by
      rw [List.getElem?_take] at h1 h2
      split at h1
      · split at h2
        · exact (risB_iff l).1 hb i a b h1 h2
        · cases h2
      · cases h1
    rw [this] at h
    cases h

set_option maxHeartbeats 1600000 in
theorem isIndex_any (v : Value) (l : List Nat) (w : World) (h : Us w v l) :
    Calls Try.prog 23 #[v] w fun e w' => e = .returned (.bool (ixB l)) ∧ Below w.heap.size w w' := by
  obtain ⟨A, c, rfl, hc1, hc2⟩ := h.form
  have H := Lib.hid h
  clear h
  go_enter Try.func23, Try.ntmps23
  go_wp2_with fail
  go_loopg [6] l.length (fun gk iv wr => ∃ (k : Nat), k + gk = l.length ∧ iv = .int .i64 (k : Int) ∧ Hid (Below w.heap.size w wr ∧ risB (l.take k) = true))
  case atStart => exact ⟨0, by omega, rfl, Lib.hid ⟨Below.refl _ _, rfl⟩⟩
  case round =>
    obtain ⟨k, hk, rfl, HM⟩ := hrel
    by_cases hkl : k < l.length
    · obtain ⟨gk1, hgk1⟩ : ∃ x, gk = x + 1 := ⟨gk - 1, by omega⟩
      obtain ⟨x, hx⟩ : ∃ x, l[k]? = some x := ⟨_, List.getElem?_eq_getElem hkl⟩
      obtain ⟨q, o, rfl, hq, hcx⟩ := (H.out.below HM.out.1).cell hx
      have HX := Lib.hid hx
      have a0 : (0 : Int) ≤ (k : Int) := by omega
      have a1 : (k : Int) < (l.length : Int) := by omega
      clear hx
      by_cases hk0 : k = 0
      · subst hk0
        have HU : Hid (risB (l.take (0 + 1)) = true) := Lib.hid (by
          cases l with
          | nil => rfl
          | cons a l => rfl)
        go_wp2_with fail
        go_quiet (fail)
        go_wp2_with fail
        go_roundg gk1
        case measure => omega
        case rel => exact ⟨0 + 1, by omega, by go_num, Lib.hid ⟨below_drewN HM.out.1 _, HU.out⟩⟩
      · obtain ⟨m, hkm⟩ : ∃ m, k = m + 1 := ⟨k - 1, by omega⟩
        obtain ⟨y, hy⟩ : ∃ y, l[m]? = some y := ⟨_, List.getElem?_eq_getElem (by omega)⟩
        obtain ⟨q', o', he, _, hcy⟩ := (H.out.below HM.out.1).cell hy
        simp only [Option.some.injEq, Addr.mk.injEq, and_true] at he
        obtain ⟨rfl, rfl⟩ := he
        have HU := Lib.hid (risB_take_succ hkm hy HX.out)
        have hpos : 0 < k := by omega
        have hpos2 : decide (0 < k) = true := decide_eq_true hpos
        have hwm : IntKind.i64.wrap ((k : Int) - 1) = (m : Int) := wrap_pred hkm (by omega)
        have hm0 : (0 : Int) ≤ (m : Int) := by omega
        have hm1 : (m : Int) < (l.length : Int) := by omega
        clear hy hkm hk0
        by_cases hlt : y < x
        · have HU2 : Hid (risB (l.take (k + 1)) = true) := Lib.hid (by rw [HU.out, HM.out.2, decide_eq_true hlt]; rfl)
          go_wp2_with fail
          go_quiet (fail)
          go_wp2_with fail
          go_roundg gk1
          case measure => omega
          case rel => exact ⟨k + 1, by omega, by go_num, Lib.hid ⟨below_drewN HM.out.1 _, HU2.out⟩⟩
        · have HE : Hid (ixB l = false) := Lib.hid (by
            have h1 : risB (l.take (k + 1)) = false := by rw [HU.out, decide_eq_false hlt, Bool.and_false]
            rw [ixB, risB_take_false h1, Bool.false_and])
          go_wp2_with fail
          go_quiet (fail)
          go_wp2_with fail
          go_ret
          exact ⟨ret_bool HE.out.symm, below_drewN HM.out.1 _⟩
    · have hkn : k = l.length := by omega
      subst hkn
      have HE : Hid (ixB l = decide ((l.length : Int) ≤ 200)) := Lib.hid (by
        have h1 := HM.out.2
        rw [List.take_length] at h1
        rw [ixB, h1, Bool.true_and]
        congr 1
        apply propext
        omega)
      have HB := Lib.hid HM.out.1
      clear HM hkl
      go_wp2_with fail
      go_ret
      exact ⟨ret_bool HE.out.symm, HB.out⟩

theorem ifind_any (v : Value) (l : List Nat) (id : Nat) (w : World) (h : Us w v l) :
    Calls Try.prog 11 #[v, .int .u64 (id : Int)] w fun e w' => ∃ k : Int, e = .returned (.int .i64 k) ∧ IsAt l id k ∧ w = w' := by
  obtain ⟨A, c, rfl, hc1, hc2⟩ := h.form
  have H := Lib.hid h
  clear h
  go_enter Try.func11, Try.ntmps11
  go_wp2_with fail
  go_loopg [5] l.length (fun gk iv wr => ∃ (k : Nat), k = gk ∧ k ≤ l.length ∧ iv = .int .i64 ((k : Int) - 1) ∧ wr = w ∧ Hid (∀ (i x : Nat), l[i]? = some x → k ≤ i → id < x))
  case atStart => exact ⟨l.length, rfl, Nat.le_refl _, rfl, rfl, Lib.hid fun i x h hi => by
    have := (List.getElem?_eq_some_iff.1 h).1
    omega⟩
  case round =>
    obtain ⟨k, hk, hkl, rfl, rfl, HM⟩ := hrel
    cases k with
    | zero =>
      have HE : Hid (IsAt l id (-1)) := Lib.hid ⟨by omega, by omega, fun i x h e => by omega, fun i x h e => HM.out i x h (by omega)⟩
      have e0 : ((0 : Nat) : Int) - 1 = -1 := rfl
      rw [e0]
      clear e0 HM
      go_wp2_with fail
      go_ret
      exact ⟨_, rfl, HE.out, rfl⟩
    | succ k =>
      obtain ⟨x, hx⟩ : ∃ x, l[k]? = some x := ⟨_, List.getElem?_eq_getElem (by omega)⟩
      obtain ⟨q, o, rfl, hq, hcx⟩ := H.out.cell hx
      have HX := Lib.hid hx
      have e1 : ((k + 1 : Nat) : Int) - 1 = (k : Int) := by omega
      rw [e1]
      have a0 : (0 : Int) ≤ (k : Int) := by omega
      have a1 : (k : Int) < (l.length : Int) := by omega
      clear hx e1
      by_cases hgt : id < x
      · have HM2 : Hid (∀ (i x : Nat), l[i]? = some x → k ≤ i → id < x) := Lib.hid fun i z h hi => by
          rcases Nat.lt_or_eq_of_le hi with h1 | h1
          · exact HM.out i z h h1
          · subst h1
            rw [HX.out] at h
            injection h with h
            subst h
            exact hgt
        go_wp2_with fail
        go_roundg k
        case measure => omega
        case rel => exact ⟨k, rfl, by omega, by go_num, rfl, HM2⟩
      · have HE : Hid (IsAt l id (k : Int)) := Lib.hid ⟨by omega, by omega, fun i z h e => by
            have : i = k := by omega
            subst this
            rw [HX.out] at h
            injection h with h
            subst h
            omega, fun i z h e => HM.out i z h (by omega)⟩
        go_wp2_with fail
        go_ret
        exact ⟨_, rfl, HE.out, rfl⟩
end Go.Proofs.Ytnlflgannghfpaa

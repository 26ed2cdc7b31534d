/-
  CONTRACT of tankardlaw00.Code: an error's number. Conditions: what each says.
-/
import Derived.Test.YtkhdlcoappkgkaaDoorWordA
namespace Go.Proofs.YtkhdlcoappkgkaaDoor
open Go.RowKit

theorem Bstr_take (s : List UInt8) (n : Nat) : (Bstr s).extract 0 n = Bstr (s.take n) := by
  apply ByteArray.ext
  simp [Bstr]

theorem Code_nil (w : World) : Calls Tryd.prog 21 #[.nilIface] w fun e w' => e = .returned (.int .i64 0) ∧ w = w' := by
  go_enter Tryd.func21, Tryd.ntmps21
  go_wp2_with fail
  go_ret
  exact ⟨rfl, rfl⟩

theorem Code_any (n : Int) (w : World) (h1 : 1 ≤ n) (h2 : n ≤ 10) : Calls Tryd.prog 21 #[code n] w fun e w' => e = .returned (.int .i64 n) ∧ w = w' := by
  have eqc := fun u j => eqCode u n j
  obtain ⟨n, rfl⟩ := nat_of (n := n) (by omega)
  go_enter Tryd.func21, Tryd.ntmps21
  go_wp2
  go_loop [3] (fun i => ∃ j : Nat, 1 ≤ j ∧ j ≤ n ∧ i = .int .i64 j) (fun i => n - (intOf i).toNat)
  case atStart => exact ⟨1, Nat.le_refl _, by omega, rfl⟩
  case round =>
    obtain ⟨j, hj1, hj2, rfl⟩ := hrel
    by_cases hlt : j < n
    · have hne : ((n : Int) == (j : Int)) = false := by rw [beq_eq_false_iff_ne]; omega
      go_wp2
      refine ⟨⟨j + 1, by omega, by omega, by go_num⟩, by simp [intOf]; omega⟩
    · obtain rfl : j = n := by omega
      have heq : ((j : Int) == (j : Int)) = true := by simp
      go_wp2
      go_ret
      exact ⟨rfl, rfl⟩

/-- an error, by its number -/
def errV (c : Int) : Value := if c = 0 then .nilIface else code c
theorem errV_zero : errV 0 = .nilIface := rfl
theorem errV_code {c : Int} (h : c ≠ 0) : errV c = code c := by rw [errV, if_neg h]
/-- an error's number -/
theorem Code_err (c : Int) (w : World) (h : 0 ≤ c ∧ c ≤ 10) : Calls Tryd.prog 21 #[errV c] w fun e w' => e = .returned (.int .i64 c) ∧ w = w' := by
  by_cases h0 : c = 0
  · subst h0
    rw [errV_zero]
    exact Code_nil w
  · rw [errV_code h0]
    exact Code_any c w (by omega) h.2
end Go.Proofs.YtkhdlcoappkgkaaDoor

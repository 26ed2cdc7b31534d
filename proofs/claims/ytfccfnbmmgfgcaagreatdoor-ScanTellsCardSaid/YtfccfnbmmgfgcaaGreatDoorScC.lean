/-
  The head of layer 16's statements; ScanAll, walked over whatever scanner keeps ScanK. Conditions: what each says; of the library's tables: Ld.
-/
import Derived.Test.YtfccfnbmmgfgcaaGreatDoorScA
import Derived.Test.YtfccfnbmmgfgcaaGreatDoorRdE
namespace Go.Proofs.YtfccfnbmmgfgcaaGreatDoor
open Go.RowKit
set_option maxRecDepth 100000

section
variable {PSc : World → (Nat → Prop) → Nat → Nat → List Tn → Int → Sm → Bool → Prop} {PSq : World → (Nat → Prop) → Nat → Sm → Value → Nat → Prop}

set_option maxHeartbeats 3200000 in
theorem up16_any (hK : ScanK PSc PSq) (w : World) (hL : Ld w) : Calls Tryz.prog 5 #[] w fun e w' => e = .returned (.bool true) ∧ Below w.heap.size w w' := by
  have HLD := Lib.hid hL
  have eqc := eqCode
  clear hL
  go_enter Tryz.func5, Tryz.ntmps5
  go_wp2_with fail
  refine (snew_ok 100 _ (by omega) (by omega)).mono ?_
  rintro e w1 ⟨g, F, rfl, hP1, hb1, hF1⟩
  have hM := hK.open_no 1 hP1 (fine_start 100 (by omega) (by omega)) (by omega) (by omega) (Keep.of_old (w0 := w) (fun u hu => HLD.out.below hu) hb1 hF1) (by rw [meR_empty]; simp)
  rw [meR_empty] at hM
  simp only [errV_code (show (4 : Int) ≠ 0 by omega)] at hM
  have HB1 := Lib.hid hb1
  have HF1 := Lib.hid hF1
  clear hb1 hP1 hF1
  go_wp2_with fail
  refine hM.mono ?_
  rintro e w2 ⟨rfl, F2, hP2, hG2⟩
  have HB2 : Hid (Below w.heap.size w w2) := Lib.hid (below_apt HB1.out hG2.apt HF1.out HB1.out.size)
  clear hM hP2 hG2 HB1 HF1
  have hN := hK.open_nil 1 (by omega) (HLD.out.below HB2.out)
  go_wp2_with fail
  refine hN.mono ?_
  rintro e w4 ⟨rfl, hb4⟩
  have HB4 := Lib.hid (HB2.out.trans (hb4.mono HB2.out.size))
  clear hN hb4 HB2
  go_wp2_with fail
  go_ret
  exact ⟨rfl, HB4.out⟩

end

end Go.Proofs.YtfccfnbmmgfgcaaGreatDoor

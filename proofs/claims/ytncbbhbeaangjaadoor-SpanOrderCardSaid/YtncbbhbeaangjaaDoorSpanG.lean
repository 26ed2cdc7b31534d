/-
  THE HEAD OF LAYER 3's STATEMENTS: 'up' returns true; nothing that was there has turned. Condition: errors.errorType holds the handle of 'error' (Hd).
-/
import Derived.Test.YtncbbhbeaangjaaDoorSpanF
namespace Go.Proofs.YtncbbhbeaangjaaDoor
open Go.RowKit

theorem getS_nil : getS nextMost [] = .error 0 := by
  rw [getS, if_neg (by decide)]

set_option maxHeartbeats 800000 in
theorem up3_any (w : World) (hd : Hd w) : Calls Tryd.prog 8 #[] w fun e w' => e = .returned (.bool true) ∧ Below w.heap.size w w' := by
  go_enter Tryd.func8, Tryd.ntmps8
  go_wp2_with fail
  refine (sput_any _ [] _ (Ss.nil _) (by simp)).mono ?_
  rintro e w1 ⟨x1, e1, rfl, hp1, hb1⟩
  obtain ⟨rfl, hown1⟩ := hp1.yes rfl
  go_wp2_with fail
  refine (sget_any _ [] _ (Bs.nil _) (by simp)).mono ?_
  rintro e w2 ⟨x2, e2, rfl, hp2, hb2⟩
  obtain ⟨rfl, hsp⟩ := hp2.no 0 getS_nil
  have hl : encS [] = [0, 0] := by decide
  rw [hl] at hown1
  have hB2 := hb1.trans (hb2.mono hb1.size)
  have hstr := strOf (hown1.bs.below hb2)
  have hlit : Bstr [0, 0] = ⟨#[0, 0]⟩ := rfl
  rw [hlit] at hstr
  have HD := Lib.hid (hd.below hB2)
  clear hlit hl hown1 hp1 hp2 hb1 hb2 hd
  go_wp2_with fail
  refine (Is_hit _ _ _ _ HD.out hsp).mono ?_
  rintro e w3 ⟨rfl, hb3⟩
  have hB3 := hB2.trans (hb3.mono hB2.size)
  clear hstr hb3 hB2
  go_wp2_with fail
  refine (may_any _ ⟨0, 0, 0, 0, []⟩ _ ⟨⟨by decide, by decide, by decide, by decide, by decide, by decide, by decide, by decide⟩, _, rfl, Bs.nil _⟩).mono ?_
  rintro e w4 ⟨rfl, hb4⟩
  have hB4 := hB3.trans (hb4.mono hB3.size)
  rw [show mayB ⟨0, 0, 0, 0, []⟩ = true by decide]
  go_wp2_with fail
  refine (may_any _ ⟨0, 0, 2, 1, []⟩ _ ⟨⟨by decide, by decide, by decide, by decide, by decide, by decide, by decide, by decide⟩, _, rfl, Bs.nil _⟩).mono ?_
  rintro e w5 ⟨rfl, hb5⟩
  have hB5 := hB4.trans (hb5.mono hB4.size)
  rw [show mayB ⟨0, 0, 2, 1, []⟩ = false by decide]
  go_wp2_with fail
  go_ret
  exact ⟨rfl, hB5⟩

end Go.Proofs.YtncbbhbeaangjaaDoor

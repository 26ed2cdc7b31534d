/-
  THE HEAD OF LAYER 5's STATEMENTS; few traces.
-/
import Derived.Test.YtcpbikogccdknaaPgE
namespace Go.Proofs.Ytcpbikogccdknaa
open Go.RowKit Go.Maps
set_option maxRecDepth 100000

theorem pfew {l : List Tn} {n : Nat} (h : fewT l (n : Int) = true) : l.length ≤ 100 ∧ (flatT l).length ≤ n ∧ ∀ s ∈ flatT l, s.data.length ≤ 200 := by
  simp only [fewT, fewB, Bool.and_eq_true, decide_eq_true_iff, List.all_eq_true] at h
  refine ⟨by omega, by omega, fun s hs => ?_⟩
  simp only [flatT, List.mem_flatMap] at hs
  obtain ⟨t, ht, hs⟩ := hs
  exact (h.1 t ht).1 s hs

theorem isT_nil : IsT [] := ⟨fun k t h => by simp at h, fun k t u h => by simp at h⟩
theorem pgOf_nil : pgOf [] = [0, 0] ++ bet (crcOf (pgBody [])) 4 := rfl
theorem pgOf_nil_length : (pgOf []).length = 6 := by rw [pgOf_length]; rfl

set_option maxHeartbeats 800000 in
theorem up5_any (w : World) : Calls Try.prog 7 #[] w fun e w' => e = .returned (.bool true) ∧ Below w.heap.size w w' := by
  have eqc := eqCode
  go_enter Try.func7, Try.ntmps7
  go_wp2_with fail
  refine (pput_any _ [] _ (Ts.nil _)).mono ?_
  rintro e w1 ⟨x, er, rfl, hP, hb1⟩
  obtain ⟨rfl, hown⟩ := hP.yes (pgB_iff.2 ⟨by simp, isT_nil⟩)
  clear hP
  go_wp2_with fail
  refine (pget_any _ [] _ (Bs.nil _) (by simp)).mono ?_
  rintro e w2 ⟨l, er, rfl, hG, hb2⟩
  obtain ⟨rfl, rfl⟩ := hG.short (by simp)
  have hB2 := hb1.trans (hb2.mono hb1.size)
  have ho2 := hown.below hb2
  clear hG hown
  rcases ho2.2 with ⟨_, h0⟩ | ⟨g, c, cur, rfl, _, _, hc1, hc2, _⟩
  · rw [pgOf_nil_length] at h0
    cases h0
  have hr := ho2.rd
  rw [pgOf_nil_length] at hc1 ⊢
  have r0 := hr.cells 0 (.int .u8 0) (by rw [pgOf_nil]; rfl)
  have r1 := hr.cells 1 (.int .u8 0) (by rw [pgOf_nil]; rfl)
  rw [Addr.add_lit] at r0 r1
  simp only [maxLen] at hc2
  clear hr hb1 hb2 ho2
  go_wp2_with fail
  go_ret
  exact ⟨rfl, hB2⟩

end Go.Proofs.Ytcpbikogccdknaa

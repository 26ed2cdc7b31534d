/-
  THE HEAD OF LAYER 4's STATEMENTS: 'up' returns true; nothing that was there has turned.
-/
import Derived.Test.YtalljllloffieaaTrG
namespace Go.Proofs.Ytalljllloffieaa
open Go.RowKit

theorem is_nil (w : World) : Calls Try.prog 21 #[.slice none 0 0] w fun e w' => e = .returned (.bool true) ∧ w = w' := by
  go_enter Try.func21, Try.ntmps21
  go_wp2_with fail
  refine wp_loop_rounds 1 ?_
  rw [rounds_succ]
  go_wp2_with fail
  go_ret
  exact ⟨rfl, rfl⟩

theorem canonical_none (i : Int) (w : World) : Calls Try.prog 33 #[.agg #[.int .u64 i, .slice none 0 0]] w fun e w' => e = .returned (.bool false) ∧ Below w.heap.size w w' := by
  go_enter Try.func33, Try.ntmps33
  go_wp2_with fail
  go_ret
  exact ⟨rfl, (Below.refl _ _).alloc (Nat.le_refl _) _⟩

theorem is_zero (g : Nat) (w : World) (h : Blk w g 45 #[.int .u64 0, .slice none 0 0]) : Calls Try.prog 21 #[.slice (some ⟨g, 0, none⟩) 1 1] w fun e w' => e = .returned (.bool false) ∧ Below w.heap.size w w' := by
  have c0 := h.cell 0
  have c1 := h.cell 1
  have hlt := h.lt
  simp at c0 c1
  have hb : Below w.heap.size w (w.alloc (.cells #[.int .u64 0, .slice none 0 0] 45)) := (Below.refl _ _).alloc (Nat.le_refl _) _
  clear h
  go_enter Try.func21, Try.ntmps21
  go_wp2_with fail
  refine wp_loop_rounds 1 ?_
  rw [rounds_succ]
  go_wp2_with fail
  go_quiet (fail)
  go_wp2_with fail
  refine (canonical_none _ _).mono ?_
  rintro e w2 ⟨rfl, hb2⟩
  go_wp2_with fail
  go_ret
  exact ⟨rfl, (below_drewN hb _).trans (hb2.mono hb.size)⟩

def upA : Sn := ⟨0, 2, 1, 1, []⟩
def upB : Sn := ⟨0, 1, 0, 5, []⟩
def upC : Sn := ⟨0, 2, 0, 9, []⟩
theorem up_gat : Gat [upA, upB, upC] [upB, upC] := by
  refine Gat.made (d := [upB, upC, upA]) ?_ ?_ (r := [upB, upC]) ?_ ?_
  · exact List.perm_append_comm (l₁ := [upB, upC]) (l₂ := [upA])
  · simp [upA, upB, upC, cmpW, cmpL, lexC, cmpI]
  · have : dedL [upB, upC, upA] = [upB, upC] := by simp [dedL, ded, keyB, upA, upB, upC]
    rw [this]
  · simp [upB, upC, cmpS, orI, cmpI]

set_option maxHeartbeats 800000 in
set_option maxRecDepth 100000 in
theorem up4_any (w : World) : Calls Try.prog 7 #[] w fun e w' => e = .returned (.bool true) ∧ Below w.heap.size w w' := by
  have hb0 : Below w.heap.size w (w.alloc (.cells #[.int .u64 0, .int .u64 2, .int .i64 1, .int .i64 1, .slice none 0 0, .int .u64 0, .int .u64 1, .int .i64 0, .int .i64 5, .slice none 0 0, .int .u64 0, .int .u64 2, .int .i64 0, .int .i64 9, .slice none 0 0] 40)) := (Below.refl _ _).alloc (Nat.le_refl _) _
  have hs : Ss (w.alloc (.cells #[.int .u64 0, .int .u64 2, .int .i64 1, .int .i64 1, .slice none 0 0, .int .u64 0, .int .u64 1, .int .i64 0, .int .i64 5, .slice none 0 0, .int .u64 0, .int .u64 2, .int .i64 0, .int .i64 9, .slice none 0 0] 40)) (.slice (some ⟨w.heap.size, 0, none⟩) 3 3) [upA, upB, upC] := by
    refine ⟨[spCells upA (.slice none 0 0), spCells upB (.slice none 0 0), spCells upC (.slice none 0 0)], ⟨_, 3, rfl, Nat.le_refl _, by omega, ?_, ?_⟩, ?_⟩
    · intro x hx
      simp at hx
      rcases hx with rfl | rfl | rfl <;> rfl
    · exact Rd.lit w #[.int .u64 0, .int .u64 2, .int .i64 1, .int .i64 1, .slice none 0 0, .int .u64 0, .int .u64 1, .int .i64 0, .int .i64 5, .slice none 0 0, .int .u64 0, .int .u64 2, .int .i64 0, .int .i64 9, .slice none 0 0] 40
    · refine ((Two.nil.snoc (l := []) (m := []) ?_).snoc ?_).snoc ?_
      all_goals exact ⟨⟨by decide, by decide, by decide, by decide, by decide, by decide, by decide, by decide⟩, _, rfl, Bs.nil _⟩
  have HS := Lib.hid hs
  clear hs
  go_enter Try.func7, Try.ntmps7
  go_wp2_with fail
  refine (gather_any _ [upA, upB, upC] _ HS.out (by simp) (by simp [upA, upB, upC])).mono ?_
  rintro e w1 ⟨v1, r, rfl, ho1, hG, hb1⟩
  obtain rfl := hG.one up_gat
  have hB1 := hb0.trans (hb1.mono hb0.size)
  rcases ho1.form with ⟨_, h⟩ | ⟨g, c, rfl, hc1, hc2, _, hgw⟩
  · cases h
  obtain ⟨d0, c0, c1, c2, c3, c4, _⟩ := ho1.cells (i := 0) (s := upB) rfl
  obtain ⟨d1, x0, x1, x2, x3, x4, _⟩ := ho1.cells (i := 1) (s := upC) rfl
  simp [upB, upC] at c1 x2
  simp only [List.length_cons, List.length_nil] at hc1
  clear ho1 hG c0 c2 c3 c4 x0 x1 x3 x4 hb1
  go_wp2_with fail
  refine (is_nil _).mono ?_
  rintro e w2 ⟨rfl, rfl⟩
  have hB2 : Below w.heap.size w (w1.alloc (.cells #[.int .u64 0, .slice none 0 0] 45)) := hB1.alloc hB1.size _
  go_wp2_with fail
  refine (is_zero w1.heap.size _ (Blk.new _ _ _)).mono ?_
  rintro e w3 ⟨rfl, hb3⟩
  have hB3 := hB2.trans (hb3.mono hB2.size)
  go_wp2_with fail
  go_ret
  exact ⟨rfl, hB3⟩

end Go.Proofs.Ytalljllloffieaa

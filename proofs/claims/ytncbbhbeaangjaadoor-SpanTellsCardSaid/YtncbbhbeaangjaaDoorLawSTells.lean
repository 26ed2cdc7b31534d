/-
  SpanTells: for all two spans it returns true, and what is handed in reads as it did. Its walk. Condition: errors.errorType holds the handle of 'error' (Hd).
-/
import Derived.Test.YtncbbhbeaangjaaDoorLawSOrder
import Derived.Test.YtncbbhbeaangjaaDoorMix
namespace Go.Proofs.YtncbbhbeaangjaaDoor
open Go.RowKit

theorem aheadB_cmp (a b : Sn) : aheadB a b = decide (cmpS a b = -1) := by
  have k := cmpS_cases a b
  unfold aheadB
  generalize cmpS a b = x at *
  by_cases h1 : a.st = b.st
  · rw [if_neg (by simpa using h1)]
    by_cases h2 : a.id = b.id
    · rw [if_neg (by simpa using h2), decide_eq_decide]
      omega
    · rw [if_pos h2, decide_eq_decide]
      omega
  · rw [if_pos h1, decide_eq_decide]
    omega
theorem sameB_self (a : Sn) : sameB a a = true := by simp [sameB]

set_option maxRecDepth 100000 in
set_option maxHeartbeats 6400000 in
theorem spanTells_any (va vb : Value) (a b : Sn) (w : World) (ha : SV w va a) (hb : SV w vb b) (hd : Hd w) :
    Calls Tryd.prog 3 #[va, vb] w fun e w' => e = .returned (.bool true) ∧ Below w.heap.size w w' := by
  have SA := Lib.hid ha
  have SB := Lib.hid hb
  obtain ⟨oa, da, rfl, Aa, ca, rfl, ba1, ba2, ba3⟩ := ha
  obtain ⟨ob, db, rfl, Ab, cb, rfl, bb1, bb2, bb3⟩ := hb
  clear oa ob ba3 bb3
  go_enter Tryd.func3, Tryd.ntmps3
  go_wp2_with fail
  refine (up3_any _ ((hd.alloc _).alloc _)).mono ?_
  rintro e w1 ⟨rfl, hb1⟩
  have hA := ((Blk.new w 25 #[.int .u64 a.tr, .int .u64 a.id, .int .i64 a.st, .int .i64 a.en, .slice Aa a.data.length ca]).alloc _).below hb1 (by simp; omega)
  have hB := (Blk.new _ 25 #[.int .u64 b.tr, .int .u64 b.id, .int .i64 b.st, .int .i64 b.en, .slice Ab b.data.length cb]).below hb1 (by simp)
  simp only [World.size_alloc] at hB
  have hW : Below w.heap.size w w1 := (((Below.refl w.heap.size w).alloc (Nat.le_refl _) _).alloc (by simp) _).trans (hb1.mono (by simp; omega))
  clear hb1 hd
  obtain ⟨a0, a1, a2, a3, a4⟩ := hA.five
  obtain ⟨b0, b1, b2, b3, b4⟩ := hB.five
  by_cases hl1 : a.data.length ≤ 1000
  · by_cases hl2 : b.data.length ≤ 1000
    · have hcase : cmpS a b = -1 ∨ cmpS a b = 0 ∨ cmpS a b = 1 := by have := cmpS_cases a b; omega
      rcases hcase with hc | hc | hc
      · have HC := Lib.hid hc
        have e1 : aheadB a b = true := by rw [aheadB_cmp, hc]; decide
        have e2 : aheadB b a = false := by rw [aheadB_cmp, cmpS_neg a b, hc]; decide
        have HE1 := Lib.hid e1
        have HE2 := Lib.hid e2
        clear hc e1 e2
        go_wp2_with fail
        refine (Ahead_any _ _ a b _ (SA.out.below hW) (SB.out.below hW)).mono ?_
        rintro e w3 ⟨rfl, hb3⟩
        rw [HE1.out]
        replace hA := hA.below hb3 hA.lt
        replace hB := hB.below hb3 hB.lt
        replace hW := hW.trans (hb3.mono hW.size)
        obtain ⟨a0, a1, a2, a3, a4⟩ := hA.five
        obtain ⟨b0, b1, b2, b3, b4⟩ := hB.five
        clear hb3
        go_wp2_with fail
        refine (Ahead_any _ _ b a _ (SB.out.below hW) (SA.out.below hW)).mono ?_
        rintro e w5 ⟨rfl, hb5⟩
        rw [HE2.out]
        replace hA := hA.below hb5 hA.lt
        replace hB := hB.below hb5 hB.lt
        replace hW := hW.trans (hb5.mono hW.size)
        clear hb5 a0 a1 a2 a3 a4 b0 b1 b2 b3 b4
        go_wp2_with fail
        have SA := Lib.hid (SA.out.below hW)
        have SB := Lib.hid (SB.out.below hW)
        have a0 : ∀ u, Below w5.heap.size w5 u → u.cell? ⟨w.heap.size, 0, none⟩ = some (.int .u64 a.tr) := fun u h => (hA.below h hA.lt).five.1
        have a1 : ∀ u, Below w5.heap.size w5 u → u.cell? ⟨w.heap.size, 1, none⟩ = some (.int .u64 a.id) := fun u h => (hA.below h hA.lt).five.2.1
        have a2 : ∀ u, Below w5.heap.size w5 u → u.cell? ⟨w.heap.size, 2, none⟩ = some (.int .i64 a.st) := fun u h => (hA.below h hA.lt).five.2.2.1
        have a3 : ∀ u, Below w5.heap.size w5 u → u.cell? ⟨w.heap.size, 3, none⟩ = some (.int .i64 a.en) := fun u h => (hA.below h hA.lt).five.2.2.2.1
        have a4 : ∀ u, Below w5.heap.size w5 u → u.cell? ⟨w.heap.size, 4, none⟩ = some (.slice Aa a.data.length ca) := fun u h => (hA.below h hA.lt).five.2.2.2.2
        have b0 : ∀ u, Below w5.heap.size w5 u → u.cell? ⟨w.heap.size + 1, 0, none⟩ = some (.int .u64 b.tr) := fun u h => (hB.below h hB.lt).five.1
        have b1 : ∀ u, Below w5.heap.size w5 u → u.cell? ⟨w.heap.size + 1, 1, none⟩ = some (.int .u64 b.id) := fun u h => (hB.below h hB.lt).five.2.1
        have b2 : ∀ u, Below w5.heap.size w5 u → u.cell? ⟨w.heap.size + 1, 2, none⟩ = some (.int .i64 b.st) := fun u h => (hB.below h hB.lt).five.2.2.1
        have b3 : ∀ u, Below w5.heap.size w5 u → u.cell? ⟨w.heap.size + 1, 3, none⟩ = some (.int .i64 b.en) := fun u h => (hB.below h hB.lt).five.2.2.2.1
        have b4 : ∀ u, Below w5.heap.size w5 u → u.cell? ⟨w.heap.size + 1, 4, none⟩ = some (.slice Ab b.data.length cb) := fun u h => (hB.below h hB.lt).five.2.2.2.2
        refine wp_region_mix [(0, false), (1, false), (2, false), (4, false), (3, true), (5, true), (6, false), (7, false), (8, false), (9, false), (10, false), (12, false), (11, true), (13, false), (14, false), (15, false), (16, false), (17, false), (19, false), (20, false), (18, true), (21, true), (22, false), (23, false), (24, false), (25, false), (26, false), (27, true), (28, true), (29, true)] (fun u => Below w5.heap.size w5 u) (by kernel_rfl) (by kernel_rfl) (by kernel_rfl) rfl (Below.refl _ _).drew ?_
        have hS0 : Below w5.heap.size w5 w5.drew := (Below.refl _ _).drew
        repeat
          (refine mix_read (o := ⟨_, _, _, _, _, _⟩) (v := ?_) rfl (by rfl) (fun w' hS => ?_) ?_
           rotate_left
           go_simp
           with_reducible rfl
           try simp only [Act.put, List.setIfInBounds_toArray, List.set_cons_zero, List.set_cons_succ])
        refine mix_step (o := ⟨_, _, _, _, _, _⟩) rfl (fun K hK => ?_)
        go_simp
        refine (may_any _ a _ (SA.out.below hS0)).mono ?_
        rintro e u1 ⟨rfl, hb1⟩
        have hS1 : Below w5.heap.size w5 u1 := hS0.trans (hb1.mono hS0.size)
        refine hK.out _ _ hS1 ?_
        clear hK K
        try simp only [Act.put, List.setIfInBounds_toArray, List.set_cons_zero, List.set_cons_succ]
        repeat
          (refine mix_read (o := ⟨_, _, _, _, _, _⟩) (v := ?_) rfl (by rfl) (fun w' hS => ?_) ?_
           rotate_left
           go_simp
           with_reducible rfl
           try simp only [Act.put, List.setIfInBounds_toArray, List.set_cons_zero, List.set_cons_succ])
        refine mix_step (o := ⟨_, _, _, _, _, _⟩) rfl (fun K hK => ?_)
        go_simp
        refine (May_any _ a _ (SA.out.below hS1)).mono ?_
        rintro e u2 ⟨rfl, hb2⟩
        have hS2 : Below w5.heap.size w5 u2 := hS1.trans (hb2.mono hS1.size)
        refine hK.out _ _ hS2 ?_
        clear hK K
        try simp only [Act.put, List.setIfInBounds_toArray, List.set_cons_zero, List.set_cons_succ]
        repeat
          (refine mix_read (o := ⟨_, _, _, _, _, _⟩) (v := ?_) rfl (by rfl) (fun w' hS => ?_) ?_
           rotate_left
           go_simp
           with_reducible rfl
           try simp only [Act.put, List.setIfInBounds_toArray, List.set_cons_zero, List.set_cons_succ])
        refine mix_step (o := ⟨_, _, _, _, _, _⟩) rfl (fun K hK => ?_)
        go_simp
        refine (compare_any _ _ a b _ (SA.out.below hS2) (SB.out.below hS2)).mono ?_
        rintro e u3 ⟨rfl, hb3⟩
        have hS3 : Below w5.heap.size w5 u3 := hS2.trans (hb3.mono hS2.size)
        rw [HC.out]
        refine hK.out _ _ hS3 ?_
        clear hK K
        try simp only [Act.put, List.setIfInBounds_toArray, List.set_cons_zero, List.set_cons_succ]
        repeat
          (refine mix_read (o := ⟨_, _, _, _, _, _⟩) (v := ?_) rfl (by rfl) (fun w' hS => ?_) ?_
           rotate_left
           go_simp
           with_reducible rfl
           try simp only [Act.put, List.setIfInBounds_toArray, List.set_cons_zero, List.set_cons_succ])
        refine mix_step (o := ⟨_, _, _, _, _, _⟩) rfl (fun K hK => ?_)
        go_simp
        refine (same_any _ _ a b _ (SA.out.below hS3) (SB.out.below hS3)).mono ?_
        rintro e u4 ⟨rfl, hb4⟩
        have hS4 : Below w5.heap.size w5 u4 := hS3.trans (hb4.mono hS3.size)
        refine hK.out _ _ hS4 ?_
        clear hK K
        try simp only [Act.put, List.setIfInBounds_toArray, List.set_cons_zero, List.set_cons_succ]
        repeat
          (refine mix_read (o := ⟨_, _, _, _, _, _⟩) (v := ?_) rfl (by rfl) (fun w' hS => ?_) ?_
           rotate_left
           go_simp
           with_reducible rfl
           try simp only [Act.put, List.setIfInBounds_toArray, List.set_cons_zero, List.set_cons_succ])
        refine mix_step (o := ⟨_, _, _, _, _, _⟩) rfl (fun K hK => ?_)
        go_simp
        refine (Same_any _ _ a b _ (SA.out.below hS4) (SB.out.below hS4)).mono ?_
        rintro e u5 ⟨rfl, hb5⟩
        have hS5 : Below w5.heap.size w5 u5 := hS4.trans (hb5.mono hS4.size)
        refine hK.out _ _ hS5 ?_
        clear hK K
        try simp only [Act.put, List.setIfInBounds_toArray, List.set_cons_zero, List.set_cons_succ]
        repeat
          (refine mix_read (o := ⟨_, _, _, _, _, _⟩) (v := ?_) rfl (by rfl) (fun w' hS => ?_) ?_
           rotate_left
           go_simp
           with_reducible rfl
           try simp only [Act.put, List.setIfInBounds_toArray, List.set_cons_zero, List.set_cons_succ])
        refine mix_step (o := ⟨_, _, _, _, _, _⟩) rfl (fun K hK => ?_)
        go_simp
        refine (same_any _ _ a a _ (SA.out.below hS5) (SA.out.below hS5)).mono ?_
        rintro e u6 ⟨rfl, hb6⟩
        have hS6 : Below w5.heap.size w5 u6 := hS5.trans (hb6.mono hS5.size)
        rw [sameB_self]
        refine hK.out _ _ hS6 ?_
        clear hK K
        try simp only [Act.put, List.setIfInBounds_toArray, List.set_cons_zero, List.set_cons_succ]
        repeat
          (refine mix_step (o := ⟨_, _, _, _, _, _⟩) rfl (fun K hK => ?_)
           go_simp
           refine hK.out _ _ hS6 ?_
           clear hK K)
        refine mix_done ?_
        go_wp2_with fail
        go_ret
        exact ⟨rfl, hW.trans (hS6.mono hW.size)⟩
      · have HC := Lib.hid hc
        have e1 : aheadB a b = false := by rw [aheadB_cmp, hc]; decide
        have e2 : aheadB b a = false := by rw [aheadB_cmp, cmpS_neg a b, hc]; decide
        have HE1 := Lib.hid e1
        have HE2 := Lib.hid e2
        clear hc e1 e2
        go_wp2_with fail
        refine (Ahead_any _ _ a b _ (SA.out.below hW) (SB.out.below hW)).mono ?_
        rintro e w3 ⟨rfl, hb3⟩
        rw [HE1.out]
        replace hA := hA.below hb3 hA.lt
        replace hB := hB.below hb3 hB.lt
        replace hW := hW.trans (hb3.mono hW.size)
        obtain ⟨a0, a1, a2, a3, a4⟩ := hA.five
        obtain ⟨b0, b1, b2, b3, b4⟩ := hB.five
        clear hb3
        go_wp2_with fail
        refine (Ahead_any _ _ b a _ (SB.out.below hW) (SA.out.below hW)).mono ?_
        rintro e w5 ⟨rfl, hb5⟩
        rw [HE2.out]
        replace hA := hA.below hb5 hA.lt
        replace hB := hB.below hb5 hB.lt
        replace hW := hW.trans (hb5.mono hW.size)
        clear hb5 a0 a1 a2 a3 a4 b0 b1 b2 b3 b4
        go_wp2_with fail
        have SA := Lib.hid (SA.out.below hW)
        have SB := Lib.hid (SB.out.below hW)
        have a0 : ∀ u, Below w5.heap.size w5 u → u.cell? ⟨w.heap.size, 0, none⟩ = some (.int .u64 a.tr) := fun u h => (hA.below h hA.lt).five.1
        have a1 : ∀ u, Below w5.heap.size w5 u → u.cell? ⟨w.heap.size, 1, none⟩ = some (.int .u64 a.id) := fun u h => (hA.below h hA.lt).five.2.1
        have a2 : ∀ u, Below w5.heap.size w5 u → u.cell? ⟨w.heap.size, 2, none⟩ = some (.int .i64 a.st) := fun u h => (hA.below h hA.lt).five.2.2.1
        have a3 : ∀ u, Below w5.heap.size w5 u → u.cell? ⟨w.heap.size, 3, none⟩ = some (.int .i64 a.en) := fun u h => (hA.below h hA.lt).five.2.2.2.1
        have a4 : ∀ u, Below w5.heap.size w5 u → u.cell? ⟨w.heap.size, 4, none⟩ = some (.slice Aa a.data.length ca) := fun u h => (hA.below h hA.lt).five.2.2.2.2
        have b0 : ∀ u, Below w5.heap.size w5 u → u.cell? ⟨w.heap.size + 1, 0, none⟩ = some (.int .u64 b.tr) := fun u h => (hB.below h hB.lt).five.1
        have b1 : ∀ u, Below w5.heap.size w5 u → u.cell? ⟨w.heap.size + 1, 1, none⟩ = some (.int .u64 b.id) := fun u h => (hB.below h hB.lt).five.2.1
        have b2 : ∀ u, Below w5.heap.size w5 u → u.cell? ⟨w.heap.size + 1, 2, none⟩ = some (.int .i64 b.st) := fun u h => (hB.below h hB.lt).five.2.2.1
        have b3 : ∀ u, Below w5.heap.size w5 u → u.cell? ⟨w.heap.size + 1, 3, none⟩ = some (.int .i64 b.en) := fun u h => (hB.below h hB.lt).five.2.2.2.1
        have b4 : ∀ u, Below w5.heap.size w5 u → u.cell? ⟨w.heap.size + 1, 4, none⟩ = some (.slice Ab b.data.length cb) := fun u h => (hB.below h hB.lt).five.2.2.2.2
        refine wp_region_mix [(0, false), (1, false), (2, false), (4, false), (3, true), (5, true), (6, false), (7, false), (8, false), (9, false), (10, false), (12, false), (11, true), (13, false), (14, false), (15, false), (16, false), (17, false), (19, false), (20, false), (18, true), (21, true), (22, false), (23, false), (24, false), (25, false), (26, false), (27, true), (28, true), (29, true)] (fun u => Below w5.heap.size w5 u) (by kernel_rfl) (by kernel_rfl) (by kernel_rfl) rfl (Below.refl _ _).drew ?_
        have hS0 : Below w5.heap.size w5 w5.drew := (Below.refl _ _).drew
        repeat
          (refine mix_read (o := ⟨_, _, _, _, _, _⟩) (v := ?_) rfl (by rfl) (fun w' hS => ?_) ?_
           rotate_left
           go_simp
           with_reducible rfl
           try simp only [Act.put, List.setIfInBounds_toArray, List.set_cons_zero, List.set_cons_succ])
        refine mix_step (o := ⟨_, _, _, _, _, _⟩) rfl (fun K hK => ?_)
        go_simp
        refine (may_any _ a _ (SA.out.below hS0)).mono ?_
        rintro e u1 ⟨rfl, hb1⟩
        have hS1 : Below w5.heap.size w5 u1 := hS0.trans (hb1.mono hS0.size)
        refine hK.out _ _ hS1 ?_
        clear hK K
        try simp only [Act.put, List.setIfInBounds_toArray, List.set_cons_zero, List.set_cons_succ]
        repeat
          (refine mix_read (o := ⟨_, _, _, _, _, _⟩) (v := ?_) rfl (by rfl) (fun w' hS => ?_) ?_
           rotate_left
           go_simp
           with_reducible rfl
           try simp only [Act.put, List.setIfInBounds_toArray, List.set_cons_zero, List.set_cons_succ])
        refine mix_step (o := ⟨_, _, _, _, _, _⟩) rfl (fun K hK => ?_)
        go_simp
        refine (May_any _ a _ (SA.out.below hS1)).mono ?_
        rintro e u2 ⟨rfl, hb2⟩
        have hS2 : Below w5.heap.size w5 u2 := hS1.trans (hb2.mono hS1.size)
        refine hK.out _ _ hS2 ?_
        clear hK K
        try simp only [Act.put, List.setIfInBounds_toArray, List.set_cons_zero, List.set_cons_succ]
        repeat
          (refine mix_read (o := ⟨_, _, _, _, _, _⟩) (v := ?_) rfl (by rfl) (fun w' hS => ?_) ?_
           rotate_left
           go_simp
           with_reducible rfl
           try simp only [Act.put, List.setIfInBounds_toArray, List.set_cons_zero, List.set_cons_succ])
        refine mix_step (o := ⟨_, _, _, _, _, _⟩) rfl (fun K hK => ?_)
        go_simp
        refine (compare_any _ _ a b _ (SA.out.below hS2) (SB.out.below hS2)).mono ?_
        rintro e u3 ⟨rfl, hb3⟩
        have hS3 : Below w5.heap.size w5 u3 := hS2.trans (hb3.mono hS2.size)
        rw [HC.out]
        refine hK.out _ _ hS3 ?_
        clear hK K
        try simp only [Act.put, List.setIfInBounds_toArray, List.set_cons_zero, List.set_cons_succ]
        repeat
          (refine mix_read (o := ⟨_, _, _, _, _, _⟩) (v := ?_) rfl (by rfl) (fun w' hS => ?_) ?_
           rotate_left
           go_simp
           with_reducible rfl
           try simp only [Act.put, List.setIfInBounds_toArray, List.set_cons_zero, List.set_cons_succ])
        refine mix_step (o := ⟨_, _, _, _, _, _⟩) rfl (fun K hK => ?_)
        go_simp
        refine (same_any _ _ a b _ (SA.out.below hS3) (SB.out.below hS3)).mono ?_
        rintro e u4 ⟨rfl, hb4⟩
        have hS4 : Below w5.heap.size w5 u4 := hS3.trans (hb4.mono hS3.size)
        refine hK.out _ _ hS4 ?_
        clear hK K
        try simp only [Act.put, List.setIfInBounds_toArray, List.set_cons_zero, List.set_cons_succ]
        repeat
          (refine mix_read (o := ⟨_, _, _, _, _, _⟩) (v := ?_) rfl (by rfl) (fun w' hS => ?_) ?_
           rotate_left
           go_simp
           with_reducible rfl
           try simp only [Act.put, List.setIfInBounds_toArray, List.set_cons_zero, List.set_cons_succ])
        refine mix_step (o := ⟨_, _, _, _, _, _⟩) rfl (fun K hK => ?_)
        go_simp
        refine (Same_any _ _ a b _ (SA.out.below hS4) (SB.out.below hS4)).mono ?_
        rintro e u5 ⟨rfl, hb5⟩
        have hS5 : Below w5.heap.size w5 u5 := hS4.trans (hb5.mono hS4.size)
        refine hK.out _ _ hS5 ?_
        clear hK K
        try simp only [Act.put, List.setIfInBounds_toArray, List.set_cons_zero, List.set_cons_succ]
        repeat
          (refine mix_read (o := ⟨_, _, _, _, _, _⟩) (v := ?_) rfl (by rfl) (fun w' hS => ?_) ?_
           rotate_left
           go_simp
           with_reducible rfl
           try simp only [Act.put, List.setIfInBounds_toArray, List.set_cons_zero, List.set_cons_succ])
        refine mix_step (o := ⟨_, _, _, _, _, _⟩) rfl (fun K hK => ?_)
        go_simp
        refine (same_any _ _ a a _ (SA.out.below hS5) (SA.out.below hS5)).mono ?_
        rintro e u6 ⟨rfl, hb6⟩
        have hS6 : Below w5.heap.size w5 u6 := hS5.trans (hb6.mono hS5.size)
        rw [sameB_self]
        refine hK.out _ _ hS6 ?_
        clear hK K
        try simp only [Act.put, List.setIfInBounds_toArray, List.set_cons_zero, List.set_cons_succ]
        repeat
          (refine mix_step (o := ⟨_, _, _, _, _, _⟩) rfl (fun K hK => ?_)
           go_simp
           refine hK.out _ _ hS6 ?_
           clear hK K)
        refine mix_done ?_
        go_wp2_with fail
        go_ret
        exact ⟨rfl, hW.trans (hS6.mono hW.size)⟩
      · have HC := Lib.hid hc
        have e1 : aheadB a b = false := by rw [aheadB_cmp, hc]; decide
        have e2 : aheadB b a = true := by rw [aheadB_cmp, cmpS_neg a b, hc]; decide
        have HE1 := Lib.hid e1
        have HE2 := Lib.hid e2
        clear hc e1 e2
        go_wp2_with fail
        refine (Ahead_any _ _ a b _ (SA.out.below hW) (SB.out.below hW)).mono ?_
        rintro e w3 ⟨rfl, hb3⟩
        rw [HE1.out]
        replace hA := hA.below hb3 hA.lt
        replace hB := hB.below hb3 hB.lt
        replace hW := hW.trans (hb3.mono hW.size)
        obtain ⟨a0, a1, a2, a3, a4⟩ := hA.five
        obtain ⟨b0, b1, b2, b3, b4⟩ := hB.five
        clear hb3
        go_wp2_with fail
        refine (Ahead_any _ _ b a _ (SB.out.below hW) (SA.out.below hW)).mono ?_
        rintro e w5 ⟨rfl, hb5⟩
        rw [HE2.out]
        replace hA := hA.below hb5 hA.lt
        replace hB := hB.below hb5 hB.lt
        replace hW := hW.trans (hb5.mono hW.size)
        clear hb5 a0 a1 a2 a3 a4 b0 b1 b2 b3 b4
        go_wp2_with fail
        have SA := Lib.hid (SA.out.below hW)
        have SB := Lib.hid (SB.out.below hW)
        have a0 : ∀ u, Below w5.heap.size w5 u → u.cell? ⟨w.heap.size, 0, none⟩ = some (.int .u64 a.tr) := fun u h => (hA.below h hA.lt).five.1
        have a1 : ∀ u, Below w5.heap.size w5 u → u.cell? ⟨w.heap.size, 1, none⟩ = some (.int .u64 a.id) := fun u h => (hA.below h hA.lt).five.2.1
        have a2 : ∀ u, Below w5.heap.size w5 u → u.cell? ⟨w.heap.size, 2, none⟩ = some (.int .i64 a.st) := fun u h => (hA.below h hA.lt).five.2.2.1
        have a3 : ∀ u, Below w5.heap.size w5 u → u.cell? ⟨w.heap.size, 3, none⟩ = some (.int .i64 a.en) := fun u h => (hA.below h hA.lt).five.2.2.2.1
        have a4 : ∀ u, Below w5.heap.size w5 u → u.cell? ⟨w.heap.size, 4, none⟩ = some (.slice Aa a.data.length ca) := fun u h => (hA.below h hA.lt).five.2.2.2.2
        have b0 : ∀ u, Below w5.heap.size w5 u → u.cell? ⟨w.heap.size + 1, 0, none⟩ = some (.int .u64 b.tr) := fun u h => (hB.below h hB.lt).five.1
        have b1 : ∀ u, Below w5.heap.size w5 u → u.cell? ⟨w.heap.size + 1, 1, none⟩ = some (.int .u64 b.id) := fun u h => (hB.below h hB.lt).five.2.1
        have b2 : ∀ u, Below w5.heap.size w5 u → u.cell? ⟨w.heap.size + 1, 2, none⟩ = some (.int .i64 b.st) := fun u h => (hB.below h hB.lt).five.2.2.1
        have b3 : ∀ u, Below w5.heap.size w5 u → u.cell? ⟨w.heap.size + 1, 3, none⟩ = some (.int .i64 b.en) := fun u h => (hB.below h hB.lt).five.2.2.2.1
        have b4 : ∀ u, Below w5.heap.size w5 u → u.cell? ⟨w.heap.size + 1, 4, none⟩ = some (.slice Ab b.data.length cb) := fun u h => (hB.below h hB.lt).five.2.2.2.2
        refine wp_region_mix [(0, false), (1, false), (2, false), (4, false), (3, true), (5, true), (6, false), (7, false), (8, false), (9, false), (10, false), (12, false), (11, true), (13, false), (14, false), (15, false), (16, false), (17, false), (19, false), (20, false), (18, true), (21, true), (22, false), (23, false), (24, false), (25, false), (26, false), (27, true), (28, true), (29, true)] (fun u => Below w5.heap.size w5 u) (by kernel_rfl) (by kernel_rfl) (by kernel_rfl) rfl (Below.refl _ _).drew ?_
        have hS0 : Below w5.heap.size w5 w5.drew := (Below.refl _ _).drew
        repeat
          (refine mix_read (o := ⟨_, _, _, _, _, _⟩) (v := ?_) rfl (by rfl) (fun w' hS => ?_) ?_
           rotate_left
           go_simp
           with_reducible rfl
           try simp only [Act.put, List.setIfInBounds_toArray, List.set_cons_zero, List.set_cons_succ])
        refine mix_step (o := ⟨_, _, _, _, _, _⟩) rfl (fun K hK => ?_)
        go_simp
        refine (may_any _ a _ (SA.out.below hS0)).mono ?_
        rintro e u1 ⟨rfl, hb1⟩
        have hS1 : Below w5.heap.size w5 u1 := hS0.trans (hb1.mono hS0.size)
        refine hK.out _ _ hS1 ?_
        clear hK K
        try simp only [Act.put, List.setIfInBounds_toArray, List.set_cons_zero, List.set_cons_succ]
        repeat
          (refine mix_read (o := ⟨_, _, _, _, _, _⟩) (v := ?_) rfl (by rfl) (fun w' hS => ?_) ?_
           rotate_left
           go_simp
           with_reducible rfl
           try simp only [Act.put, List.setIfInBounds_toArray, List.set_cons_zero, List.set_cons_succ])
        refine mix_step (o := ⟨_, _, _, _, _, _⟩) rfl (fun K hK => ?_)
        go_simp
        refine (May_any _ a _ (SA.out.below hS1)).mono ?_
        rintro e u2 ⟨rfl, hb2⟩
        have hS2 : Below w5.heap.size w5 u2 := hS1.trans (hb2.mono hS1.size)
        refine hK.out _ _ hS2 ?_
        clear hK K
        try simp only [Act.put, List.setIfInBounds_toArray, List.set_cons_zero, List.set_cons_succ]
        repeat
          (refine mix_read (o := ⟨_, _, _, _, _, _⟩) (v := ?_) rfl (by rfl) (fun w' hS => ?_) ?_
           rotate_left
           go_simp
           with_reducible rfl
           try simp only [Act.put, List.setIfInBounds_toArray, List.set_cons_zero, List.set_cons_succ])
        refine mix_step (o := ⟨_, _, _, _, _, _⟩) rfl (fun K hK => ?_)
        go_simp
        refine (compare_any _ _ a b _ (SA.out.below hS2) (SB.out.below hS2)).mono ?_
        rintro e u3 ⟨rfl, hb3⟩
        have hS3 : Below w5.heap.size w5 u3 := hS2.trans (hb3.mono hS2.size)
        rw [HC.out]
        refine hK.out _ _ hS3 ?_
        clear hK K
        try simp only [Act.put, List.setIfInBounds_toArray, List.set_cons_zero, List.set_cons_succ]
        repeat
          (refine mix_read (o := ⟨_, _, _, _, _, _⟩) (v := ?_) rfl (by rfl) (fun w' hS => ?_) ?_
           rotate_left
           go_simp
           with_reducible rfl
           try simp only [Act.put, List.setIfInBounds_toArray, List.set_cons_zero, List.set_cons_succ])
        refine mix_step (o := ⟨_, _, _, _, _, _⟩) rfl (fun K hK => ?_)
        go_simp
        refine (same_any _ _ a b _ (SA.out.below hS3) (SB.out.below hS3)).mono ?_
        rintro e u4 ⟨rfl, hb4⟩
        have hS4 : Below w5.heap.size w5 u4 := hS3.trans (hb4.mono hS3.size)
        refine hK.out _ _ hS4 ?_
        clear hK K
        try simp only [Act.put, List.setIfInBounds_toArray, List.set_cons_zero, List.set_cons_succ]
        repeat
          (refine mix_read (o := ⟨_, _, _, _, _, _⟩) (v := ?_) rfl (by rfl) (fun w' hS => ?_) ?_
           rotate_left
           go_simp
           with_reducible rfl
           try simp only [Act.put, List.setIfInBounds_toArray, List.set_cons_zero, List.set_cons_succ])
        refine mix_step (o := ⟨_, _, _, _, _, _⟩) rfl (fun K hK => ?_)
        go_simp
        refine (Same_any _ _ a b _ (SA.out.below hS4) (SB.out.below hS4)).mono ?_
        rintro e u5 ⟨rfl, hb5⟩
        have hS5 : Below w5.heap.size w5 u5 := hS4.trans (hb5.mono hS4.size)
        refine hK.out _ _ hS5 ?_
        clear hK K
        try simp only [Act.put, List.setIfInBounds_toArray, List.set_cons_zero, List.set_cons_succ]
        repeat
          (refine mix_read (o := ⟨_, _, _, _, _, _⟩) (v := ?_) rfl (by rfl) (fun w' hS => ?_) ?_
           rotate_left
           go_simp
           with_reducible rfl
           try simp only [Act.put, List.setIfInBounds_toArray, List.set_cons_zero, List.set_cons_succ])
        refine mix_step (o := ⟨_, _, _, _, _, _⟩) rfl (fun K hK => ?_)
        go_simp
        refine (same_any _ _ a a _ (SA.out.below hS5) (SA.out.below hS5)).mono ?_
        rintro e u6 ⟨rfl, hb6⟩
        have hS6 : Below w5.heap.size w5 u6 := hS5.trans (hb6.mono hS5.size)
        rw [sameB_self]
        refine hK.out _ _ hS6 ?_
        clear hK K
        try simp only [Act.put, List.setIfInBounds_toArray, List.set_cons_zero, List.set_cons_succ]
        repeat
          (refine mix_step (o := ⟨_, _, _, _, _, _⟩) rfl (fun K hK => ?_)
           go_simp
           refine hK.out _ _ hS6 ?_
           clear hK K)
        refine mix_done ?_
        go_wp2_with fail
        go_ret
        exact ⟨rfl, hW.trans (hS6.mono hW.size)⟩
    · go_wp2_with fail
      go_ret
      exact ⟨rfl, hW⟩
  · go_wp2_with fail
    go_ret
    exact ⟨rfl, hW⟩

end Go.Proofs.YtncbbhbeaangjaaDoor

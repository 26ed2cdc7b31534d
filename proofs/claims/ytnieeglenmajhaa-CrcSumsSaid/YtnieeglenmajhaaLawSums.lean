/-
  THE WALK OF tankardlaw02.CrcSums: for all bytes it returns true, and nothing that was there has turned.
-/
import Derived.Test.YtnieeglenmajhaaCrcE
namespace Go.Proofs.Ytnieeglenmajhaa
open Go.RowKit

set_option maxRecDepth 100000 in
set_option maxHeartbeats 1600000 in
theorem sums_any (l : List UInt8) (b : Value) (w : World) (hb : Bs w b l) (hl : l.length ≤ 9223372036854775807) :
    Calls Try.prog 3 #[b] w fun e w' => e = .returned (.bool true) ∧ Below w.heap.size w w' := by
  have hb' := hb
  obtain ⟨A, c, rfl, hc1, hc2, hr⟩ := hb'
  by_cases hlong : 3000 < l.length
  · go_enter Try.func3, Try.ntmps3
    go_wp2_with (go_at_call 7; refine (up2_any _).mono ?_; rintro e w1 ⟨rfl, hb1⟩)
    go_ret
    exact ⟨rfl, hb1⟩
  · go_enter Try.func3, Try.ntmps3
    go_wp2_with fail
    refine (up2_any _).mono ?_
    rintro e w1 ⟨rfl, hb1⟩
    have hv1 := hb.below hb1
    go_wp2_with fail
    refine wp_region_mix [(0, false), (1, false), (2, false), (4, false), (3, true), (5, true), (6, true), (7, true), (8, true), (9, false), (12, false), (10, true), (11, false), (13, true), (14, true), (15, true), (16, true), (17, true)] (fun w' => Below w1.heap.size w1 w') (by kernel_rfl) (by kernel_rfl) (by kernel_rfl) rfl (Below.refl _ _).drew ?_
    repeat
      (refine mix_read (o := ⟨_, _, _, _, _, _⟩) (v := ?_) rfl (by rfl) (fun w' hS => ?_) ?_
       rotate_left
       go_simp
       with_reducible rfl
       try simp only [Act.put, List.setIfInBounds_toArray, List.set_cons_zero, List.set_cons_succ])
    have HB : Below w1.heap.size w1 w1.drew := (Below.refl _ w1).drew
    refine mix_step (o := ⟨_, _, _, _, _, _⟩) rfl (fun K hK => ?_)
    go_simp
    refine (sum_any l _ _ hv1.drew).mono ?_
    rintro e w2 ⟨rfl, rfl⟩
    refine hK.out _ _ HB ?_
    clear hK K
    try simp only [Act.put, List.setIfInBounds_toArray, List.set_cons_zero, List.set_cons_succ]
    refine mix_step (o := ⟨_, _, _, _, _, _⟩) rfl (fun K hK => ?_)
    go_simp
    refine (Sum_any l _ _ hv1.drew).mono ?_
    rintro e w2 ⟨rfl, rfl⟩
    refine hK.out _ _ HB ?_
    clear hK K
    try simp only [Act.put, List.setIfInBounds_toArray, List.set_cons_zero, List.set_cons_succ]
    iterate 3
      (refine mix_step (o := ⟨_, _, _, _, _, _⟩) rfl (fun K hK => ?_)
       go_simp
       refine hK.out _ _ HB ?_
       clear hK K)
    repeat
      (refine mix_read (o := ⟨_, _, _, _, _, _⟩) (v := ?_) rfl (by rfl) (fun w' hS => ?_) ?_
       rotate_left
       go_simp
       with_reducible rfl
       try simp only [Act.put, List.setIfInBounds_toArray, List.set_cons_zero, List.set_cons_succ])
    refine mix_more (o := ⟨_, _, _, _, _, _⟩) rfl (fun K hK => ?_)
    go_simp
    refine (seal_any l _ _ (by omega) hv1.drew).mono ?_
    rintro e w2 ⟨v2, rfl, hown2, hb2⟩
    have hb2' : Below w1.heap.size w1 w2 := HB.trans hb2
    refine hK.out (fun u => Below w2.heap.size w2 u) _ _ (fun u hu => hb2'.trans (hu.mono hb2'.size)) (Below.refl _ _) ?_
    clear hK K
    try simp only [Act.put, List.setIfInBounds_toArray, List.set_cons_zero, List.set_cons_succ]
    have hst2 : ∀ w', Below w2.heap.size w2 w' → (convert 22 9 v2).run Try.prog w' = .ok (.string (Bstr (sealedOf l))) w' := fun w' h => strOf (hown2.bs.below h)
    repeat
      (refine mix_read (o := ⟨_, _, _, _, _, _⟩) (v := ?_) rfl (by rfl) (fun w' hS => ?_) ?_
       rotate_left
       go_simp
       with_reducible rfl
       try simp only [Act.put, List.setIfInBounds_toArray, List.set_cons_zero, List.set_cons_succ])
    refine mix_step (o := ⟨_, _, _, _, _, _⟩) rfl (fun K hK => ?_)
    go_simp
    refine (Seal_any l _ _ (by omega) (hv1.below hb2')).mono ?_
    rintro e w3 ⟨v3, rfl, hown3, hb3⟩
    have HB3 : Below w2.heap.size w2 w3 := hb3
    have hst3 := strOf hown3.bs
    refine hK.out _ _ HB3 ?_
    clear hK K
    try simp only [Act.put, List.setIfInBounds_toArray, List.set_cons_zero, List.set_cons_succ]
    repeat
      (refine mix_step (o := ⟨_, _, _, _, _, _⟩) rfl (fun K hK => ?_)
       go_simp
       refine hK.out _ _ HB3 ?_
       clear hK K)
    refine mix_done ?_
    go_wp2
    go_ret
    exact ⟨rfl, (hb1.trans (hb2'.mono hb1.size)).trans (hb3.mono (hb1.trans (hb2'.mono hb1.size)).size)⟩

end Go.Proofs.Ytnieeglenmajhaa

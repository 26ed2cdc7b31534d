/-
  tankardlaw02.CrcOpens returns true for every input, and its argument reads afterwards as it read before. No condition.
-/
import Derived.Test.YtnieeglenmajhaaCrcE
import Derived.Test.YtnieeglenmajhaaRow
namespace Go.Proofs.Ytnieeglenmajhaa
open Go.ChangeShapes Go.WideShapes Go.ChangeAt Go.RowKit

set_option maxRecDepth 100000 in
set_option maxHeartbeats 1600000 in
theorem opens_any (l : List UInt8) (b : Value) (w : World) (hb : Bs w b l) (hl : l.length ≤ 9223372036854775807) :
    Calls Try.prog 4 #[b] w fun e w' => e = .returned (.bool true) ∧ Below w.heap.size w w' := by
  have hb' := hb
  obtain ⟨A, c, rfl, hc1, hc2, hr⟩ := hb'
  by_cases hlong : 3000 < l.length
  · go_enter Try.func4, Try.ntmps4
    go_wp2_with (go_at_call 7; refine (up2_any _).mono ?_; rintro e w1 ⟨rfl, hb1⟩)
    go_ret
    exact ⟨rfl, hb1⟩
  by_cases hs : l.length < 4
  · go_enter Try.func4, Try.ntmps4
    go_wp2_with fail
    refine (up2_any _).mono ?_
    rintro e w1 ⟨rfl, hb1⟩
    go_wp2_with fail
    refine (open_short l _ _ hs (hb.below hb1)).mono ?_
    rintro e w2 ⟨rfl, rfl⟩
    go_wp2_with fail
    refine (Open_short l _ _ hs (hb.below hb1)).mono ?_
    rintro e w2 ⟨rfl, rfl⟩
    have hst := strOf (Bs.nil w1)
    go_wp2_with (go_at_call 14; refine (Code_any 2 _ (by omega) (by omega)).mono ?_; rintro e w2 ⟨rfl, rfl⟩)
    go_ret
    exact ⟨rfl, hb1⟩
  · go_enter Try.func4, Try.ntmps4
    go_wp2_with fail
    refine (up2_any _).mono ?_
    rintro e w1 ⟨rfl, hb1⟩
    go_wp2_with fail
    refine (open_long l _ _ (by omega) (by omega) (hb.below hb1)).mono ?_
    rintro e w2 ⟨x, f, rfl, hO, hb2⟩
    have hb12 : Below w.heap.size w w2 := hb1.trans (hb2.mono hb1.size)
    go_wp2_with fail
    refine (Open_long l _ _ (by omega) (by omega) (hb.below hb12)).mono ?_
    rintro e w3 ⟨y, g, rfl, hP, hb3⟩
    have hb13 : Below w.heap.size w w3 := hb12.trans (hb3.mono hb12.size)
    by_cases heq : tailOf l = crcOf (bodyOf l)
    · obtain ⟨rfl, hown⟩ := hO.yes heq
      obtain ⟨rfl, hy⟩ := hP.yes heq
      have hst1 := strOf (hown.bs.below hb3)
      have hst2 := strOf hy
      clear hO hP heq
      go_wp2_with (go_at_call 14; refine (Code_nil _).mono ?_; rintro e w4 ⟨rfl, rfl⟩)
      go_ret
      exact ⟨rfl, hb13⟩
    · obtain ⟨rfl, rfl⟩ := hO.no heq
      obtain ⟨rfl, rfl⟩ := hP.no heq
      have hst := strOf (Bs.nil w3)
      clear hO hP heq
      go_wp2_with (go_at_call 14; refine (Code_any 7 _ (by omega) (by omega)).mono ?_; rintro e w4 ⟨rfl, rfl⟩)
      go_ret
      exact ⟨rfl, hb13⟩

set_option maxRecDepth 100000 in
theorem crcOpens_lifted (os : Os) (started : os.Started) (H : Type) (enc : TypeId × Value → H) :
    ReturnsInHanded {} Try.checked os 4 .any (Rows.crcOpensSpec.pre6 enc Try.prog Try.f4 Rows.crcOpensRow.domain false) (Rows.crcOpensSpec.post enc Try.prog Try.f4 false true false false) := by
  refine returnsInHanded_of_change (C := Try.checked) ownK started (by kernel_rfl) Try.func4
    (ChangeSpec.witness6 (enc := enc) (C := Try.checked) false ⟨#[], #[.slice none 0 0], []⟩ 8 (by kernel_rfl) (by kernel_rfl) (by kernel_rfl) (by kernel_rfl)) ?_
  intro W base args ds gs before hval0 hW _ _
  have hval : ∀ (j : Nat) t v, Try.f4.params[j]? = some t → args[j]? = some v → Value.okWide Try.prog W .any base t v := hval0
  have hW' := hW
  obtain ⟨p, q, hA0, hV, rfl, hfz, hnd⟩ := hW
  have hA : DataW.TrodAll enc Try.prog W 0 (fun _ => true) true Try.f4.params.toList args.toList ds p := hA0
  rw [Try.params4] at hA hval
  obtain ⟨v0, d0, rfl, rfl, h0⟩ := trodAll_one hA
  obtain ⟨rfl, rfl⟩ := trodVars_none hV
  obtain ⟨l0, hl0, hm0⟩ := bs_of_trod byteT cellsB (hval 0 _ v0 rfl rfl) h0
  refine (opens_any l0 v0 W hl0 hm0).mono fun e W' ⟨he, hb⟩ => ?_
  subst he
  exact ⟨_, rfl, law_post (P := Try.prog) (f := Try.f4) (s := Rows.crcOpensSpec) Try.underlying4 (by kernel_rfl) laidO (by decide +kernel) rfl hW' rfl rfl rfl hb⟩

theorem crcOpens_holds : Rows.CrcOpensSaid :=
  OpenClaim.holds_of_wide 4 Try.f4 rfl rfl rfl rfl rfl rfl rfl ⟨rfl, rfl, rfl, rfl, rfl⟩ rfl rfl rfl rfl rfl (by kernel_rfl) Try.func4 (by kernel_rfl)
    (of_decide_eq_true (by kernel_rfl)) (by unfold Func.isWrapper; first | (rw [if_pos (by decide +kernel)]; kernel_rfl) | (rw [if_neg (by decide +kernel)]; exact ⟨rfl, rfl⟩))
    (fun os started H enc _ => crcOpens_lifted os started H enc)

end Go.Proofs.Ytnieeglenmajhaa

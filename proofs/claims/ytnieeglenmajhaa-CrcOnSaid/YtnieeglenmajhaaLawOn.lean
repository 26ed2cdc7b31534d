/-
  tankardlaw02.CrcOn returns true for every input, and each argument reads afterwards as it read before. No condition.
-/
import Derived.Test.YtnieeglenmajhaaCrcE
import Derived.Test.YtnieeglenmajhaaRow
namespace Go.Proofs.Ytnieeglenmajhaa
open Go.ChangeShapes Go.WideShapes Go.ChangeAt Go.RowKit

theorem bytesB : Try.prog.bytesOf 5 = 1 := by kernel_rfl

theorem crcOn_nil (l : List UInt8) : crcOn (crcOf l) [] = crcOf l := by rw [crcOn_of, List.append_nil]

set_option maxRecDepth 100000 in
set_option maxHeartbeats 1600000 in
theorem ons_any (l m : List UInt8) (a b : Value) (w : World) (ha : Bs w a l) (hb : Bs w b m) (hl : l.length ≤ 9223372036854775807) (hm : m.length ≤ 9223372036854775807) (hsum : l.length + m.length ≤ 9223372036854775807) :
    Calls Try.prog 5 #[a, b] w fun e w' => e = .returned (.bool true) ∧ Below w.heap.size w w' := by
  have ha' := ha
  have hb' := hb
  obtain ⟨A, c, rfl, hc1, hc2, hr⟩ := ha'
  obtain ⟨A', c', rfl, hc1', hc2', hr'⟩ := hb'
  by_cases hlong : 3000 < l.length + m.length
  · go_enter Try.func5, Try.ntmps5
    go_wp2_with (go_at_call 7; refine (up2_any _).mono ?_; rintro e w1 ⟨rfl, hb1⟩)
    go_ret
    exact ⟨rfl, hb1⟩
  · have HL := Lib.hid (crcOn_of l m)
    have HN := Lib.hid (crcOn_nil l)
    have hcl := crcOf_lt l
    go_enter Try.func5, Try.ntmps5
    go_wp2_with fail
    refine (up2_any _).mono ?_
    rintro e w1 ⟨rfl, hb1⟩
    have hz1 := hb1.size
    go_wp2_with fail
    refine (sum_any l _ _ (ha.below hb1)).mono ?_
    rintro e w2 ⟨rfl, rfl⟩
    go_wp2_with fail
    refine (on_any (crcOf l) m _ _ (by omega) (by omega) (hb.below hb1)).mono ?_
    rintro e w2 ⟨rfl, rfl⟩
    rw [Int.toNat_natCast, HL.out]
    go_wp2_with (at_builtin; refine wpList_append_w _ byteT (by rfl) _ _ rfl w.heap.size (.slice (some ⟨w1.heap.size, 0, none⟩) 0 0) [] rfl (Own.made w1 w.heap.size 5 #[] 0 hz1 (by simp [maxLen]) rfl) _ l rfl ((ha.below hb1).alloc _) (by simp; omega) (by simp; omega) ?_)
    intro v2 w2 hown2 hg2 _
    have hb2 : Below w.heap.size w w2 := (hb1.alloc hz1 _).grown hg2 (by simp; omega) (by intro k hk; simp [Value.ownBlock] at hk; omega)
    have hz2 := hb2.size
    clear hg2
    go_wp2_with (at_builtin; refine wpList_append_w _ byteT (by rfl) _ _ rfl w.heap.size v2 l rfl hown2 _ m rfl (hb.below hb2) (by omega) (by omega) ?_)
    intro v3 w3 hown3 hg3 _
    have hb3 : Below w.heap.size w w3 := hb2.grown hg3 (by omega) hown2.ge
    clear hg3
    go_wp2_with fail
    refine (sum_any (l ++ m) _ _ hown3.bs).mono ?_
    rintro e w4 ⟨rfl, rfl⟩
    go_wp2_with fail
    refine (sum_any l _ _ (ha.below hb3)).mono ?_
    rintro e w4 ⟨rfl, rfl⟩
    go_wp2_with fail
    refine (on_any (crcOf l) [] _ _ (by omega) (by omega) (Bs.nil _)).mono ?_
    rintro e w4 ⟨rfl, rfl⟩
    rw [Int.toNat_natCast, HN.out]
    go_wp2_with fail
    refine (sum_any l _ _ (ha.below hb3)).mono ?_
    rintro e w4 ⟨rfl, rfl⟩
    go_wp2_with fail
    go_ret
    exact ⟨rfl, hb3⟩

set_option maxRecDepth 100000 in
theorem crcOn_lifted (os : Os) (started : os.Started) (H : Type) (enc : TypeId × Value → H) :
    ReturnsInHanded {} Try.checked os 5 .any (Rows.crcOnSpec.pre6 enc Try.prog Try.f5 Rows.crcOnRow.domain false) (Rows.crcOnSpec.post enc Try.prog Try.f5 false true false false) := by
  refine returnsInHanded_of_change_sized (C := Try.checked) ownK started (by kernel_rfl) Try.func5
    (ChangeSpec.witness6 (enc := enc) (C := Try.checked) false ⟨#[], #[.slice none 0 0, .slice none 0 0], []⟩ 8 (by kernel_rfl) (by kernel_rfl) (by kernel_rfl) (by kernel_rfl)) ?_
  intro W base args ds gs before hval0 hW _ hsz _
  have hval : ∀ (j : Nat) t v, Try.f5.params[j]? = some t → args[j]? = some v → Value.okWide Try.prog W .any base t v := hval0
  have hW' := hW
  obtain ⟨p, q, hA0, hV, rfl, hfz, hnd⟩ := hW
  have hA : DataW.TrodAll enc Try.prog W 0 (fun _ => true) true Try.f5.params.toList args.toList ds p := hA0
  rw [Try.params5] at hA hval
  obtain ⟨v0, v1, d0, d1, p0, p1, rfl, rfl, rfl, h0, h1⟩ := trodAll_two hA
  obtain ⟨rfl, rfl⟩ := trodVars_none hV
  obtain ⟨l0, hl0, hm0⟩ := bs_of_sized byteT cellsB bytesB (hval 0 _ v0 rfl rfl) h0 hsz (j := 0) rfl rfl
  obtain ⟨l1, hl1, hm1⟩ := bs_of_sized byteT cellsB bytesB (hval 1 _ v1 rfl rfl) h1 hsz (j := 1) rfl rfl
  refine (ons_any l0 l1 v0 v1 W hl0 hl1 (by omega) (by omega) (by omega)).mono fun e W' ⟨he, hb⟩ => ?_
  subst he
  exact ⟨_, rfl, law_post (P := Try.prog) (f := Try.f5) (s := Rows.crcOnSpec) Try.underlying4 (by kernel_rfl) laidO (by decide +kernel) rfl hW' rfl rfl rfl hb⟩

theorem crcOn_holds : Rows.CrcOnSaid :=
  OpenClaim.holds_of_wide 5 Try.f5 rfl rfl rfl rfl rfl rfl rfl ⟨rfl, rfl, rfl, rfl, rfl⟩ rfl rfl rfl rfl rfl (by kernel_rfl) Try.func5 (by kernel_rfl)
    (of_decide_eq_true (by kernel_rfl)) (by unfold Func.isWrapper; first | (rw [if_pos (by decide +kernel)]; kernel_rfl) | (rw [if_neg (by decide +kernel)]; exact ⟨rfl, rfl⟩))
    (fun os started H enc _ => crcOn_lifted os started H enc)

end Go.Proofs.Ytnieeglenmajhaa

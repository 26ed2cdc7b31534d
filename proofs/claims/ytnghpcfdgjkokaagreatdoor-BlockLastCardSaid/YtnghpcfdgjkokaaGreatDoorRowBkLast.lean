/-
  BlockLast: for every failing call, Id, traces and sizes it returns true, and what is handed in reads as it did (the tied card). Conditions: those of the card: what the library reads of its tables (strconv's powers of ten, math/bits' two tables) starts as the program's text lays it.
-/
import Derived.Test.YtnghpcfdgjkokaaGreatDoorBkQ
import Derived.Test.YtnghpcfdgjkokaaGreatDoorRowBk
import Derived.Test.YtnghpcfdgjkokaaGreatDoorRowTs
import Derived.Test.YtnghpcfdgjkokaaGreatDoorRowMe
namespace Go.Proofs.YtnghpcfdgjkokaaGreatDoor
open Go.ChangeShapes Go.WideShapes Go.ChangeAt Go.RowKit

set_option maxRecDepth 100000 in
theorem blockLast_lifted (os : Os) (started : os.Started) (H : Type) (enc : TypeId × Value → H) :
    ReturnsInHanded {} Tryz.checked os 5 .any (fun w args => (Rows.blockLastSpec.pre enc Tryz.prog Tryz.f5 [] false w args ∧ laidMetH Tryz.prog theLaid14 w) ∧ sizedMet enc Tryz.prog Tryz.f5 (OpenSpec.ofChange Rows.blockLastSpec) false w args)
      (Rows.blockLastSpec.post enc Tryz.prog Tryz.f5 false true false false) := by
  refine returnsInHanded_of_change_and (C := Tryz.checked) (X := fun w _ => laidMetH Tryz.prog theLaid14 w) (fun _ _ _ hh h => h.of_heap hh) ownK started (by kernel_rfl) Tryz.func5
    (ChangeSpec.witness_at (enc := enc) (C := Tryz.checked) (os := os) (X := fun w _ => laidMetH Tryz.prog theLaid14 w) false (laidWorld14 os) #[.int .i64 0, .int .u64 0, .slice none 0 0, .agg #[.int .i64 0, .int .i64 0, .int .i64 0, .int .i64 0]] 8 rfl (by kernel_rfl) (by kernel_rfl) (by kernel_rfl) (by kernel_rfl) (by kernel_rfl) (laidWorld14_met os _)) ?_
  intro W base args ds gs before hval0 hW _ hsz hL _
  have hval : ∀ (j : Nat) t v, Tryz.f5.params[j]? = some t → args[j]? = some v → Value.okWide Tryz.prog W .any base t v := hval0
  have hW' := hW
  obtain ⟨p, q, hA0, hV, rfl, hfz, hnd⟩ := hW
  have hA : DataW.TrodAll enc Tryz.prog W 0 (fun _ => true) true Tryz.f5.params.toList args.toList ds p := hA0
  rw [Tryz.params5] at hA hval
  obtain ⟨v0, v1, v2, v3, d0, d1, d2, d3, p0, p1, p2, p3, rfl, rfl, rfl, h0, h1, h2, h3⟩ := trodAll_four hA
  obtain ⟨rfl, rfl⟩ := trodVars_none hV
  obtain ⟨n0, rfl, rfl, rfl, wn0⟩ := open_int Tryz.underlying3 (hval 0 _ v0 rfl rfl) h0
  have hn0 : -9223372036854775808 ≤ n0 ∧ n0 ≤ 9223372036854775807 := by simpa [Lit.wf, IntKind.min, IntKind.max, IntKind.signed, IntKind.bits] using wn0
  obtain ⟨n1, rfl, rfl, rfl, wn1⟩ := open_int Tryz.underlying22 (hval 1 _ v1 rfl rfl) h1
  have hn1 : 0 ≤ n1 ∧ n1 ≤ 18446744073709551615 := by simpa [Lit.wf, IntKind.min, IntKind.max, IntKind.signed, IntKind.bits] using wn1
  obtain ⟨l2, hl2, hm2⟩ := ts_of_sized (hval 2 _ v2 rfl rfl) h2 hsz (j := 2) rfl rfl
  obtain ⟨s3, rfl⟩ := sz_of_trod (hval 3 _ v3 rfl rfl) h3
  refine (blockLast_int n0 n1 v2 l2 s3 W hl2 hn0.1 hn0.2 hn1.1 hn1.2 hm2 (ld_of_laid14 hL)).mono fun e W' ⟨he, hb⟩ => ?_
  subst he
  exact ⟨_, rfl, law_post (P := Tryz.prog) (f := Tryz.f5) (s := Rows.blockLastSpec) Tryz.underlying4 (by kernel_rfl) laidO (by decide +kernel) rfl hW' rfl rfl rfl hb⟩

theorem blockLast_row : Rows.BlockLastSaid :=
  OpenClaim.holds_of_wide 5 Tryz.f5 rfl rfl rfl rfl rfl rfl rfl ⟨rfl, rfl, rfl, rfl, rfl⟩ rfl rfl rfl rfl rfl (by kernel_rfl) Tryz.func5 (by kernel_rfl)
    (of_decide_eq_true (by kernel_rfl)) (by unfold Func.isWrapper; first | (rw [if_pos (by decide +kernel)]; kernel_rfl) | (rw [if_neg (by decide +kernel)]; exact ⟨rfl, rfl⟩))
    (fun os started H enc _ => blockLast_lifted os started H enc)

theorem blockLast_holds : Rows.BlockLastCardSaid :=
  Claim7.holds_tied_plain_at .later [] [.data, .data, .data] true Rows.blockLastCard.stood.harness true
    blockLast_row (fun _ h => by cases h) (by kernel_rfl) (fun _ h => by cases h) blockLast_row_tie rfl ⟨rfl, rfl⟩ (by kernel_rfl) rfl
    (fun f fn hf hfn => by
      obtain rfl : f = 5 := Option.some.inj ((show Tryz.prog.funcNamed "tankard/tankardlaw14.BlockLast" = some 5 by kernel_rfl).symm.trans hf) |>.symm
      obtain rfl : fn = Tryz.f5 := (Option.some.inj (Tryz.func5.symm.trans hfn)).symm
      exact ⟨by kernel_rfl, fun j t ht => by
        rw [Tryz.params5] at ht
        have hall : (#[3, 22, 23, 25] : Array TypeId).all (fun t => Tryz.prog.wantsStandIn t == false) = true := by kernel_rfl
        have hm := Array.mem_of_getElem? ht
        have := Array.all_eq_true_iff_forall_mem.1 hall t hm
        have h4 : Tryz.prog.wantsStandIn t = false := by simpa using this
        exact h4⟩)
    (by kernel_rfl)

end Go.Proofs.YtnghpcfdgjkokaaGreatDoor

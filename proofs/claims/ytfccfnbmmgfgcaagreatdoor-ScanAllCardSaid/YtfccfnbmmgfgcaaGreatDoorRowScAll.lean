/-
  ScanAll: for every Id, traces, sizes, turns and block it returns true, and what is handed in reads as it did (the tied card). Conditions: those of the card: what the library reads of its tables (strconv's powers of ten, math/bits' two tables) starts as the program's text lays it.
-/
import Derived.Test.YtfccfnbmmgfgcaaGreatDoorScC
import Derived.Test.YtfccfnbmmgfgcaaGreatDoorScN
import Derived.Test.YtfccfnbmmgfgcaaGreatDoorRowBk
import Derived.Test.YtfccfnbmmgfgcaaGreatDoorRowTs
import Derived.Test.YtfccfnbmmgfgcaaGreatDoorRowDf
namespace Go.Proofs.YtfccfnbmmgfgcaaGreatDoor
open Go.ChangeShapes Go.WideShapes Go.ChangeAt Go.RowKit

set_option maxRecDepth 100000 in
theorem scanAll_lifted (os : Os) (started : os.Started) (H : Type) (enc : TypeId × Value → H) :
    ReturnsInHanded {} Tryz.checked os 4 .any (fun w args => (Rows.scanAllSpec.pre enc Tryz.prog Tryz.f4 [] false w args ∧ laidMetH Tryz.prog theLaid14 w) ∧ sizedMet enc Tryz.prog Tryz.f4 (OpenSpec.ofChange Rows.scanAllSpec) false w args)
      (Rows.scanAllSpec.post enc Tryz.prog Tryz.f4 false true false false) := by
  refine returnsInHanded_of_change_and (C := Tryz.checked) (X := fun w _ => laidMetH Tryz.prog theLaid14 w) (fun _ _ _ hh h => h.of_heap hh) ownK started (by kernel_rfl) Tryz.func4
    (ChangeSpec.witness_at (enc := enc) (C := Tryz.checked) (os := os) (X := fun w _ => laidMetH Tryz.prog theLaid14 w) false (laidWorld14 os) #[.int .u64 0, .slice none 0 0, .agg #[.int .i64 0, .int .i64 0, .int .i64 0, .int .i64 0], .slice none 0 0, .int .u64 0] 8 rfl (by kernel_rfl) (by kernel_rfl) (by kernel_rfl) (by kernel_rfl) (by kernel_rfl) (laidWorld14_met os _)) ?_
  intro W base args ds gs before hval0 hW _ hsz hL _
  have hval : ∀ (j : Nat) t v, Tryz.f4.params[j]? = some t → args[j]? = some v → Value.okWide Tryz.prog W .any base t v := hval0
  have hW' := hW
  obtain ⟨p, q, hA0, hV, rfl, hfz, hnd⟩ := hW
  have hA : DataW.TrodAll enc Tryz.prog W 0 (fun _ => true) true Tryz.f4.params.toList args.toList ds p := hA0
  rw [Tryz.params4] at hA hval
  obtain ⟨v0, v1, v2, v3, v4, d0, d1, d2, d3, d4, p0, p1, p2, p3, p4, rfl, rfl, rfl, h0, h1, h2, h3, h4⟩ := trodAll_five hA
  obtain ⟨rfl, rfl⟩ := trodVars_none hV
  obtain ⟨n0, rfl, rfl, rfl, wn0⟩ := open_int Tryz.underlying22 (hval 0 _ v0 rfl rfl) h0
  have hn0 : 0 ≤ n0 ∧ n0 ≤ 18446744073709551615 := by simpa [Lit.wf, IntKind.min, IntKind.max, IntKind.signed, IntKind.bits] using wn0
  obtain ⟨l1, hl1, hm1⟩ := ts_of_sized (hval 1 _ v1 rfl rfl) h1 hsz (j := 1) rfl rfl
  obtain ⟨s2, rfl⟩ := sz_of_trod (hval 2 _ v2 rfl rfl) h2
  obtain ⟨l3, hl3⟩ := ds15_of_trod (hval 3 _ v3 rfl rfl) h3
  obtain ⟨n4, rfl, rfl, rfl, wn4⟩ := open_int Tryz.underlying22 (hval 4 _ v4 rfl rfl) h4
  have hn4 : 0 ≤ n4 ∧ n4 ≤ 18446744073709551615 := by simpa [Lit.wf, IntKind.min, IntKind.max, IntKind.signed, IntKind.bits] using wn4
  refine (scanAll_int theScanner n0 v1 l1 s2 v3 l3 n4 W hl1 hl3 hn0.1 hn0.2 hn4.1 hn4.2 hm1 (ld_of_laid14 hL)).mono fun e W' ⟨he, hb⟩ => ?_
  subst he
  exact ⟨_, rfl, law_post (P := Tryz.prog) (f := Tryz.f4) (s := Rows.scanAllSpec) Tryz.underlying4 (by kernel_rfl) laidO (by decide +kernel) rfl hW' rfl rfl rfl hb⟩

theorem scanAll_row : Rows.ScanAllSaid :=
  OpenClaim.holds_of_wide 4 Tryz.f4 rfl rfl rfl rfl rfl rfl rfl ⟨rfl, rfl, rfl, rfl, rfl⟩ rfl rfl rfl rfl rfl (by kernel_rfl) Tryz.func4 (by kernel_rfl)
    (of_decide_eq_true (by kernel_rfl)) (by unfold Func.isWrapper; first | (rw [if_pos (by decide +kernel)]; kernel_rfl) | (rw [if_neg (by decide +kernel)]; exact ⟨rfl, rfl⟩))
    (fun os started H enc _ => scanAll_lifted os started H enc)

theorem scanAll_holds : Rows.ScanAllCardSaid :=
  Claim7.holds_tied_plain_at .later [] [.data, .data, .data] true Rows.scanAllCard.stood.harness true
    scanAll_row (fun _ h => by cases h) (by kernel_rfl) (fun _ h => by cases h) scanAll_row_tie rfl ⟨rfl, rfl⟩ (by kernel_rfl) rfl
    (fun f fn hf hfn => by
      obtain rfl : f = 4 := Option.some.inj ((show Tryz.prog.funcNamed "tankard/tankardlaw16.ScanAll" = some 4 by kernel_rfl).symm.trans hf) |>.symm
      obtain rfl : fn = Tryz.f4 := (Option.some.inj (Tryz.func4.symm.trans hfn)).symm
      exact ⟨by kernel_rfl, fun j t ht => by
        rw [Tryz.params4] at ht
        have hall : (#[22, 23, 25, 26, 22] : Array TypeId).all (fun t => Tryz.prog.wantsStandIn t == false) = true := by kernel_rfl
        have hm := Array.mem_of_getElem? ht
        have := Array.all_eq_true_iff_forall_mem.1 hall t hm
        have h4 : Tryz.prog.wantsStandIn t = false := by simpa using this
        exact h4⟩)
    (by kernel_rfl)

end Go.Proofs.YtfccfnbmmgfgcaaGreatDoor

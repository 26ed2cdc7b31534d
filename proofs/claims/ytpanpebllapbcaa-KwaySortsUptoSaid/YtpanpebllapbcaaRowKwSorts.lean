/-
  tankardlaw10.KwaySorts returns true for every input of bulk at most 1048576, and its argument reads afterwards as it read before. Condition: the bulk.
-/
import Derived.Test.YtpanpebllapbcaaRowKw
import Derived.Test.YtpanpebllapbcaaKwL
import Derived.Test.YtpanpebllapbcaaKwIb
import Derived.Test.YtpanpebllapbcaaHpLb
import Derived.JoinedCond
namespace Go.Proofs.Ytpanpebllapbcaa
open Go.ChangeShapes Go.WideShapes Go.ChangeAt Go.RowKit

set_option maxRecDepth 100000 in
theorem kwaySorts_lifted (os : Os) (started : os.Started) (H : Type) (enc : TypeId × Value → H) (F : Stop.Interp) :
    ReturnsInHanded {} Try.checked os 4 .any ((Rows.OpenSpec.upto Rows.kwaySortsSpec).pre6 enc Try.prog Try.f4 Rows.kwaySortsUptoRow.domain false) (((Rows.OpenSpec.upto Rows.kwaySortsSpec).at F).post enc Try.prog Try.f4 false true false false) := by
  refine returnsInHanded_of_cond (C := Try.checked) (s := Rows.OpenSpec.upto Rows.kwaySortsSpec) (k := Rows.uptoSmall) rfl ownK started (by kernel_rfl) Try.func4
    (OpenSpec.witness (enc := enc) (C := Try.checked) (s := Rows.OpenSpec.upto Rows.kwaySortsSpec) (k := Rows.uptoSmall) rfl false ⟨#[], #[.slice none 0 0], []⟩ 8 (by kernel_rfl) (by kernel_rfl) (by kernel_rfl)
      (x := ([.nil], [], [])) (by kernel_rfl) rfl (by kernel_rfl)) ?_
  intro W base args ds gs before hval0 hW _ hk _
  have hval : ∀ (j : Nat) t v, Try.f4.params[j]? = some t → args[j]? = some v → Value.okWide Try.prog W .any base t v := hval0
  have hW' := hW
  obtain ⟨p, q, hA0, hV, rfl, hfz, hnd⟩ := hW
  have hA : DataW.TrodAll enc Try.prog W 0 (fun _ => true) true Try.f4.params.toList args.toList ds p := hA0
  rw [Try.params4] at hA hval
  obtain ⟨v0, d0, rfl, rfl, h0⟩ := trodAll_one hA
  obtain ⟨rfl, rfl⟩ := trodVars_none hV
  obtain ⟨l0, hl0, ha0, hb0⟩ := intRows_of_trod (hval 0 _ v0 rfl rfl) h0
  have hbk : Rows.uptoBulkAll [d0] ≤ 1048576 := by
    simp only [List.append_nil] at hk
    exact of_decide_eq_true hk
  simp only [Rows.uptoBulkAll] at hbk
  refine (kwaySorts_any (fun hl hs h1 h2 => kwSorted_O heapK_KrO hl hs (by omega) h2) (up10_any (mergeK heapK_KrT)) v0 l0 W hl0 (by omega) (by omega)).mono fun e W' ⟨he, hb⟩ => ?_
  subst he
  exact ⟨_, rfl, law_post (P := Try.prog) (f := Try.f4) (s := Rows.kwaySortsSpec) Try.underlying4 (by kernel_rfl) laidO (by decide +kernel) rfl hW' rfl rfl rfl hb⟩

theorem kwaySorts_holds : Rows.KwaySortsUptoSaid :=
  OpenClaim.holds_of_cond 4 Try.f4 rfl rfl rfl rfl rfl rfl rfl ⟨rfl, rfl, rfl, rfl, rfl⟩ rfl rfl rfl rfl rfl (by kernel_rfl) Try.func4 (by kernel_rfl)
    (of_decide_eq_true (by kernel_rfl)) (by unfold Func.isWrapper; first | (rw [if_pos (by decide +kernel)]; kernel_rfl) | (rw [if_neg (by decide +kernel)]; exact ⟨rfl, rfl⟩))
    (fun os started H enc _ F => kwaySorts_lifted os started H enc F)

end Go.Proofs.Ytpanpebllapbcaa

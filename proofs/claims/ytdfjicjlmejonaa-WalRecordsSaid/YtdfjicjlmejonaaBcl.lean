/-
  CONTRACT of bytes.Clone. No condition but what it says.
-/
import Derived.Test.YtdfjicjlmejonaaWordG
import Derived.Lib.SliceRun
namespace Go.Proofs.Ytdfjicjlmejonaa
open Go.RowKit
set_option maxRecDepth 100000

set_option maxHeartbeats 400000 in
/-- bytes.Clone -/
theorem bclone_any (l : List UInt8) (v : Value) (w : World) (hl : l.length ≤ 140737488355328) (hv : Bs w v l) :
    Calls Try.prog 34 #[v] w fun e w' => ∃ v', e = .returned v' ∧ Own w' w.heap.size 5 v' l ∧ Below w.heap.size w w' := by
  have hv' := hv
  obtain ⟨A, c, rfl, hc1, hc2, hr⟩ := hv'
  have hnil := fun u : World => Lib.run_eql_slice_nil (P := Try.prog) u 22 5 A l.length c 0 0 byteT.under
  cases A with
  | none =>
    have h0 : l = [] := by
      have := hr.noneEq
      simpa [BV] using this
    subst h0
    simp only [Option.isNone_none, List.length_nil] at hnil
    go_enter Try.func34, Try.ntmps34
    go_wp2_with fail
    go_ret
    exact ⟨_, rfl, Own.nil _ _ _, Below.refl _ _⟩
  | some ad =>
    simp only [Option.isNone_some] at hnil
    go_enter Try.func34, Try.ntmps34
    go_wp2_with (at_builtin; refine wpList_append_v _ byteT rfl _ _ rfl w.heap.size (.slice (some ⟨w.heap.size, 0, none⟩) 0 0) [] rfl (Own.made w w.heap.size 5 #[] 0 (Nat.le_refl _) (by simp [maxLen]) rfl) _ l rfl (hv.alloc _) (by simp; omega) (by simp) ?_)
    intro v2 w2 hown2 hg2 _
    have hb2 : Below w.heap.size w w2 := ((Below.refl _ w).alloc (Nat.le_refl _) _).grown hg2 (by simp) (by intro k hk; simp [Value.ownBlock] at hk; omega)
    clear hnil hg2
    go_wp2_with fail
    go_ret
    exact ⟨_, rfl, hown2, hb2⟩

end Go.Proofs.Ytdfjicjlmejonaa

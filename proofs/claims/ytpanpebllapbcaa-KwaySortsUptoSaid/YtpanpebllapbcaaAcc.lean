/-
  SPANS ALL OF THE CALL's OWN, their Data, too ('Acc'). No condition.
-/
import Derived.Test.YtpanpebllapbcaaSpanB
namespace Go.Proofs.Ytpanpebllapbcaa
open Go.RowKit

theorem spanT : ElemT Try.prog 33 51 5 56 := ⟨Try.underlying33, by omega, by
  obtain ⟨i, h1, h2, h3, h4⟩ := info_parts (P := Try.prog) (e := 51) (z := .agg #[.int .u64 0, .int .u64 0, .int .i64 0, .int .i64 0, .slice none 0 0]) (size := 5) (bytes := 56) (by kernel_rfl)
  exact ⟨i, _, h1, h2, h3, h4, rfl⟩⟩

/-- a span of the call's own, beside a block -/
def SpO (w : World) (base : Nat) (row : Option Nat) (s : Sn) (x : List Value) : Prop := s.ok ∧ ∃ d, x = spCells s d ∧ Own w base 5 d s.data ∧ (d.ownBlock = none ∨ d.ownBlock ≠ row)
/-- spans of the call's own -/
structure Acc (w : World) (base : Nat) (v : Value) (l : List Sn) : Prop where
  is : ∃ xs, OwnL 5 w base 51 v xs ∧ Two (SpO w base v.ownBlock) l xs
section
variable {w w' : World} {base : Nat} {v : Value} {l : List Sn}
theorem Acc.nil (w : World) (base : Nat) : Acc w base (.slice none 0 0) [] := ⟨[], OwnL.nil _ _ _ _, Two.nil⟩
theorem Acc.ss (h : Acc w base v l) : Ss w v l := by
  obtain ⟨xs, h1, h2⟩ := h.is
  refine ⟨xs, h1.lv, h2.mono fun s x hx => ?_⟩
  obtain ⟨ho, d, hx, hd, _⟩ := hx
  exact ⟨ho, d, hx, hd.bs⟩
theorem Acc.grown {g : Nat} (h : Acc w base v l) (hg : w.grownBy w' (some g)) (hgb : g < base) : Acc w' base v l := by
  obtain ⟨xs, h1, h2⟩ := h.is
  refine ⟨xs, h1.kept hg (.inr (h1.ne_ hgb)), h2.mono fun s x hx => ?_⟩
  obtain ⟨ho, d, hx, hd, hs⟩ := hx
  exact ⟨ho, d, hx, hd.kept hg (.inr (hd.ne_ hgb)), hs⟩
theorem Acc.below (h : Acc w base v l) (hb : Below w.heap.size w w') : Acc w' base v l := by
  obtain ⟨xs, h1, h2⟩ := h.is
  refine ⟨xs, h1.below hb, h2.mono fun s x hx => ?_⟩
  obtain ⟨ho, d, hx, hd, hs⟩ := hx
  exact ⟨ho, d, hx, hd.below hb, hs⟩
theorem Acc.drewN (h : Acc w base v l) (n : Nat) : Acc (w.drewN n) base v l := h.below (below_drewN (Below.refl _ _) n)
theorem Acc.lt (h : Acc w base v l) : ∀ g, v.ownBlock = some g → base ≤ g ∧ g < w.heap.size := fun g hg => by
  obtain ⟨xs, h1, _⟩ := h.is
  exact ⟨h1.ge g hg, h1.lt g hg⟩
end

end Go.Proofs.Ytpanpebllapbcaa

/-
  CONTRACTS of errors.Is and tankardlaw00.Is, where the error is a Spot of that Code, at that place. Condition: the package variable errors.errorType holds the handle of 'error' (Hd).
-/
import Derived.Test.YtcpbikogccdknaaErrA
namespace Go.Proofs.Ytcpbikogccdknaa
open Go.RowKit Go.Extern.Stop Go.Stop Go.Extern

theorem spNeSame (a : Addr) (w : World) : (binOp .neq 27 (.iface 109 (.pointer (some a))) (.iface 109 (.pointer (some a)))).run Try.prog w = .ok (.bool false) w := by
  obtain ⟨i, hi, hc⟩ : ∃ i, Try.prog.info? 109 = some i ∧ i.comparable = true := by
    have h : (Try.prog.info? 109).map (·.comparable) = some true := by kernel_rfl
    exact Option.map_eq_some_iff.1 h
  obtain ⟨j, hj, _⟩ : ∃ j, Try.prog.info? 111 = some j ∧ j.size = 2 := by
    have h : (Try.prog.info? 111).map (·.size) = some 2 := by kernel_rfl
    exact Option.map_eq_some_iff.1 h
  simp only [binOp]
  simp [Op.equal, Op.maxDepth, run_equalIn_iface_ptr_same w 9998 a Try.underlying27 Try.underlying109 hi hc hj]

/-- the error is a Spot, at that place, with that Code -/
structure Sp (w : World) (v : Value) (at_ c : Int) : Prop where
  is : ∃ g, v = .iface 109 (.pointer (some ⟨g, 0, none⟩)) ∧ Blk w g 111 #[.int .i64 at_, .int .i64 c]
theorem Sp.below {w w' : World} {v : Value} {at_ c : Int} (h : Sp w v at_ c) (hb : Below w.heap.size w w') : Sp w' v at_ c := by
  obtain ⟨g, rfl, hB⟩ := h.is
  exact ⟨g, rfl, hB.below hb hB.lt⟩

end Go.Proofs.Ytcpbikogccdknaa

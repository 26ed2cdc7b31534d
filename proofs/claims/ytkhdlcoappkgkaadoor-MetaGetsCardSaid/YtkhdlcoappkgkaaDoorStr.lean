/-
  SLICES OF STRINGS; []byte(s) of a string that is no constant. No condition but what each theorem says.
-/
import Derived.Test.YtkhdlcoappkgkaaDoorCode
import Derived.Test.YtkhdlcoappkgkaaDoorLs
import Derived.Test.YtkhdlcoappkgkaaDoorKee
import Derived.Lib.ConvBytes
namespace Go.Proofs.YtkhdlcoappkgkaaDoor
open Go.RowKit
set_option maxRecDepth 100000

def stC (s : List UInt8) : List Value := [.string (Bstr s)]
/-- two slices of texts -/
def StL (w : World) (v : Value) (l : List (List UInt8)) : Prop := Lv 1 w v (l.map fun s => [.string (Bstr s)])
theorem StL.form {w : World} {v : Value} {l : List (List UInt8)} (h : StL w v l) : ∃ A c, v = .slice A l.length c ∧ l.length ≤ c ∧ c ≤ 9223372036854775807 := by
  obtain ⟨A, c, hv, h1, h2⟩ := Lv.form h
  rw [List.length_map] at hv h1
  exact ⟨A, c, hv, h1, h2⟩
theorem StL.cell {w : World} {A : Option Addr} {n c : Nat} {l : List (List UInt8)} (h : StL w (.slice A n c) l) {i : Nat} {s : List UInt8} (hi : l[i]? = some s) :
    ∃ q p, A = some ⟨q, p, none⟩ ∧ q < w.heap.size ∧ w.cell? ⟨q, p + i, none⟩ = some (.string (Bstr s)) := by
  obtain ⟨q, p, hA, hq, hc⟩ := Lv.cells h (by omega) (i := i) (x := [.string (Bstr s)]) (by rw [List.getElem?_map, hi]; rfl)
  exact ⟨q, p, hA, hq, by simpa using hc 0 _ rfl⟩

/-- []byte(s), of a string that is no constant -/
theorem bytesOf (l : List UInt8) (w : World) (hl : l.length ≤ 1048576) : ∃ G W, (convert 9 28 (.string (Bstr l))).run Tryd.prog w = .ok (.slice (some ⟨w.heap.size, 0, none⟩) l.length G) W ∧ l.length ≤ G ∧ G ≤ 9223372036854775807 ∧ Below w.heap.size w W ∧ w.heap.size < W.heap.size ∧
    (∀ (j : Nat) (y : UInt8), l[j]? = some y → W.cell? ⟨w.heap.size, j, none⟩ = some (.int .u8 (y.toNat : Int)) ∧ W.frozen? ⟨w.heap.size, j, none⟩ = false) := by
  have hs := Bstr_size l
  have h := Lib.run_convert_string_bytes (P := Tryd.prog) w 9 28 5 (Bstr l) strT byteT.under byteT.elem
  rw [hs] at h
  refine ⟨_, _, h, ?_, ?_, ?_, ?_, fun j y hy => ?_⟩
  · exact grownCap_ge w _ _ _
  · have := grownCap_le_maxLen w l.length 0 5 (by simp only [maxLen]; omega)
    simp only [maxLen] at this
    omega
  · exact ⟨rfl, rfl, rfl, by rw [Lib.bytesWorld_size]; omega, fun j hj => Lib.bytesWorld_at_old w _ _ j hj⟩
  · rw [Lib.bytesWorld_size]
    omega
  · obtain ⟨hj, rfl⟩ := List.getElem?_eq_some_iff.1 hy
    refine ⟨?_, ?_⟩
    · rw [Lib.bytesWorld_cell w _ _ j (by rw [hs]; exact hj)]
      simp [Bstr, List.getD, hj]
    · have hz : (Lib.bytesCells w 5 (Bstr l)).size = l.length + (grownCap w (Bstr l).size 0 5 - (Bstr l).size) := by
        simp [Lib.bytesCells, Bstr]
      simp only [World.frozen?, Lib.bytesWorld_at_new]
      simp
      omega
end Go.Proofs.YtkhdlcoappkgkaaDoor

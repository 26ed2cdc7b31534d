/-
  FROM A WALK TO A ROW THAT LISTS what the library reads of its tables (strconv's powers of ten, math/bits' two tables); what an argument of type api.Sizes gives.
-/
import Derived.Test.YtfccfnbmmgfgcaaGreatDoorMtL
import Derived.Test.YtfccfnbmmgfgcaaGreatDoorBkA
import Derived.Test.YtfccfnbmmgfgcaaGreatDoorLvKey
import Derived.Test.YtfccfnbmmgfgcaaGreatDoorRow
import Derived.Test.YtfccfnbmmgfgcaaGreatDoorTie
import Derived.Test.YtfccfnbmmgfgcaaGreatDoorCards
import Derived.ChangeVars
import Derived.JoinedOf
import Derived.LaidLaws
import Derived.LaidHandle
import Derived.MakeChecks
import Derived.Stop.Joined
import Derived.Stop.LaidErr
import Derived.Lib.LaidTab
import Derived.Deep.Fields
namespace Go.Proofs.YtfccfnbmmgfgcaaGreatDoor
open Go.ChangeShapes Go.WideShapes Go.ChangeAt Go.RowKit
set_option maxRecDepth 100000

def theLaid14 : List (String × DataW Unit) := [("math/bits.deBruijn32tab", Rows.laid_math_bits_deBruijn32tab), ("math/bits.deBruijn64tab", Rows.laid_math_bits_deBruijn64tab), ("internal/strconv.uint64pow10", Rows.laid_internal_strconv_uint64pow10)]
theorem theLaid14_plain (w : World) : laidMetH Tryz.prog theLaid14 w = laidMet Tryz.prog theLaid14 w := MakeChecks.laidMetH_plain _ _ _ (by kernel_rfl)

def dbl64 : List Int := [0, 1, 56, 2, 57, 49, 28, 3, 61, 58, 42, 50, 38, 29, 17, 4, 62, 47, 59, 36, 45, 43, 51, 22, 53, 39, 33, 30, 24, 18, 12, 5, 63, 55, 48, 27, 60, 41, 37, 16, 46, 35, 44, 21, 52, 32, 23, 11, 54, 26, 40, 15, 34, 20, 31, 10, 25, 14, 19, 9, 13, 8, 7, 6]
def dbl32 : List Int := [0, 1, 28, 2, 29, 14, 24, 3, 30, 22, 20, 15, 25, 17, 4, 8, 31, 27, 13, 23, 21, 19, 16, 7, 26, 12, 18, 6, 11, 5, 10, 9]
theorem ld_of_laid14 {W : World} (h : laidMetH Tryz.prog theLaid14 W) : Ld W := by
  rw [theLaid14_plain] at h
  have h64 : Rows.laid_math_bits_deBruijn64tab = Lib.tabData (H := Unit) .u8 dbl64 := by kernel_rfl
  have h10 : Rows.laid_internal_strconv_uint64pow10 = Lib.tabData (H := Unit) .u64 Lib.pow10Tab := by kernel_rfl
  have t1 := h.tail
  rw [h64] at t1
  have t2 := t1.tail
  rw [h10] at t2
  have g5 : Tryz.prog.globalNamed "math/bits.deBruijn64tab" = some 3 := by kernel_rfl
  have g2 : Tryz.prog.globalNamed "internal/strconv.uint64pow10" = some 0 := by kernel_rfl
  have k5 := Lib.tabIs_of_head (k := .u8) (zs := dbl64) g5 (t := 257) (e := 5) (n := 64) (by kernel_rfl) Tryz.underlying257 Tryz.underlying5 (by kernel_rfl) (by kernel_rfl) t1
  have k2 := Lib.tabIs_of_head (k := .u64) (zs := Lib.pow10Tab) g2 (t := 236) (e := 22) (n := 20) (by kernel_rfl) Tryz.underlying236 Tryz.underlying22 (by kernel_rfl) (by kernel_rfl) t2
  exact ⟨k2, k5.cell g5 15 (by decide)⟩

noncomputable def laidWorld14 (os : Os) : World :=
  let w0 := World.holding Tryz.prog os ⟨#[], #[], []⟩
  { w0 with heap := ((w0.heap.modify 0 fun
      | .cells _ t frozen => .cells (Lib.pow10Tab.map fun z => Value.int .u64 z).toArray t frozen
      | o => o).modify 2 fun
      | .cells _ t frozen => .cells (dbl32.map fun z => Value.int .u8 z).toArray t frozen
      | o => o).modify 3 fun
      | .cells _ t frozen => .cells (dbl64.map fun z => Value.int .u8 z).toArray t frozen
      | o => o }
theorem laidWorld14_met (os : Os) (args : Array Value) : laidMetH Tryz.prog theLaid14 ((laidWorld14 os).forCall (fun _ _ => 0) ⟨#[], args, []⟩).memory := by
  rw [theLaid14_plain]
  exact laidMet_of_run (ps := MemPlace.row ⟨2, 0, none⟩ 32 ++ (MemPlace.row ⟨3, 0, none⟩ 64 ++ (MemPlace.row ⟨0, 0, none⟩ 20 ++ []))) 40 (by kernel_rfl) (by kernel_rfl) (by kernel_rfl)

section
variable {H : Type} {enc : TypeId × Value → H}
theorem sz_of_trod {W : World} {base : Nat} {v : Value} {d : DataW H} {p : List MemPlace} (hval : Value.okWide Tryz.prog W .any base 25 v)
    (h : DataW.Trod enc Tryz.prog W 0 (fun _ => true) true 25 v d p) : ∃ s : Sz, v = szV s := by
  obtain ⟨cs, rfl, hsz, hf⟩ := open_agg Tryz.underlying25 (by kernel_rfl) (by kernel_rfl) hval h
  obtain ⟨u0, n0, y0, c0, t0⟩ := hf 0 _ rfl
  obtain ⟨u1, n1, y1, c1, t1⟩ := hf 1 _ rfl
  obtain ⟨u2, n2, y2, c2, t2⟩ := hf 2 _ rfl
  obtain ⟨u3, n3, y3, c3, t3⟩ := hf 3 _ rfl
  obtain ⟨a, e0, _, _⟩ := DataW.trod_int Tryz.underlying3 t0
  obtain ⟨b, e1, _, _⟩ := DataW.trod_int Tryz.underlying3 t1
  obtain ⟨c, e2, _, _⟩ := DataW.trod_int Tryz.underlying3 t2
  obtain ⟨e, e3, _, _⟩ := DataW.trod_int Tryz.underlying3 t3
  simp only [List.cons.injEq, and_true] at e0 e1 e2 e3
  subst e0 e1 e2 e3
  refine ⟨⟨a, b, c, e⟩, ?_⟩
  obtain ⟨k⟩ := cs
  simp only [List.size_toArray, List.getElem?_toArray] at hsz c0 c1 c2 c3
  match k, hsz with
  | [x0, x1, x2, x3], _ =>
    simp at c0 c1 c2 c3
    subst c0 c1 c2 c3
    rfl
end

end Go.Proofs.YtfccfnbmmgfgcaaGreatDoor

/-
  FROM A WALK TO A ROW THAT LISTS what the library reads of its variables (strconv's two errors, the powers of ten, math/bits' two tables); what an argument of type api.Meta, or api.Marker, gives.
-/
import Derived.Test.YtgafidnbmoomiaaGreatDoorMtL
import Derived.Test.YtgafidnbmoomiaaGreatDoorLvKey
import Derived.Test.YtgafidnbmoomiaaGreatDoorRow
import Derived.Test.YtgafidnbmoomiaaGreatDoorTie
import Derived.Test.YtgafidnbmoomiaaGreatDoorCards
import Derived.ChangeVars
import Derived.JoinedOf
import Derived.LaidLaws
import Derived.LaidHandle
import Derived.MakeChecks
import Derived.Stop.Joined
import Derived.Stop.LaidErr
import Derived.Lib.LaidTab
import Derived.Deep.Fields
namespace Go.Proofs.YtgafidnbmoomiaaGreatDoor
open Go.ChangeShapes Go.WideShapes Go.ChangeAt Go.RowKit
set_option maxRecDepth 100000

def theLaid13 : List (String × DataW Unit) := [("math/bits.deBruijn32tab", Rows.laid_math_bits_deBruijn32tab), ("math/bits.deBruijn64tab", Rows.laid_math_bits_deBruijn64tab), ("internal/strconv.uint64pow10", Rows.laid_internal_strconv_uint64pow10), ("strconv.ErrRange", Rows.laid_strconv_ErrRange), ("strconv.ErrSyntax", Rows.laid_strconv_ErrSyntax)]

theorem theLaid13_plain (w : World) : laidMetH Tryz.prog theLaid13 w = laidMet Tryz.prog theLaid13 w := MakeChecks.laidMetH_plain _ _ _ (by kernel_rfl)

def db64 : List Int := [0, 1, 56, 2, 57, 49, 28, 3, 61, 58, 42, 50, 38, 29, 17, 4, 62, 47, 59, 36, 45, 43, 51, 22, 53, 39, 33, 30, 24, 18, 12, 5, 63, 55, 48, 27, 60, 41, 37, 16, 46, 35, 44, 21, 52, 32, 23, 11, 54, 26, 40, 15, 34, 20, 31, 10, 25, 14, 19, 9, 13, 8, 7, 6]

def db32 : List Int := [0, 1, 28, 2, 29, 14, 24, 3, 30, 22, 20, 15, 25, 17, 4, 8, 31, 27, 13, 23, 21, 19, 16, 7, 26, 12, 18, 6, 11, 5, 10, 9]

theorem starE : "*" ++ "errors.errorString" = "*errors.errorString" := by decide

theorem rowE (u : TypeId) (h : Tryz.prog.typeName? 3 u = some "*errors.errorString") : u = 219 :=
  typeName_ptr_named (nm := "errors.errorString") (by rw [starE]; kernel_rfl) (by kernel_rfl) (by decide) u (by rw [starE]; exact h)

theorem ld_of_laid {W : World} (h : laidMetH Tryz.prog theLaid13 W) : LdP W := by
  rw [theLaid13_plain] at h
  have h64 : Rows.laid_math_bits_deBruijn64tab = Lib.tabData (H := Unit) .u8 db64 := by kernel_rfl
  have h10 : Rows.laid_internal_strconv_uint64pow10 = Lib.tabData (H := Unit) .u64 Lib.pow10Tab := by kernel_rfl
  have t1 := h.tail
  rw [h64] at t1
  have t2 := t1.tail
  rw [h10] at t2
  have t3 := t2.tail
  have t4 := t3.tail
  have g5 : Tryz.prog.globalNamed "math/bits.deBruijn64tab" = some 5 := by kernel_rfl
  have g2 : Tryz.prog.globalNamed "internal/strconv.uint64pow10" = some 2 := by kernel_rfl
  have g1 : Tryz.prog.globalNamed "strconv.ErrRange" = some 1 := by kernel_rfl
  have g0 : Tryz.prog.globalNamed "strconv.ErrSyntax" = some 0 := by kernel_rfl
  have k5 := Lib.tabIs_of_head (k := .u8) (zs := db64) g5 (t := 231) (e := 5) (n := 64) (by kernel_rfl) Tryz.underlying231 Tryz.underlying5 (by kernel_rfl) (by kernel_rfl) t1
  have k2 := Lib.tabIs_of_head (k := .u64) (zs := Lib.pow10Tab) g2 (t := 224) (e := 83) (n := 20) (by kernel_rfl) Tryz.underlying224 Tryz.underlying83 (by kernel_rfl) (by kernel_rfl) t2
  obtain ⟨a1, s1, hv1, -, -, -⟩ := laid_sentinel t3 g1 (ti := 31) (by kernel_rfl) Tryz.underlying31 rowE Tryz.underlying219 Tryz.underlying221 rfl rfl Tryz.underlying9 (by kernel_rfl) (by kernel_rfl)
  obtain ⟨a0, s0, hv0, -, -, -⟩ := laid_sentinel t4 g0 (ti := 31) (by kernel_rfl) Tryz.underlying31 rowE Tryz.underlying219 Tryz.underlying221 rfl rfl Tryz.underlying9 (by kernel_rfl) (by kernel_rfl)
  have h0 := World.var?_cell g0 hv0 0
  have h1 := World.var?_cell g1 hv1 0
  exact ⟨⟨k2, k5.cell g5 15 (by decide)⟩, ⟨_, _, h0.trans rfl⟩, ⟨_, _, h1.trans rfl⟩⟩

abbrev synS13 : ByteArray := { data := #[105, 110, 118, 97, 108, 105, 100, 32, 115, 121, 110, 116, 97, 120] }

abbrev rngS13 : ByteArray := { data := #[118, 97, 108, 117, 101, 32, 111, 117, 116, 32, 111, 102, 32, 114, 97, 110, 103, 101] }

noncomputable def low13 : Nat := (World.holding Tryz.prog default ⟨#[], #[], []⟩).heap.size

noncomputable def laidWorld13 (os : Os) : World :=
  let w0 := World.holding Tryz.prog os ⟨#[.cells #[.string synS13] 221, .cells #[.string rngS13] 221], #[], []⟩
  { w0 with heap := ((((w0.heap.modify 0 fun
      | .cells _ t frozen => .cells #[.iface 219 (.pointer (some ⟨low13, 0, none⟩))] t frozen
      | o => o).modify 1 fun
      | .cells _ t frozen => .cells #[.iface 219 (.pointer (some ⟨low13 + 1, 0, none⟩))] t frozen
      | o => o).modify 2 fun
      | .cells _ t frozen => .cells (Lib.pow10Tab.map fun z => Value.int .u64 z).toArray t frozen
      | o => o).modify 4 fun
      | .cells _ t frozen => .cells (db32.map fun z => Value.int .u8 z).toArray t frozen
      | o => o).modify 5 fun
      | .cells _ t frozen => .cells (db64.map fun z => Value.int .u8 z).toArray t frozen
      | o => o }

theorem laidWorld13_met (os : Os) (args : Array Value) : laidMetH Tryz.prog theLaid13 ((laidWorld13 os).forCall (fun _ _ => 0) ⟨#[], args, []⟩).memory := by
  rw [theLaid13_plain]
  exact laidMet_of_run (ps := MemPlace.row ⟨4, 0, none⟩ 32 ++ (MemPlace.row ⟨5, 0, none⟩ 64 ++ (MemPlace.row ⟨2, 0, none⟩ 20 ++ [.cell 1 0, .cell (low13 + 1) 0, .cell 0 0, .cell low13 0]))) 40 (by kernel_rfl) (by kernel_rfl) (by kernel_rfl)

end Go.Proofs.YtgafidnbmoomiaaGreatDoor

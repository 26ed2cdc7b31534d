/-
  THE LIBRARY's OWN CONTRACT of strings.Clone, laid at this program (in plain words). Conditions: what it says.
  CONTRACT of bytes.Clone. No condition but what it says.
-/
import Derived.Shelf.LaysM
import Derived.Shelf.Strconv.Clone
import Derived.Test.YtgafidnbmoomiaaGreatDoorMore
import Derived.Test.YtgafidnbmoomiaaGreatDoorWordA
import Derived.Lib.SliceRun
namespace Go.Proofs.YtgafidnbmoomiaaGreatDoor
open Go.Shelf
set_option maxRecDepth 100000

def cloneS_ren : Go.Shelf.Ren := ⟨fun | 316 => 53 | n => n, fun | 9 => 9 | 3 => 3 | 4 => 4 | 37 => 42 | 0 => 0 | 127 => 143 | 5 => 5 | n => n, fun | n => n⟩

theorem cloneS_laid : Go.Proofs.LaysM.n316 Tryz.prog cloneS_ren := {
  mixed := by kernel_rfl
  f316 := Tryz.func53.trans (congrArg some (by kernel_rfl))
  t0 := Tryz.underlying0
  a0 := Tryz.isAgg0
  z0 := Tryz.sizeOf0
  v0 := Tryz.zeroValue0
  t3 := Tryz.underlying3
  a3 := Tryz.isAgg3
  z3 := Tryz.sizeOf3
  v3 := Tryz.zeroValue3
  t4 := Tryz.underlying4
  a4 := Tryz.isAgg4
  z4 := Tryz.sizeOf4
  v4 := Tryz.zeroValue4
  t9 := Tryz.underlying9
  a9 := Tryz.isAgg9
  z9 := Tryz.sizeOf9
  v9 := Tryz.zeroValue9
  t37 := Tryz.underlying42
  a37 := Tryz.isAgg42
  z37 := Tryz.sizeOf42
  v37 := Tryz.zeroValue42
  t127 := Tryz.underlying143
  a127 := Tryz.isAgg143
  z127 := Tryz.sizeOf143
  v127 := Tryz.zeroValue143
  t5 := Tryz.underlying5
  a5 := Tryz.isAgg5
  z5 := Tryz.sizeOf5
  v5 := Tryz.zeroValue5
  i0 := by kernel_rfl
  i3 := by kernel_rfl
  i4 := by kernel_rfl
  i5 := by kernel_rfl
  i9 := by kernel_rfl
  i37 := by kernel_rfl
  i127 := by kernel_rfl }

open Go.RowKit in
theorem cloneL_any (s : ByteArray) (w : World) (h : s.size ≤ 281474976710656) : Calls Tryz.prog 53 #[.string s] w fun e w' => e = .returned (.string s) ∧ Below w.heap.size w w' :=
  Any.stringslite_Clone cloneS_laid s w h

open Go.RowKit in
theorem cloneS_any (s : ByteArray) (w : World) (h : s.size ≤ 281474976710656) : Calls Tryz.prog 33 #[.string s] w fun e w' => e = .returned (.string s) ∧ Below w.heap.size w w' := by
  go_enter Tryz.func33, Tryz.ntmps33
  go_wp2_with fail
  refine (cloneL_any s _ h).mono ?_
  rintro e w1 ⟨rfl, hb⟩
  go_wp2_with fail
  go_ret
  exact ⟨rfl, hb⟩

open Go.RowKit

set_option maxHeartbeats 400000 in
theorem bclone_any (l : List UInt8) (v : Value) (w : World) (hl : l.length ≤ 140737488355328) (hv : Bs w v l) :
    Calls Tryz.prog 32 #[v] w fun e w' => ∃ v', e = .returned v' ∧ Own w' w.heap.size 5 v' l ∧ Below w.heap.size w w' := by
  have hv' := hv
  obtain ⟨A, c, rfl, hc1, hc2, hr⟩ := hv'
  have hnil := fun u : World => Lib.run_eql_slice_nil (P := Tryz.prog) u 42 5 A l.length c 0 0 byteT.under
  cases A with
  | none =>
    have h0 : l = [] := by
      have := hr.noneEq
      simpa [BV] using this
    subst h0
    simp only [Option.isNone_none, List.length_nil] at hnil
    go_enter Tryz.func32, Tryz.ntmps32
    go_wp2_with fail
    go_ret
    exact ⟨_, rfl, Own.nil _ _ _, Below.refl _ _⟩
  | some ad =>
    simp only [Option.isNone_some] at hnil
    go_enter Tryz.func32, Tryz.ntmps32
    go_wp2_with (at_builtin; refine wpList_append_v _ byteT rfl _ _ rfl w.heap.size (.slice (some ⟨w.heap.size, 0, none⟩) 0 0) [] rfl (Own.made w w.heap.size 5 #[] 0 (Nat.le_refl _) (by simp [maxLen]) rfl) _ l rfl (hv.alloc _) (by simp; omega) (by simp) ?_)
    intro v2 w2 hown2 hg2 _
    have hb2 : Below w.heap.size w w2 := ((Below.refl _ w).alloc (Nat.le_refl _) _).grown hg2 (by simp) (by intro k hk; simp [Value.ownBlock] at hk; omega)
    clear hnil hg2
    go_wp2_with fail
    go_ret
    exact ⟨_, rfl, hown2, hb2⟩

end Go.Proofs.YtgafidnbmoomiaaGreatDoor

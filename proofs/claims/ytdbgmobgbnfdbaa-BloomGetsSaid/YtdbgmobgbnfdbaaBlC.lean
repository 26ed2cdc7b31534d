/-
  THE PROGRAM's FILTER in memory ('PBt'), and CONTRACTS of what its calls call. Conditions: what each says.
-/
import Derived.Test.YtdbgmobgbnfdbaaBlB
import Derived.Test.YtdbgmobgbnfdbaaWordH
import Derived.Laws.ShiftsVarLaws
import Derived.Deep.DeepCutAuto
namespace Go.Proofs.Ytdbgmobgbnfdbaa
open Go.RowKit
set_option maxRecDepth 100000

/-- in the world w the filter in block g is b: its bits lie in the block q, and those two are its blocks -/
structure PBq (w : World) (F : Nat → Prop) (g q c : Nat) (b : Bl) : Prop where
  ok : b.Ok
  blk : Blk w g 46 #[.int .u64 (b.sh : Int), .int .u64 (b.bits : Int), .int .u64 (b.hs : Int), .slice (some ⟨q, 0, none⟩) b.set.length c]
  own : Own w 0 5 (.slice (some ⟨q, 0, none⟩) b.set.length c) b.set
  ne : q ≠ g
  F : ∀ z, F z ↔ z = g ∨ z = q
def PBt (w : World) (F : Nat → Prop) (g : Nat) (b : Bl) : Prop := ∃ q c, PBq w F g q c b
section
variable {w w' : World} {F : Nat → Prop} {g q c : Nat} {b : Bl}
theorem PBq.keep (h : PBq w F g q c b) (ha : Apt (fun z => ¬ F z) w w') : PBq w' F g q c b :=
  ⟨h.ok, (ha.block g h.blk.lt fun hn => hn ((h.F g).2 (.inl rfl))).trans h.blk, h.own.apt ha fun z hz hn => hn ((h.F z).2 (.inr (by simpa [Value.ownBlock] using hz.symm))), h.ne, h.F⟩
theorem PBq.later (h : PBq w F g q c b) (hb : Below w.heap.size w w') : PBq w' F g q c b := h.keep (Apt.of_below hb)
theorem PBq.qlt (h : PBq w F g q c b) : q < w.heap.size := h.own.blk_lt q rfl
theorem PBt.thing (g : Nat) (b : Bl) : Thing fun w F => PBt w F g b where
  keep := fun ⟨q, c, h⟩ ha => ⟨q, c, h.keep ha⟩
  lt := fun ⟨_, _, h⟩ z hz => ((h.F z).1 hz).elim (fun e => e ▸ h.blk.lt) fun e => e ▸ h.qlt
end

theorem isAmong_any (n a m : Int) (w : World) : Calls Try.prog 19 #[.int .i64 n, .int .i64 a, .int .i64 m] w fun e w' => e = .returned (.bool (decide (a ≤ n) && decide (n ≤ m))) ∧ w = w' := by
  by_cases h1 : a ≤ n
  · by_cases h2 : n ≤ m
    · go_enter Try.func19, Try.ntmps19
      go_wp2_with fail
      go_ret
      exact ⟨ret_bool (by simp [h1, h2]), rfl⟩
    · go_enter Try.func19, Try.ntmps19
      go_wp2_with fail
      go_ret
      exact ⟨ret_bool (by simp [h2]), rfl⟩
  · have HN : Hid ((decide (a ≤ n) && decide (n ≤ m)) = false) := Lib.hid (by rw [decide_eq_false h1, Bool.false_and])
    go_enter Try.func19, Try.ntmps19
    go_wp2_with fail
    go_ret
    exact ⟨ret_bool HN.out.symm, rfl⟩

set_option maxHeartbeats 800000 in
theorem bsums_any (id : Nat) (w : World) (hid : id < 18446744073709551616) : Calls Try.prog 33 #[.int .u64 (id : Int)] w fun e w' => e = .returned (.tuple #[.int .u64 (sumA id : Int), .int .u64 (sumB id : Int)]) ∧ Below w.heap.size w w' := by
  have hA := sumA_lt id
  have hB := sumB_lt id
  have hput : putOk 8 (id : Int) = true := by simp [putOk, isW]; omega
  have hP := put_ok [] (.slice none 0 0) 8 (id : Int) w (by omega) hput (by simp) (Bs.nil w)
  rw [List.nil_append, Int.toNat_natCast, show Int.toNat 8 = 8 from rfl] at hP
  have HE : Hid (crcOn (crcOf (bet id 8)) [1] = sumB id) := Lib.hid (crcOn_of _ _)
  have HA : Hid (crcOf (bet id 8) = sumA id) := Lib.hid rfl
  clear hput
  go_enter Try.func33, Try.ntmps33
  go_wp2_with fail
  refine hP.mono ?_
  rintro e w1 ⟨v1, rfl, hown1, hb1⟩
  have HB1 := Lib.hid hb1
  have hS := sum_any (bet id 8) v1 w1 hown1.bs
  rw [HA.out] at hS
  clear hP hown1 hb1
  go_wp2_with fail
  refine hS.mono ?_
  rintro e w2 ⟨rfl, rfl⟩
  clear hS
  go_wp2_with fail
  refine (on_any (sumA id : Int) [1] _ _ (by omega) (by omega) (Bs.lit1 _ 1 _ _ rfl)).mono ?_
  rintro e w2 ⟨rfl, rfl⟩
  rw [Int.toNat_natCast, ← HA.out, HE.out, HA.out]
  go_wp2_with fail
  go_ret2
  exact ⟨rfl, HB1.out.alloc HB1.out.size _⟩
end Go.Proofs.Ytdbgmobgbnfdbaa

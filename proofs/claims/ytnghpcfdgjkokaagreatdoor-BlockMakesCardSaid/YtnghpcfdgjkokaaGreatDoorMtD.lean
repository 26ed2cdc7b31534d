/-
  CONTRACTS of the program's isWhole, Get and Marked. Conditions: what each says.
  CONTRACTS of the document's Told, Stood, Meta, Marker (written by tools/gentold.py). Conditions: what each says.
-/
import Derived.Test.YtnghpcfdgjkokaaGreatDoorMtA
import Derived.Test.YtnghpcfdgjkokaaGreatDoorMore
namespace Go.Proofs.YtnghpcfdgjkokaaGreatDoor
open Go.RowKit
set_option maxRecDepth 100000

/-- all cells of a block, written anew -/
theorem setall6 {w : World} (g : Nat) {t : TypeId} {a0 a1 a2 a3 a4 a5 : Value} (h : Blk w g t #[a0, a1, a2, a3, a4, a5]) (b0 b1 b2 b3 b4 b5 : Value) :
    Blk ((((((w.setCell ⟨g, 0, none⟩ b0).setCell ⟨g, 1, none⟩ b1).setCell ⟨g, 2, none⟩ b2).setCell ⟨g, 3, none⟩ b3).setCell ⟨g, 4, none⟩ b4).setCell ⟨g, 5, none⟩ b5) g t #[b0, b1, b2, b3, b4, b5] := by
  have := (((((h.set_ 0 b0).set_ 1 b1).set_ 2 b2).set_ 3 b3).set_ 4 b4).set_ 5 b5
  simpa using this
theorem setall3 {w : World} (g : Nat) {t : TypeId} {a0 a1 a2 : Value} (h : Blk w g t #[a0, a1, a2]) (b0 b1 b2 : Value) :
    Blk (((w.setCell ⟨g, 0, none⟩ b0).setCell ⟨g, 1, none⟩ b1).setCell ⟨g, 2, none⟩ b2) g t #[b0, b1, b2] := by
  have := ((h.set_ 0 b0).set_ 1 b1).set_ 2 b2
  simpa using this
theorem gset3 (w : World) (g : Nat) (b0 b1 b2 : Value) : w.grownBy (((w.setCell ⟨g, 0, none⟩ b0).setCell ⟨g, 1, none⟩ b1).setCell ⟨g, 2, none⟩ b2) (some g) :=
  grown_trans (grown_trans (grown_set _ _ _ _) (grown_set _ _ _ _)) (grown_set _ _ _ _)
theorem gset6 (w : World) (g : Nat) (b0 b1 b2 b3 b4 b5 : Value) : w.grownBy ((((((w.setCell ⟨g, 0, none⟩ b0).setCell ⟨g, 1, none⟩ b1).setCell ⟨g, 2, none⟩ b2).setCell ⟨g, 3, none⟩ b3).setCell ⟨g, 4, none⟩ b4).setCell ⟨g, 5, none⟩ b5) (some g) :=
  grown_trans (gset3 w g b0 b1 b2) (grown_trans (grown_trans (grown_set _ _ _ _) (grown_set _ _ _ _)) (grown_set _ _ _ _))

theorem wrap64_range (n : Int) : -9223372036854775808 ≤ wrap64 n ∧ wrap64 n ≤ 9223372036854775807 := by
  unfold wrap64
  omega
theorem okMe (n0 n1 n2 n3 n4 n5 : Nat) (h0 : n0 < 18446744073709551616) (h3 : n3 < 256) (h4 : n4 < 65536) (h5 : n5 < 4294967296) : Me.ok ⟨(n0 : Int), (n3 : Int), wrap64 (n1 : Int), wrap64 (n2 : Int), (n4 : Int), (n5 : Int)⟩ := by
  have h1 := wrap64_range n1
  have h2 := wrap64_range n2
  constructor <;> (simp only; omega)
theorem okMk (n0 n1 n2 : Nat) (h0 : n0 < 18446744073709551616) (h2 : n2 < 18446744073709551616) : Mk.ok ⟨(n0 : Int), wrap64 (n1 : Int), (n2 : Int)⟩ := by
  have h1 := wrap64_range n1
  constructor <;> (simp only; omega)

end Go.Proofs.YtnghpcfdgjkokaaGreatDoor

namespace Go.Proofs.YtnghpcfdgjkokaaGreatDoor
open Go.RowKit
set_option maxRecDepth 100000
set_option maxHeartbeats 800000 in
theorem Told_no {b : List UInt8} {v : Value} (w : World) (hv : Bs w v b) (h31 : b.length ≠ 31) :
    Calls Tryz.prog 111 #[v] w fun e w' => e = .returned (.tuple #[meV Me.zero, .bool false]) ∧ Below w.heap.size w w' := by
  have hne : ((b.length : Int) != 31) = true := by
    have : ¬ (b.length : Int) = 31 := by omega
    simp [this]
  obtain ⟨A, c, rfl, hc1, hc2, _⟩ := hv
  have hb0 : Below w.heap.size w (w.alloc (.cells #[.int .u64 0, .int .i64 0, .int .i64 0, .int .i64 0, .int .i64 0, .int .i64 0] 30)) := (Below.refl _ _).alloc (Nat.le_refl _) _
  have hm0 := Blk.new w 30 #[.int .u64 0, .int .i64 0, .int .i64 0, .int .i64 0, .int .i64 0, .int .i64 0]
  clear h31
  go_enter Tryz.func111, Tryz.ntmps111
  go_wp2_with fail
  refine bodyPost_ret (v := .tuple #[.agg #[.int .u64 0, .int .i64 0, .int .i64 0, .int .i64 0, .int .i64 0, .int .i64 0], .bool false]) (by have c := hm0.cell; simp [results, go_sem, c]; try rfl) rfl ?_
  exact ⟨rfl, hb0⟩

set_option maxHeartbeats 3200000 in
theorem Told_yes {b : List UInt8} {v : Value} (w : World) (hv : Bs w v b) (h31 : b.length = 31) :
    Calls Tryz.prog 111 #[v] w fun e w' => e = .returned (.tuple #[meV (meAt b), .bool (meB (meAt b))]) ∧ Below w.heap.size w w' := by
  have hne : ((b.length : Int) != 31) = false := by
    have : (b.length : Int) = 31 := by omega
    simp [this]
  have H31 := Lib.hid h31
  obtain ⟨A, c, rfl, hc1, hc2, hr⟩ := hv
  have HVB : Hid (Bs w (.slice A b.length c) b) := Lib.hid ⟨A, c, rfl, hc1, hc2, hr⟩
  have hb0 : Below w.heap.size w (w.alloc (.cells #[.int .u64 0, .int .i64 0, .int .i64 0, .int .i64 0, .int .i64 0, .int .i64 0] 30)) := (Below.refl _ _).alloc (Nat.le_refl _) _
  have hm0 := Blk.new w 30 #[.int .u64 0, .int .i64 0, .int .i64 0, .int .i64 0, .int .i64 0, .int .i64 0]
  have HR2 : Hid (RR ((w.alloc (.cells #[.int .u64 0, .int .i64 0, .int .i64 0, .int .i64 0, .int .i64 0, .int .i64 0] 30)).alloc (.cells #[.slice A b.length c, .int .i64 0, .int .i64 (-1)] 170)) (w.heap.size + 1) (.slice A b.length c) b 0 false) := Lib.hid (by
    have := RR.new (HVB.out.alloc (.cells #[.int .u64 0, .int .i64 0, .int .i64 0, .int .i64 0, .int .i64 0, .int .i64 0] 30)) (by omega)
    simpa using this)
  have HM2 := Lib.hid (hm0.alloc (.cells #[.slice A b.length c, .int .i64 0, .int .i64 (-1)] 170))
  have HB2 := Lib.hid (hb0.alloc hb0.size (.cells #[.slice A b.length c, .int .i64 0, .int .i64 (-1)] 170))
  clear hb0 hm0 hr h31 HVB
  go_enter Tryz.func111, Tryz.ntmps111
  go_wp2_with fail
  revert HR2 HM2 HB2
  generalize (w.alloc (.cells #[.int .u64 0, .int .i64 0, .int .i64 0, .int .i64 0, .int .i64 0, .int .i64 0] 30)).alloc (.cells #[.slice A b.length c, .int .i64 0, .int .i64 (-1)] 170) = w2
  intro HR2 HM2 HB2
  have hC := Word_yes _ _ b 0 8 _ HR2.out (by simp [wordOk, isW]; have := H31.out; omega)
  rw [show Int.toNat 8 = 8 from rfl, show 0 + 8 = 8 from rfl] at hC
  obtain ⟨n0, hn⟩ : ∃ n : Nat, n = num ((b.drop 0).take 8) := ⟨_, rfl⟩
  rw [← hn] at hC
  have HN0 := Lib.hid hn
  clear hn
  go_wp2_with fail
  refine hC.mono ?_
  rintro e w3 ⟨rfl, hR, hg⟩
  have HR3 : Hid (RR w3 (w.heap.size + 1) (.slice A b.length c) b 8 false) := Lib.hid hR
  have HM3 := Lib.hid (HM2.out.grown hg (fun h => by injection h with h; omega))
  have HB3 := Lib.hid (HB2.out.grown hg HB2.out.size (by intro z hz; injection hz with hz; omega))
  clear hR hg hC HM2 HB2 HR2
  have hC := Word_yes _ _ b 8 8 _ HR3.out (by simp [wordOk, isW]; have := H31.out; omega)
  rw [show Int.toNat 8 = 8 from rfl, show 8 + 8 = 16 from rfl] at hC
  obtain ⟨n1, hn⟩ : ∃ n : Nat, n = num ((b.drop 8).take 8) := ⟨_, rfl⟩
  rw [← hn] at hC
  have HN1 := Lib.hid hn
  clear hn
  go_wp2_with fail
  refine hC.mono ?_
  rintro e w4 ⟨rfl, hR, hg⟩
  have HR4 : Hid (RR w4 (w.heap.size + 1) (.slice A b.length c) b 16 false) := Lib.hid hR
  have HM4 := Lib.hid (HM3.out.grown hg (fun h => by injection h with h; omega))
  have HB4 := Lib.hid (HB3.out.grown hg HB3.out.size (by intro z hz; injection hz with hz; omega))
  clear hR hg hC HM3 HB3 HR3
  have hC := Word_yes _ _ b 16 8 _ HR4.out (by simp [wordOk, isW]; have := H31.out; omega)
  rw [show Int.toNat 8 = 8 from rfl, show 16 + 8 = 24 from rfl] at hC
  obtain ⟨n2, hn⟩ : ∃ n : Nat, n = num ((b.drop 16).take 8) := ⟨_, rfl⟩
  rw [← hn] at hC
  have HN2 := Lib.hid hn
  clear hn
  go_wp2_with fail
  refine hC.mono ?_
  rintro e w5 ⟨rfl, hR, hg⟩
  have HR5 : Hid (RR w5 (w.heap.size + 1) (.slice A b.length c) b 24 false) := Lib.hid hR
  have HM5 := Lib.hid (HM4.out.grown hg (fun h => by injection h with h; omega))
  have HB5 := Lib.hid (HB4.out.grown hg HB4.out.size (by intro z hz; injection hz with hz; omega))
  clear hR hg hC HM4 HB4 HR4
  have hC := Word_yes _ _ b 24 1 _ HR5.out (by simp [wordOk, isW]; have := H31.out; omega)
  rw [show Int.toNat 1 = 1 from rfl, show 24 + 1 = 25 from rfl] at hC
  have hn3 : num ((b.drop 24).take 1) < 256 := Nat.lt_of_lt_of_le (num_lt _) (by rw [List.length_take]; exact Nat.pow_le_pow_right (by omega) (Nat.min_le_left _ _))
  obtain ⟨n3, hn⟩ : ∃ n : Nat, n = num ((b.drop 24).take 1) := ⟨_, rfl⟩
  rw [← hn] at hC hn3
  have HN3 := Lib.hid hn
  clear hn
  go_wp2_with fail
  refine hC.mono ?_
  rintro e w6 ⟨rfl, hR, hg⟩
  have HR6 : Hid (RR w6 (w.heap.size + 1) (.slice A b.length c) b 25 false) := Lib.hid hR
  have HM6 := Lib.hid (HM5.out.grown hg (fun h => by injection h with h; omega))
  have HB6 := Lib.hid (HB5.out.grown hg HB5.out.size (by intro z hz; injection hz with hz; omega))
  clear hR hg hC HM5 HB5 HR5
  have hC := Word_yes _ _ b 25 2 _ HR6.out (by simp [wordOk, isW]; have := H31.out; omega)
  rw [show Int.toNat 2 = 2 from rfl, show 25 + 2 = 27 from rfl] at hC
  have hn4 : num ((b.drop 25).take 2) < 65536 := Nat.lt_of_lt_of_le (num_lt _) (by rw [List.length_take]; exact Nat.pow_le_pow_right (by omega) (Nat.min_le_left _ _))
  obtain ⟨n4, hn⟩ : ∃ n : Nat, n = num ((b.drop 25).take 2) := ⟨_, rfl⟩
  rw [← hn] at hC hn4
  have HN4 := Lib.hid hn
  clear hn
  go_wp2_with fail
  refine hC.mono ?_
  rintro e w7 ⟨rfl, hR, hg⟩
  have HR7 : Hid (RR w7 (w.heap.size + 1) (.slice A b.length c) b 27 false) := Lib.hid hR
  have HM7 := Lib.hid (HM6.out.grown hg (fun h => by injection h with h; omega))
  have HB7 := Lib.hid (HB6.out.grown hg HB6.out.size (by intro z hz; injection hz with hz; omega))
  clear hR hg hC HM6 HB6 HR6
  have hC := Word_yes _ _ b 27 4 _ HR7.out (by simp [wordOk, isW]; have := H31.out; omega)
  rw [show Int.toNat 4 = 4 from rfl, show 27 + 4 = 31 from rfl] at hC
  have hn5 : num ((b.drop 27).take 4) < 4294967296 := Nat.lt_of_lt_of_le (num_lt _) (by rw [List.length_take]; exact Nat.pow_le_pow_right (by omega) (Nat.min_le_left _ _))
  obtain ⟨n5, hn⟩ : ∃ n : Nat, n = num ((b.drop 27).take 4) := ⟨_, rfl⟩
  rw [← hn] at hC hn5
  have HN5 := Lib.hid hn
  clear hn
  go_wp2_with fail
  refine hC.mono ?_
  rintro e w8 ⟨rfl, hR, hg⟩
  have HR8 : Hid (RR w8 (w.heap.size + 1) (.slice A b.length c) b 31 false) := Lib.hid hR
  have HM8 := Lib.hid (HM7.out.grown hg (fun h => by injection h with h; omega))
  have HB8 := Lib.hid (HB7.out.grown hg HB7.out.size (by intro z hz; injection hz with hz; omega))
  clear hR hg hC HM7 HB7 HR7
  have hw3 : wrap64 (n3 : Int) = (n3 : Int) := IntWalk.wrap64_in _ ⟨by omega, by omega⟩
  have hw4 : wrap64 (n4 : Int) = (n4 : Int) := IntWalk.wrap64_in _ ⟨by omega, by omega⟩
  have hw5 : wrap64 (n5 : Int) = (n5 : Int) := IntWalk.wrap64_in _ ⟨by omega, by omega⟩
  have HME : Hid (meAt b = ⟨(n0 : Int), (n3 : Int), wrap64 (n1 : Int), wrap64 (n2 : Int), (n4 : Int), (n5 : Int)⟩) := Lib.hid (by
    simp only [meAt]
    rw [HN0.out, HN1.out, HN2.out, HN3.out, HN4.out, HN5.out])
  have hMay := fun u => MMay_any ⟨(n0 : Int), (n3 : Int), wrap64 (n1 : Int), wrap64 (n2 : Int), (n4 : Int), (n5 : Int)⟩ (okMe n0 n1 n2 n3 n4 n5 (by rw [HN0.out]; exact num_lt8 _ (by simp; omega)) hn3 hn4 hn5) u
  simp only [meV] at hMay
  have HMB : Hid (meB (meAt b) = meB ⟨(n0 : Int), (n3 : Int), wrap64 (n1 : Int), wrap64 (n2 : Int), (n4 : Int), (n5 : Int)⟩) := Lib.hid (by rw [HME.out])
  generalize meB ⟨(n0 : Int), (n3 : Int), wrap64 (n1 : Int), wrap64 (n2 : Int), (n4 : Int), (n5 : Int)⟩ = mb at *
  have HM9 := Lib.hid (HM8.out.alloc (.cells #[.int .u64 (n0 : Int), .int .i64 (n3 : Int), .int .i64 (wrap64 (n1 : Int)), .int .i64 (wrap64 (n2 : Int)), .int .i64 (n4 : Int), .int .i64 (n5 : Int)] 30))
  have HK9 := Lib.hid (Blk.new w8 30 #[.int .u64 (n0 : Int), .int .i64 (n3 : Int), .int .i64 (wrap64 (n1 : Int)), .int .i64 (wrap64 (n2 : Int)), .int .i64 (n4 : Int), .int .i64 (n5 : Int)])
  have HB9 := Lib.hid (HB8.out.alloc HB8.out.size (.cells #[.int .u64 (n0 : Int), .int .i64 (n3 : Int), .int .i64 (wrap64 (n1 : Int)), .int .i64 (wrap64 (n2 : Int)), .int .i64 (n4 : Int), .int .i64 (n5 : Int)] 30))
  clear HM8 HB8
  have j0 := HK9.out.cell 0
  have j1 := HK9.out.cell 1
  have j2 := HK9.out.cell 2
  have j3 := HK9.out.cell 3
  have j4 := HK9.out.cell 4
  have j5 := HK9.out.cell 5
  go_wp2_with fail
  refine (hMay _).mono ?_
  rintro e w10 ⟨rfl, hb10⟩
  have HM10 := Lib.hid (HM9.out.below hb10 HM9.out.lt)
  have HK10 := Lib.hid (HK9.out.below hb10 HK9.out.lt)
  have HB10 := Lib.hid (HB9.out.trans (hb10.mono HB9.out.size))
  clear hb10 hMay j0 j1 j2 j3 j4 j5
  clear HM9 HK9 HB9
  have j0 := HK10.out.cell 0
  have j1 := HK10.out.cell 1
  have j2 := HK10.out.cell 2
  have j3 := HK10.out.cell 3
  have j4 := HK10.out.cell 4
  have j5 := HK10.out.cell 5
  have hfz := fun j => HM10.out.frozen j
  have k0 := HM10.out.cell 0
  have k1 := HM10.out.cell 1
  have k2 := HM10.out.cell 2
  have k3 := HM10.out.cell 3
  have k4 := HM10.out.cell 4
  have k5 := HM10.out.cell 5
  go_wp2_with fail
  have hm2 := setall6 w.heap.size HM10.out (.int .u64 (n0 : Int)) (.int .i64 (n3 : Int)) (.int .i64 (wrap64 (n1 : Int))) (.int .i64 (wrap64 (n2 : Int))) (.int .i64 (n4 : Int)) (.int .i64 (n5 : Int))
  have hg2 : w10.grownBy ((((((w10.setCell ⟨w.heap.size, 0, none⟩ (.int .u64 (n0 : Int))).setCell ⟨w.heap.size, 1, none⟩ (.int .i64 (n3 : Int))).setCell ⟨w.heap.size, 2, none⟩ (.int .i64 (wrap64 (n1 : Int)))).setCell ⟨w.heap.size, 3, none⟩ (.int .i64 (wrap64 (n2 : Int)))).setCell ⟨w.heap.size, 4, none⟩ (.int .i64 (n4 : Int))).setCell ⟨w.heap.size, 5, none⟩ (.int .i64 (n5 : Int))) (some w.heap.size) := gset6 _ _ _ _ _ _ _ _
  rw [HMB.out, HME.out]
  refine bodyPost_ret (v := .tuple #[.agg #[.int .u64 (n0 : Int), .int .i64 (n3 : Int), .int .i64 (wrap64 (n1 : Int)), .int .i64 (wrap64 (n2 : Int)), .int .i64 (n4 : Int), .int .i64 (n5 : Int)], .bool mb]) (by have c := hm2.cell; simp [results, go_sem, c]; try rfl) rfl ?_
  exact ⟨rfl, HB10.out.grown hg2 HB10.out.size (by intro z hz; injection hz with hz; omega)⟩

theorem Told_any {b : List UInt8} {v : Value} (w : World) (hv : Bs w v b) (_ : b.length ≤ 140737488355328) :
    Calls Tryz.prog 111 #[v] w fun e w' => ∃ m ok, e = .returned (.tuple #[meV m, .bool ok]) ∧ meOf b = (if ok then (0, m) else (2, Me.zero)) ∧ Below w.heap.size w w' := by
  by_cases h31 : b.length = 31
  · refine (Told_yes w hv h31).mono fun e w' ⟨he, hb⟩ => ⟨_, _, he, ?_, hb⟩
    cases hm : meB (meAt b) with
    | true => rw [meOf, if_pos ⟨h31, hm⟩]; rfl
    | false => rw [meOf, if_neg (fun h => by rw [hm] at h; exact Bool.false_ne_true h.2)]; rfl
  · refine (Told_no w hv h31).mono fun e w' ⟨he, hb⟩ => ⟨_, _, he, ?_, hb⟩
    rw [meOf, if_neg (fun h => h31 h.1)]
    rfl

theorem Meta_short {x : List UInt8} {v : Value} (w : World) (hv : Bs w v x) (hl : x.length < 4) :
    Calls Tryz.prog 80 #[v] w fun e w' => e = .returned (.tuple #[meV Me.zero, .int .i64 2]) ∧ Below w.heap.size w w' := by
  have hb0 : Below w.heap.size w (w.alloc (.cells #[.int .u64 0, .int .i64 0, .int .i64 0, .int .i64 0, .int .i64 0, .int .i64 0] 30)) := (Below.refl _ _).alloc (Nat.le_refl _) _
  have hm0 := Blk.new w 30 #[.int .u64 0, .int .i64 0, .int .i64 0, .int .i64 0, .int .i64 0, .int .i64 0]
  go_enter Tryz.func80, Tryz.ntmps80
  go_wp2_with fail
  refine (Open_short x v _ hl (hv.alloc _)).mono ?_
  rintro e w1 ⟨rfl, rfl⟩
  go_wp2_with fail
  refine bodyPost_ret (v := .tuple #[.agg #[.int .u64 0, .int .i64 0, .int .i64 0, .int .i64 0, .int .i64 0, .int .i64 0], .int .i64 2]) (by have c := hm0.cell; simp [results, go_sem, c]; try rfl) rfl ?_
  exact ⟨rfl, hb0⟩

set_option maxHeartbeats 1600000 in
theorem Meta_sum {x : List UInt8} {v : Value} (w : World) (hv : Bs w v x) (h4 : 4 ≤ x.length) (hl : x.length ≤ 140737488355320) (hs : tailOf x ≠ crcOf (bodyOf x)) :
    Calls Tryz.prog 80 #[v] w fun e w' => e = .returned (.tuple #[meV Me.zero, .int .i64 7]) ∧ Below w.heap.size w w' := by
  have hb0 : Below w.heap.size w (w.alloc (.cells #[.int .u64 0, .int .i64 0, .int .i64 0, .int .i64 0, .int .i64 0, .int .i64 0] 30)) := (Below.refl _ _).alloc (Nat.le_refl _) _
  have hm0 := Blk.new w 30 #[.int .u64 0, .int .i64 0, .int .i64 0, .int .i64 0, .int .i64 0, .int .i64 0]
  have HS := Lib.hid hs
  have hO := Open_long x v (w.alloc (.cells #[.int .u64 0, .int .i64 0, .int .i64 0, .int .i64 0, .int .i64 0, .int .i64 0] 30)) h4 (by omega) (hv.alloc _)
  have HM := Lib.hid hm0
  have HB := Lib.hid hb0
  clear hs hl h4 hm0 hb0
  go_enter Tryz.func80, Tryz.ntmps80
  go_wp2_with fail
  refine hO.mono ?_
  rintro e w1 ⟨y, f, rfl, hOp, hb1⟩
  obtain ⟨rfl, rfl⟩ := hOp.no HS.out
  have HM1 := Lib.hid (HM.out.below hb1 (by simp))
  have HB1 := Lib.hid (HB.out.trans (hb1.mono (by simp)))
  clear hO hOp hb1 HB HM
  have hfz := fun j => HM1.out.frozen j
  have k0 := HM1.out.cell 0
  have k1 := HM1.out.cell 1
  have k2 := HM1.out.cell 2
  have k3 := HM1.out.cell 3
  have k4 := HM1.out.cell 4
  have k5 := HM1.out.cell 5
  go_wp2_with fail
  have hm2 := setall6 w.heap.size HM1.out (.int .u64 0) (.int .i64 0) (.int .i64 0) (.int .i64 0) (.int .i64 0) (.int .i64 0)
  have hg2 : World.grownBy w1 ((((((w1.setCell ⟨w.heap.size, 0, none⟩ (.int .u64 0)).setCell ⟨w.heap.size, 1, none⟩ (.int .i64 0)).setCell ⟨w.heap.size, 2, none⟩ (.int .i64 0)).setCell ⟨w.heap.size, 3, none⟩ (.int .i64 0)).setCell ⟨w.heap.size, 4, none⟩ (.int .i64 0)).setCell ⟨w.heap.size, 5, none⟩ (.int .i64 0)) (some w.heap.size) := gset6 _ _ _ _ _ _ _ _
  refine bodyPost_ret (v := .tuple #[.agg #[.int .u64 0, .int .i64 0, .int .i64 0, .int .i64 0, .int .i64 0, .int .i64 0], .int .i64 7]) (by have c := hm2.cell; simp [results, go_sem, c]; try rfl) rfl ?_
  exact ⟨rfl, HB1.out.grown hg2 HB1.out.size (by intro z hz; injection hz with hz; omega)⟩

set_option maxHeartbeats 1600000 in
theorem Meta_body {x : List UInt8} {v : Value} (w : World) (hv : Bs w v x) (h4 : 4 ≤ x.length) (hl : x.length ≤ 140737488355320) (hs : tailOf x = crcOf (bodyOf x)) :
    Calls Tryz.prog 80 #[v] w fun e w' => e = .returned (.tuple #[meV (meOf (bodyOf x)).2, .int .i64 (meOf (bodyOf x)).1]) ∧ Below w.heap.size w w' := by
  have hb0 : Below w.heap.size w (w.alloc (.cells #[.int .u64 0, .int .i64 0, .int .i64 0, .int .i64 0, .int .i64 0, .int .i64 0] 30)) := (Below.refl _ _).alloc (Nat.le_refl _) _
  have hm0 := Blk.new w 30 #[.int .u64 0, .int .i64 0, .int .i64 0, .int .i64 0, .int .i64 0, .int .i64 0]
  have HS := Lib.hid hs
  have hO := Open_long x v (w.alloc (.cells #[.int .u64 0, .int .i64 0, .int .i64 0, .int .i64 0, .int .i64 0, .int .i64 0] 30)) h4 (by omega) (hv.alloc _)
  have HM := Lib.hid hm0
  have HB := Lib.hid hb0
  have HLen : Hid ((bodyOf x).length ≤ 140737488355328) := Lib.hid (by rw [bodyOf_length]; omega)
  clear hs hl h4 hm0 hb0
  go_enter Tryz.func80, Tryz.ntmps80
  go_wp2_with fail
  refine hO.mono ?_
  rintro e w1 ⟨y, f, rfl, hOp, hb1⟩
  obtain ⟨rfl, hoy⟩ := hOp.yes HS.out
  have HM1 := Lib.hid (HM.out.below hb1 (by simp))
  have HB1 := Lib.hid (HB.out.trans (hb1.mono (by simp)))
  clear hO hOp hb1 HB HM
  go_wp2_with fail
  refine (Told_any w1 hoy HLen.out).mono ?_
  rintro e w2 ⟨m, ok, rfl, hof, hb2⟩
  have HOF := Lib.hid hof
  have HM2 := Lib.hid (HM1.out.below hb2 HM1.out.lt)
  have HB2 := Lib.hid (HB1.out.trans (hb2.mono HB1.out.size))
  clear hof hb2 HM1 HB1 hoy
  obtain ⟨m0, m1, m2, m3, m4, m5⟩ := m
  simp only [meV]
  have HM3 := Lib.hid (HM2.out.alloc (.cells #[.int .u64 m0, .int .i64 m1, .int .i64 m2, .int .i64 m3, .int .i64 m4, .int .i64 m5] 30))
  have HK3 := Lib.hid (Blk.new w2 30 #[.int .u64 m0, .int .i64 m1, .int .i64 m2, .int .i64 m3, .int .i64 m4, .int .i64 m5])
  have HB3 := Lib.hid (HB2.out.alloc HB2.out.size (.cells #[.int .u64 m0, .int .i64 m1, .int .i64 m2, .int .i64 m3, .int .i64 m4, .int .i64 m5] 30))
  clear HM2 HB2
  have hfz := fun j => HM3.out.frozen j
  have k0 := HM3.out.cell 0
  have k1 := HM3.out.cell 1
  have k2 := HM3.out.cell 2
  have k3 := HM3.out.cell 3
  have k4 := HM3.out.cell 4
  have k5 := HM3.out.cell 5
  have j0 := HK3.out.cell 0
  have j1 := HK3.out.cell 1
  have j2 := HK3.out.cell 2
  have j3 := HK3.out.cell 3
  have j4 := HK3.out.cell 4
  have j5 := HK3.out.cell 5
  cases ok with
  | true =>
    have HE : Hid (meOf (bodyOf x) = (0, ⟨m0, m1, m2, m3, m4, m5⟩)) := Lib.hid HOF.out
    go_wp2_with fail
    rw [HE.out]
    have hm2 := setall6 w.heap.size HM3.out (.int .u64 m0) (.int .i64 m1) (.int .i64 m2) (.int .i64 m3) (.int .i64 m4) (.int .i64 m5)
    have hg2 : World.grownBy (w2.alloc (.cells #[.int .u64 m0, .int .i64 m1, .int .i64 m2, .int .i64 m3, .int .i64 m4, .int .i64 m5] 30)) (((((((w2.alloc (.cells #[.int .u64 m0, .int .i64 m1, .int .i64 m2, .int .i64 m3, .int .i64 m4, .int .i64 m5] 30)).setCell ⟨w.heap.size, 0, none⟩ (.int .u64 m0)).setCell ⟨w.heap.size, 1, none⟩ (.int .i64 m1)).setCell ⟨w.heap.size, 2, none⟩ (.int .i64 m2)).setCell ⟨w.heap.size, 3, none⟩ (.int .i64 m3)).setCell ⟨w.heap.size, 4, none⟩ (.int .i64 m4)).setCell ⟨w.heap.size, 5, none⟩ (.int .i64 m5)) (some w.heap.size) := gset6 _ _ _ _ _ _ _ _
    refine bodyPost_ret (v := .tuple #[.agg #[.int .u64 m0, .int .i64 m1, .int .i64 m2, .int .i64 m3, .int .i64 m4, .int .i64 m5], .int .i64 0]) (by have c := hm2.cell; simp [results, go_sem, c]; try rfl) rfl ?_
    exact ⟨rfl, HB3.out.grown hg2 HB3.out.size (by intro z hz; injection hz with hz; omega)⟩
  | false =>
    have HE : Hid (meOf (bodyOf x) = (2, Me.zero)) := Lib.hid HOF.out
    go_wp2_with fail
    rw [HE.out]
    have hm2 := setall6 w.heap.size HM3.out (.int .u64 0) (.int .i64 0) (.int .i64 0) (.int .i64 0) (.int .i64 0) (.int .i64 0)
    have hg2 : World.grownBy (w2.alloc (.cells #[.int .u64 m0, .int .i64 m1, .int .i64 m2, .int .i64 m3, .int .i64 m4, .int .i64 m5] 30)) (((((((w2.alloc (.cells #[.int .u64 m0, .int .i64 m1, .int .i64 m2, .int .i64 m3, .int .i64 m4, .int .i64 m5] 30)).setCell ⟨w.heap.size, 0, none⟩ (.int .u64 0)).setCell ⟨w.heap.size, 1, none⟩ (.int .i64 0)).setCell ⟨w.heap.size, 2, none⟩ (.int .i64 0)).setCell ⟨w.heap.size, 3, none⟩ (.int .i64 0)).setCell ⟨w.heap.size, 4, none⟩ (.int .i64 0)).setCell ⟨w.heap.size, 5, none⟩ (.int .i64 0)) (some w.heap.size) := gset6 _ _ _ _ _ _ _ _
    refine bodyPost_ret (v := .tuple #[.agg #[.int .u64 0, .int .i64 0, .int .i64 0, .int .i64 0, .int .i64 0, .int .i64 0], .int .i64 2]) (by have c := hm2.cell; simp [results, go_sem, c]; try rfl) rfl ?_
    exact ⟨rfl, HB3.out.grown hg2 HB3.out.size (by intro z hz; injection hz with hz; omega)⟩

theorem Meta_any {x : List UInt8} {v : Value} (w : World) (hv : Bs w v x) (hl : x.length ≤ 140737488355320) :
    Calls Tryz.prog 80 #[v] w fun e w' => e = .returned (.tuple #[meV (meX x).2, .int .i64 (meX x).1]) ∧ Below w.heap.size w w' := by
  by_cases h4 : x.length < 4
  · rw [meX, if_pos h4]
    exact Meta_short w hv h4
  · by_cases hs : tailOf x = crcOf (bodyOf x)
    · rw [meX, if_neg h4, if_pos hs]
      exact Meta_body w hv (by omega) hl hs
    · rw [meX, if_neg h4, if_neg hs]
      exact Meta_sum w hv (by omega) hl hs

end Go.Proofs.YtnghpcfdgjkokaaGreatDoor

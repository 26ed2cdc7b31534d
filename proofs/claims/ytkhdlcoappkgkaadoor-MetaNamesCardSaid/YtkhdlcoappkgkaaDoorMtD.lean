/-
  CONTRACTS of the program's isWhole, Get and Marked. Conditions: what each says.
-/
import Derived.Test.YtkhdlcoappkgkaaDoorMtB
import Derived.Test.YtkhdlcoappkgkaaDoorCode
import Derived.Test.YtkhdlcoappkgkaaDoorWordH
namespace Go.Proofs.YtkhdlcoappkgkaaDoor
open Go.RowKit
set_option maxRecDepth 100000

/-- all was read, and there was no more -/
def wholeB (l : List UInt8) (p : Nat) (bad : Bool) : Bool := !bad && decide (p = l.length)
theorem whole_any (g : Nat) (v : Value) (l : List UInt8) (p : Nat) (bad : Bool) (w : World) (h : WR w g v l p bad) :
    Calls Tryd.prog 34 #[.pointer (some ⟨g, 0, none⟩)] w fun e w' => e = .returned (.bool (wholeB l p bad)) ∧ Below w.heap.size w w' := by
  have hBad := bad_any g v l p bad w h
  have hle := h.le
  cases bad with
  | true =>
    simp only [if_true] at hBad
    go_enter Tryd.func34, Tryd.ntmps34
    go_wp2_with fail
    refine hBad.mono ?_
    rintro e w4 ⟨rfl, rfl⟩
    go_wp2_with fail
    go_ret
    exact ⟨ret_bool (by simp [wholeB]), Below.refl _ _⟩
  | false =>
    have hLeft := left_any g v l p false w h
    simp only [if_neg Bool.false_ne_true] at hBad
    have e : ((l.length : Int) - p == 0) = decide (p = l.length) := by
      rw [Bool.eq_iff_iff]
      simp
      omega
    clear h
    go_enter Tryd.func34, Tryd.ntmps34
    go_wp2_with fail
    refine hBad.mono ?_
    rintro e w4 ⟨rfl, rfl⟩
    go_wp2_with fail
    refine hLeft.mono ?_
    rintro e w4 ⟨rfl, m, rfl⟩
    go_wp2_with fail
    go_ret
    exact ⟨ret_bool (by simp [wholeB]), below_drewN (Below.refl _ _) _⟩

/-- what is read behind what was read -/
def rdS (l : List UInt8) (s : Nat × Bool) (k : Int) : Nat × Bool := (wNext l s.1 s.2 k, !wordOk l s.1 s.2 k)
theorem rdS_bad (l : List UInt8) (p : Nat) (k : Int) : rdS l (p, true) k = (p, true) := by simp [rdS, wNext, wordOk]
theorem rdS_yes (l : List UInt8) (p : Nat) (k : Int) (hk : isW k = true) (h : p + k.toNat ≤ l.length) (h0 : 0 ≤ k) : rdS l (p, false) k = (p + k.toNat, false) := by
  have : wordOk l p false k = true := by simp [wordOk, hk]; omega
  simp [rdS, wNext, this]
theorem rdS_no (l : List UInt8) (p : Nat) (k : Int) (h : (l.length : Int) < p + k) : rdS l (p, false) k = (p, true) := by
  have : wordOk l p false k = false := by simp [wordOk]; omega
  simp [rdS, wNext, this]
/-- the widths one behind the other: all were read, and there was no more, just where there were so many bytes -/
theorem rdS_whole (l : List UInt8) : ∀ (ks : List Int) (p : Nat), p ≤ l.length → (∀ k ∈ ks, isW k = true) → wholeB l (ks.foldl (rdS l) (p, false)).1 (ks.foldl (rdS l) (p, false)).2 = decide (p + (ks.map (·.toNat)).sum = l.length)
  | [], p, _, _ => by
    show (!false && decide (p = l.length)) = decide (p + 0 = l.length)
    rfl
  | k :: ks, p, hp, h => by
    have hk := h k (by simp)
    have h0 : 0 ≤ k := by rcases isW_cases hk with rfl | rfl | rfl | rfl <;> omega
    rw [List.foldl_cons]
    by_cases hl : p + k.toNat ≤ l.length
    · rw [rdS_yes l p k hk hl h0, rdS_whole l ks (p + k.toNat) hl fun k' hk' => h k' (by simp [hk'])]
      simp [Nat.add_assoc]
    · rw [rdS_no l p k (by omega)]
      have hb : ∀ (ks : List Int), ks.foldl (rdS l) (p, true) = (p, true) := by
        intro ks
        induction ks with
        | nil => rfl
        | cons k ks ih => rw [List.foldl_cons, rdS_bad, ih]
      rw [hb]
      have : ¬ p + ((k :: ks).map (·.toNat)).sum = l.length := by simp; omega
      simp only [wholeB, Bool.not_true, Bool.false_and, this, decide_false]

/-- all cells of a block, written anew -/
theorem setall6 {w : World} (g : Nat) {t : TypeId} {a0 a1 a2 a3 a4 a5 : Value} (h : Blk w g t #[a0, a1, a2, a3, a4, a5]) (b0 b1 b2 b3 b4 b5 : Value) :
    Blk ((((((w.setCell ⟨g, 0, none⟩ b0).setCell ⟨g, 1, none⟩ b1).setCell ⟨g, 2, none⟩ b2).setCell ⟨g, 3, none⟩ b3).setCell ⟨g, 4, none⟩ b4).setCell ⟨g, 5, none⟩ b5) g t #[b0, b1, b2, b3, b4, b5] := by
  have := (((((h.set_ 0 b0).set_ 1 b1).set_ 2 b2).set_ 3 b3).set_ 4 b4).set_ 5 b5
  simpa using this
theorem setall3 {w : World} (g : Nat) {t : TypeId} {a0 a1 a2 : Value} (h : Blk w g t #[a0, a1, a2]) (b0 b1 b2 : Value) :
    Blk (((w.setCell ⟨g, 0, none⟩ b0).setCell ⟨g, 1, none⟩ b1).setCell ⟨g, 2, none⟩ b2) g t #[b0, b1, b2] := by
  have := ((h.set_ 0 b0).set_ 1 b1).set_ 2 b2
  simpa using this
theorem gset3 (w : World) (g : Nat) (b0 b1 b2 : Value) : w.grownBy (((w.setCell ⟨g, 0, none⟩ b0).setCell ⟨g, 1, none⟩ b1).setCell ⟨g, 2, none⟩ b2) (some g) :=
  grown_trans (grown_trans (grown_set _ _ _ _) (grown_set _ _ _ _)) (grown_set _ _ _ _)
theorem gset6 (w : World) (g : Nat) (b0 b1 b2 b3 b4 b5 : Value) : w.grownBy ((((((w.setCell ⟨g, 0, none⟩ b0).setCell ⟨g, 1, none⟩ b1).setCell ⟨g, 2, none⟩ b2).setCell ⟨g, 3, none⟩ b3).setCell ⟨g, 4, none⟩ b4).setCell ⟨g, 5, none⟩ b5) (some g) :=
  grown_trans (gset3 w g b0 b1 b2) (grown_trans (grown_trans (grown_set _ _ _ _) (grown_set _ _ _ _)) (grown_set _ _ _ _))

theorem wrap64_range (n : Int) : -9223372036854775808 ≤ wrap64 n ∧ wrap64 n ≤ 9223372036854775807 := by
  unfold wrap64
  omega
theorem okMe (n0 n1 n2 n3 n4 n5 : Nat) (h0 : n0 < 18446744073709551616) (h3 : n3 < 256) (h4 : n4 < 65536) (h5 : n5 < 4294967296) : Me.ok ⟨(n0 : Int), (n3 : Int), wrap64 (n1 : Int), wrap64 (n2 : Int), (n4 : Int), (n5 : Int)⟩ := by
  have h1 := wrap64_range n1
  have h2 := wrap64_range n2
  constructor <;> (simp only; omega)
theorem okMk (n0 n1 n2 : Nat) (h0 : n0 < 18446744073709551616) (h2 : n2 < 18446744073709551616) : Mk.ok ⟨(n0 : Int), wrap64 (n1 : Int), (n2 : Int)⟩ := by
  have h1 := wrap64_range n1
  constructor <;> (simp only; omega)

theorem mget_short {x : List UInt8} {v : Value} (w : World) (hv : Bs w v x) (hl : x.length < 4) :
    Calls Tryd.prog 17 #[v] w fun e w' => e = .returned (.tuple #[meV Me.zero, code 2]) ∧ Below w.heap.size w w' := by
  have hb0 : Below w.heap.size w (w.alloc (.cells #[.int .u64 0, .int .i64 0, .int .i64 0, .int .i64 0, .int .i64 0, .int .i64 0] 24)) := (Below.refl _ _).alloc (Nat.le_refl _) _
  have hm0 := Blk.new w 24 #[.int .u64 0, .int .i64 0, .int .i64 0, .int .i64 0, .int .i64 0, .int .i64 0]
  go_enter Tryd.func17, Tryd.ntmps17
  go_wp2_with fail
  refine (open_short x v _ hl (hv.alloc _)).mono ?_
  rintro e w1 ⟨rfl, rfl⟩
  go_wp2_with fail
  refine bodyPost_ret (v := .tuple #[.agg #[.int .u64 0, .int .i64 0, .int .i64 0, .int .i64 0, .int .i64 0, .int .i64 0], code 2]) (by have c := hm0.cell; simp [results, go_sem, c]; try rfl) rfl ?_
  exact ⟨rfl, hb0⟩

set_option maxHeartbeats 800000 in
theorem mget_sum {x : List UInt8} {v : Value} (w : World) (hv : Bs w v x) (h4 : 4 ≤ x.length) (hl : x.length ≤ 140737488355320) (hs : tailOf x ≠ crcOf (bodyOf x)) :
    Calls Tryd.prog 17 #[v] w fun e w' => e = .returned (.tuple #[meV Me.zero, code 7]) ∧ Below w.heap.size w w' := by
  have hb0 : Below w.heap.size w (w.alloc (.cells #[.int .u64 0, .int .i64 0, .int .i64 0, .int .i64 0, .int .i64 0, .int .i64 0] 24)) := (Below.refl _ _).alloc (Nat.le_refl _) _
  have hm0 := Blk.new w 24 #[.int .u64 0, .int .i64 0, .int .i64 0, .int .i64 0, .int .i64 0, .int .i64 0]
  have HS := Lib.hid hs
  have hO := open_long x v (w.alloc (.cells #[.int .u64 0, .int .i64 0, .int .i64 0, .int .i64 0, .int .i64 0, .int .i64 0] 24)) h4 (by omega) (hv.alloc _)
  have HM := Lib.hid hm0
  have HB := Lib.hid hb0
  clear hs hl h4 hm0 hb0
  go_enter Tryd.func17, Tryd.ntmps17
  go_wp2_with fail
  refine hO.mono ?_
  rintro e w1 ⟨y, f, rfl, hOp, hb1⟩
  obtain ⟨rfl, rfl⟩ := hOp.no HS.out
  have hm1 := HM.out.below hb1 (by simp)
  have HB1 := Lib.hid (HB.out.trans (hb1.mono (by simp)))
  have hfz := fun j => hm1.frozen j
  have k0 := hm1.cell 0
  have k1 := hm1.cell 1
  have k2 := hm1.cell 2
  have k3 := hm1.cell 3
  have k4 := hm1.cell 4
  have k5 := hm1.cell 5
  clear hO hOp hb1 HB
  go_wp2_with fail
  have hm2 := setall6 w.heap.size hm1 (.int .u64 0) (.int .i64 0) (.int .i64 0) (.int .i64 0) (.int .i64 0) (.int .i64 0)
  have hg2 : w1.grownBy ((((((w1.setCell ⟨w.heap.size, 0, none⟩ (.int .u64 0)).setCell ⟨w.heap.size, 1, none⟩ (.int .i64 0)).setCell ⟨w.heap.size, 2, none⟩ (.int .i64 0)).setCell ⟨w.heap.size, 3, none⟩ (.int .i64 0)).setCell ⟨w.heap.size, 4, none⟩ (.int .i64 0)).setCell ⟨w.heap.size, 5, none⟩ (.int .i64 0)) (some w.heap.size) := gset6 _ _ _ _ _ _ _ _
  refine bodyPost_ret (v := .tuple #[.agg #[.int .u64 0, .int .i64 0, .int .i64 0, .int .i64 0, .int .i64 0, .int .i64 0], code 7]) (by have c := hm2.cell; simp [results, go_sem, c]; try rfl) rfl ?_
  exact ⟨rfl, HB1.out.grown hg2 HB1.out.size (by intro z hz; injection hz with hz; omega)⟩

set_option maxHeartbeats 3200000 in
theorem mget_len {x : List UInt8} {v : Value} (w : World) (hv : Bs w v x) (h4 : 4 ≤ x.length) (hl : x.length ≤ 140737488355320) (hs : tailOf x = crcOf (bodyOf x)) (h31 : (bodyOf x).length ≠ 31) :
    Calls Tryd.prog 17 #[v] w fun e w' => e = .returned (.tuple #[meV Me.zero, code 2]) ∧ Below w.heap.size w w' := by
  have hb0 : Below w.heap.size w (w.alloc (.cells #[.int .u64 0, .int .i64 0, .int .i64 0, .int .i64 0, .int .i64 0, .int .i64 0] 24)) := (Below.refl _ _).alloc (Nat.le_refl _) _
  have hm0 := Blk.new w 24 #[.int .u64 0, .int .i64 0, .int .i64 0, .int .i64 0, .int .i64 0, .int .i64 0]
  have HS := Lib.hid hs
  have hO := open_long x v (w.alloc (.cells #[.int .u64 0, .int .i64 0, .int .i64 0, .int .i64 0, .int .i64 0, .int .i64 0] 24)) h4 (by omega) (hv.alloc _)
  have HM := Lib.hid hm0
  have HB := Lib.hid hb0
  have H31 := Lib.hid h31
  clear hs hl h4 hm0 hb0 h31
  go_enter Tryd.func17, Tryd.ntmps17
  go_wp2_with fail
  refine hO.mono ?_
  rintro e w1 ⟨y, f, rfl, hOp, hb1⟩
  obtain ⟨rfl, hoy⟩ := hOp.yes HS.out
  have HM1 := Lib.hid (HM.out.below hb1 (by simp))
  have HB1 := Lib.hid (HB.out.trans (hb1.mono (by simp)))
  have HOY := Lib.hid hoy.bs
  have HG : Hid (w.heap.size < w1.heap.size) := Lib.hid HM1.out.lt
  clear hO hOp hb1 hoy HB HM HS
  generalize hbx : bodyOf x = b at *
  have HBX := Lib.hid hbx
  clear hbx
  go_wp2_with fail
  refine (read_any y b w1 HOY.out).mono ?_
  rintro e w2 ⟨rfl, hR2, hb2⟩
  have HR2 : Hid (WR w2 w1.heap.size y b 0 false) := Lib.hid hR2
  have HM2 := Lib.hid (HM1.out.below hb2 HM1.out.lt)
  have HB2 := Lib.hid (HB1.out.trans (hb2.mono HB1.out.size))
  have HG2 : Hid (w1.heap.size < w2.heap.size) := Lib.hid hR2.blk.lt
  have HE : Hid (w.heap.size ≤ w1.heap.size) := Lib.hid HB1.out.size
  clear hR2 hb2 HM1 HB1 HOY
  have HW : Hid (wholeB b ((([8, 8, 8, 1, 2, 4] : List Int).foldl (rdS b) (0, false)).1) ((([8, 8, 8, 1, 2, 4] : List Int).foldl (rdS b) (0, false)).2) = false) := Lib.hid (by
    rw [rdS_whole b _ 0 (Nat.zero_le _) (by decide)]
    exact decide_eq_false fun h => H31.out (by simpa using h.symm))
  simp only [List.foldl_cons, List.foldl_nil] at HW
  obtain ⟨s0, hs0⟩ : ∃ s : Nat × Bool, s = (0, false) := ⟨_, rfl⟩
  rw [← hs0] at HW
  have HR2 : Hid (WR w2 w1.heap.size y b s0.1 s0.2) := Lib.hid (by rw [hs0]; exact HR2.out)
  clear hs0
  have hC := word_all _ y b s0.1 s0.2 8 _ HR2.out
  obtain ⟨s1, hs⟩ : ∃ s : Nat × Bool, s = rdS b s0 8 := ⟨_, rfl⟩
  rw [← hs] at HW
  have HSS := Lib.hid hs
  clear hs
  generalize wOut b s0.1 s0.2 8 = n0 at hC
  go_wp2_with fail
  refine hC.mono ?_
  rintro e w3 ⟨rfl, hR, hg⟩
  have HR3 : Hid (WR w3 w1.heap.size y b s1.1 s1.2) := Lib.hid (by rw [HSS.out]; exact hR)
  have HM3 := Lib.hid (HM2.out.grown hg (fun h => by injection h with h; have := HG.out; omega))
  have HB3 := Lib.hid (HB2.out.grown hg HB2.out.size (by intro z hz; injection hz with hz; have := HE.out; omega))
  clear hR hg hC HM2 HB2 HR2 HSS
  have hC := word_all _ y b s1.1 s1.2 8 _ HR3.out
  obtain ⟨s2, hs⟩ : ∃ s : Nat × Bool, s = rdS b s1 8 := ⟨_, rfl⟩
  rw [← hs] at HW
  have HSS := Lib.hid hs
  clear hs
  generalize wOut b s1.1 s1.2 8 = n1 at hC
  go_wp2_with fail
  refine hC.mono ?_
  rintro e w4 ⟨rfl, hR, hg⟩
  have HR4 : Hid (WR w4 w1.heap.size y b s2.1 s2.2) := Lib.hid (by rw [HSS.out]; exact hR)
  have HM4 := Lib.hid (HM3.out.grown hg (fun h => by injection h with h; have := HG.out; omega))
  have HB4 := Lib.hid (HB3.out.grown hg HB3.out.size (by intro z hz; injection hz with hz; have := HE.out; omega))
  clear hR hg hC HM3 HB3 HR3 HSS
  have hC := word_all _ y b s2.1 s2.2 8 _ HR4.out
  obtain ⟨s3, hs⟩ : ∃ s : Nat × Bool, s = rdS b s2 8 := ⟨_, rfl⟩
  rw [← hs] at HW
  have HSS := Lib.hid hs
  clear hs
  generalize wOut b s2.1 s2.2 8 = n2 at hC
  go_wp2_with fail
  refine hC.mono ?_
  rintro e w5 ⟨rfl, hR, hg⟩
  have HR5 : Hid (WR w5 w1.heap.size y b s3.1 s3.2) := Lib.hid (by rw [HSS.out]; exact hR)
  have HM5 := Lib.hid (HM4.out.grown hg (fun h => by injection h with h; have := HG.out; omega))
  have HB5 := Lib.hid (HB4.out.grown hg HB4.out.size (by intro z hz; injection hz with hz; have := HE.out; omega))
  clear hR hg hC HM4 HB4 HR4 HSS
  have hC := word_all _ y b s3.1 s3.2 1 _ HR5.out
  obtain ⟨s4, hs⟩ : ∃ s : Nat × Bool, s = rdS b s3 1 := ⟨_, rfl⟩
  rw [← hs] at HW
  have HSS := Lib.hid hs
  clear hs
  generalize wOut b s3.1 s3.2 1 = n3 at hC
  go_wp2_with fail
  refine hC.mono ?_
  rintro e w6 ⟨rfl, hR, hg⟩
  have HR6 : Hid (WR w6 w1.heap.size y b s4.1 s4.2) := Lib.hid (by rw [HSS.out]; exact hR)
  have HM6 := Lib.hid (HM5.out.grown hg (fun h => by injection h with h; have := HG.out; omega))
  have HB6 := Lib.hid (HB5.out.grown hg HB5.out.size (by intro z hz; injection hz with hz; have := HE.out; omega))
  clear hR hg hC HM5 HB5 HR5 HSS
  have hC := word_all _ y b s4.1 s4.2 2 _ HR6.out
  obtain ⟨s5, hs⟩ : ∃ s : Nat × Bool, s = rdS b s4 2 := ⟨_, rfl⟩
  rw [← hs] at HW
  have HSS := Lib.hid hs
  clear hs
  generalize wOut b s4.1 s4.2 2 = n4 at hC
  go_wp2_with fail
  refine hC.mono ?_
  rintro e w7 ⟨rfl, hR, hg⟩
  have HR7 : Hid (WR w7 w1.heap.size y b s5.1 s5.2) := Lib.hid (by rw [HSS.out]; exact hR)
  have HM7 := Lib.hid (HM6.out.grown hg (fun h => by injection h with h; have := HG.out; omega))
  have HB7 := Lib.hid (HB6.out.grown hg HB6.out.size (by intro z hz; injection hz with hz; have := HE.out; omega))
  clear hR hg hC HM6 HB6 HR6 HSS
  have hC := word_all _ y b s5.1 s5.2 4 _ HR7.out
  obtain ⟨s6, hs⟩ : ∃ s : Nat × Bool, s = rdS b s5 4 := ⟨_, rfl⟩
  rw [← hs] at HW
  have HSS := Lib.hid hs
  clear hs
  generalize wOut b s5.1 s5.2 4 = n5 at hC
  go_wp2_with fail
  refine hC.mono ?_
  rintro e w8 ⟨rfl, hR, hg⟩
  have HR8 : Hid (WR w8 w1.heap.size y b s6.1 s6.2) := Lib.hid (by rw [HSS.out]; exact hR)
  have HM8 := Lib.hid (HM7.out.grown hg (fun h => by injection h with h; have := HG.out; omega))
  have HB8 := Lib.hid (HB7.out.grown hg HB7.out.size (by intro z hz; injection hz with hz; have := HE.out; omega))
  clear hR hg hC HM7 HB7 HR7 HSS
  go_wp2_with fail
  refine (whole_any _ y b s6.1 s6.2 _ (HR8.out.alloc _)).mono ?_
  rintro e w9 ⟨rfl, hb9⟩
  have HB9' := HB8.out.alloc HB8.out.size (.cells #[.int .u64 (n0 : Int), .int .i64 (wrap64 (n3 : Int)), .int .i64 (wrap64 (n1 : Int)), .int .i64 (wrap64 (n2 : Int)), .int .i64 (wrap64 (n4 : Int)), .int .i64 (wrap64 (n5 : Int))] 24)
  have HM9 := Lib.hid ((HM8.out.alloc (.cells #[.int .u64 (n0 : Int), .int .i64 (wrap64 (n3 : Int)), .int .i64 (wrap64 (n1 : Int)), .int .i64 (wrap64 (n2 : Int)), .int .i64 (wrap64 (n4 : Int)), .int .i64 (wrap64 (n5 : Int))] 24)).below hb9 (HM8.out.alloc _).lt)
  have HK9 := Lib.hid ((Blk.new w8 24 #[.int .u64 (n0 : Int), .int .i64 (wrap64 (n3 : Int)), .int .i64 (wrap64 (n1 : Int)), .int .i64 (wrap64 (n2 : Int)), .int .i64 (wrap64 (n4 : Int)), .int .i64 (wrap64 (n5 : Int))]).below hb9 (by simp))
  have HB9 := Lib.hid (HB9'.trans (hb9.mono HB9'.size))
  clear hb9 HB9' HM8 HB8 HR8
  rw [HW.out]
  have hfz := fun j => HM9.out.frozen j
  have k0 := HM9.out.cell 0
  have k1 := HM9.out.cell 1
  have k2 := HM9.out.cell 2
  have k3 := HM9.out.cell 3
  have k4 := HM9.out.cell 4
  have k5 := HM9.out.cell 5
  go_wp2_with fail
  have hm2 := setall6 w.heap.size HM9.out (.int .u64 0) (.int .i64 0) (.int .i64 0) (.int .i64 0) (.int .i64 0) (.int .i64 0)
  have hg2 : w9.grownBy ((((((w9.setCell ⟨w.heap.size, 0, none⟩ (.int .u64 0)).setCell ⟨w.heap.size, 1, none⟩ (.int .i64 0)).setCell ⟨w.heap.size, 2, none⟩ (.int .i64 0)).setCell ⟨w.heap.size, 3, none⟩ (.int .i64 0)).setCell ⟨w.heap.size, 4, none⟩ (.int .i64 0)).setCell ⟨w.heap.size, 5, none⟩ (.int .i64 0)) (some w.heap.size) := gset6 _ _ _ _ _ _ _ _
  refine bodyPost_ret (v := .tuple #[.agg #[.int .u64 0, .int .i64 0, .int .i64 0, .int .i64 0, .int .i64 0, .int .i64 0], code 2]) (by have c := hm2.cell; simp [results, go_sem, c]; try rfl) rfl ?_
  exact ⟨rfl, HB9.out.grown hg2 HB9.out.size (by intro z hz; injection hz with hz; omega)⟩

set_option maxHeartbeats 3200000 in
theorem mget_may {x : List UInt8} {v : Value} (w : World) (hv : Bs w v x) (h4 : 4 ≤ x.length) (hl : x.length ≤ 140737488355320) (hs : tailOf x = crcOf (bodyOf x)) (h31 : (bodyOf x).length = 31) (hmay : meB (meAt (bodyOf x)) = true) :
    Calls Tryd.prog 17 #[v] w fun e w' => e = .returned (.tuple #[meV (meAt (bodyOf x)), .nilIface]) ∧ Below w.heap.size w w' := by
  have hb0 : Below w.heap.size w (w.alloc (.cells #[.int .u64 0, .int .i64 0, .int .i64 0, .int .i64 0, .int .i64 0, .int .i64 0] 24)) := (Below.refl _ _).alloc (Nat.le_refl _) _
  have hm0 := Blk.new w 24 #[.int .u64 0, .int .i64 0, .int .i64 0, .int .i64 0, .int .i64 0, .int .i64 0]
  have HS := Lib.hid hs
  have hO := open_long x v (w.alloc (.cells #[.int .u64 0, .int .i64 0, .int .i64 0, .int .i64 0, .int .i64 0, .int .i64 0] 24)) h4 (by omega) (hv.alloc _)
  have HM := Lib.hid hm0
  have HB := Lib.hid hb0
  have H31 := Lib.hid h31
  have HMAY := Lib.hid hmay
  clear hmay
  clear hs hl h4 hm0 hb0 h31
  go_enter Tryd.func17, Tryd.ntmps17
  go_wp2_with fail
  refine hO.mono ?_
  rintro e w1 ⟨y, f, rfl, hOp, hb1⟩
  obtain ⟨rfl, hoy⟩ := hOp.yes HS.out
  have HM1 := Lib.hid (HM.out.below hb1 (by simp))
  have HB1 := Lib.hid (HB.out.trans (hb1.mono (by simp)))
  have HOY := Lib.hid hoy.bs
  have HG : Hid (w.heap.size < w1.heap.size) := Lib.hid HM1.out.lt
  clear hO hOp hb1 hoy HB HM HS
  generalize hbx : bodyOf x = b at *
  have HBX := Lib.hid hbx
  clear hbx
  go_wp2_with fail
  refine (read_any y b w1 HOY.out).mono ?_
  rintro e w2 ⟨rfl, hR2, hb2⟩
  have HR2 : Hid (WR w2 w1.heap.size y b 0 false) := Lib.hid hR2
  have HM2 := Lib.hid (HM1.out.below hb2 HM1.out.lt)
  have HB2 := Lib.hid (HB1.out.trans (hb2.mono HB1.out.size))
  have HG2 : Hid (w1.heap.size < w2.heap.size) := Lib.hid hR2.blk.lt
  have HE : Hid (w.heap.size ≤ w1.heap.size) := Lib.hid HB1.out.size
  clear hR2 hb2 HM1 HB1 HOY
  have hC := word_yes _ y b 0 false 8 _ HR2.out (by simp [wordOk, isW]; have := H31.out; omega)
  rw [show Int.toNat 8 = 8 from rfl, show 0 + 8 = 8 from rfl] at hC
  obtain ⟨n0, hn⟩ : ∃ n : Nat, n = num ((b.drop 0).take 8) := ⟨_, rfl⟩
  rw [← hn] at hC
  have HN0 := Lib.hid hn
  clear hn
  go_wp2_with fail
  refine hC.mono ?_
  rintro e w3 ⟨rfl, hR, hg⟩
  have HR3 : Hid (WR w3 w1.heap.size y b 8 false) := Lib.hid hR
  have HM3 := Lib.hid (HM2.out.grown hg (fun h => by injection h with h; have := HG.out; omega))
  have HB3 := Lib.hid (HB2.out.grown hg HB2.out.size (by intro z hz; injection hz with hz; have := HE.out; omega))
  clear hR hg hC HM2 HB2 HR2
  have hC := word_yes _ y b 8 false 8 _ HR3.out (by simp [wordOk, isW]; have := H31.out; omega)
  rw [show Int.toNat 8 = 8 from rfl, show 8 + 8 = 16 from rfl] at hC
  obtain ⟨n1, hn⟩ : ∃ n : Nat, n = num ((b.drop 8).take 8) := ⟨_, rfl⟩
  rw [← hn] at hC
  have HN1 := Lib.hid hn
  clear hn
  go_wp2_with fail
  refine hC.mono ?_
  rintro e w4 ⟨rfl, hR, hg⟩
  have HR4 : Hid (WR w4 w1.heap.size y b 16 false) := Lib.hid hR
  have HM4 := Lib.hid (HM3.out.grown hg (fun h => by injection h with h; have := HG.out; omega))
  have HB4 := Lib.hid (HB3.out.grown hg HB3.out.size (by intro z hz; injection hz with hz; have := HE.out; omega))
  clear hR hg hC HM3 HB3 HR3
  have hC := word_yes _ y b 16 false 8 _ HR4.out (by simp [wordOk, isW]; have := H31.out; omega)
  rw [show Int.toNat 8 = 8 from rfl, show 16 + 8 = 24 from rfl] at hC
  obtain ⟨n2, hn⟩ : ∃ n : Nat, n = num ((b.drop 16).take 8) := ⟨_, rfl⟩
  rw [← hn] at hC
  have HN2 := Lib.hid hn
  clear hn
  go_wp2_with fail
  refine hC.mono ?_
  rintro e w5 ⟨rfl, hR, hg⟩
  have HR5 : Hid (WR w5 w1.heap.size y b 24 false) := Lib.hid hR
  have HM5 := Lib.hid (HM4.out.grown hg (fun h => by injection h with h; have := HG.out; omega))
  have HB5 := Lib.hid (HB4.out.grown hg HB4.out.size (by intro z hz; injection hz with hz; have := HE.out; omega))
  clear hR hg hC HM4 HB4 HR4
  have hC := word_yes _ y b 24 false 1 _ HR5.out (by simp [wordOk, isW]; have := H31.out; omega)
  rw [show Int.toNat 1 = 1 from rfl, show 24 + 1 = 25 from rfl] at hC
  have hn3 : num ((b.drop 24).take 1) < 256 := Nat.lt_of_lt_of_le (num_lt _) (by rw [List.length_take]; exact Nat.pow_le_pow_right (by omega) (Nat.min_le_left _ _))
  obtain ⟨n3, hn⟩ : ∃ n : Nat, n = num ((b.drop 24).take 1) := ⟨_, rfl⟩
  rw [← hn] at hC hn3
  have HN3 := Lib.hid hn
  clear hn
  go_wp2_with fail
  refine hC.mono ?_
  rintro e w6 ⟨rfl, hR, hg⟩
  have HR6 : Hid (WR w6 w1.heap.size y b 25 false) := Lib.hid hR
  have HM6 := Lib.hid (HM5.out.grown hg (fun h => by injection h with h; have := HG.out; omega))
  have HB6 := Lib.hid (HB5.out.grown hg HB5.out.size (by intro z hz; injection hz with hz; have := HE.out; omega))
  clear hR hg hC HM5 HB5 HR5
  have hC := word_yes _ y b 25 false 2 _ HR6.out (by simp [wordOk, isW]; have := H31.out; omega)
  rw [show Int.toNat 2 = 2 from rfl, show 25 + 2 = 27 from rfl] at hC
  have hn4 : num ((b.drop 25).take 2) < 65536 := Nat.lt_of_lt_of_le (num_lt _) (by rw [List.length_take]; exact Nat.pow_le_pow_right (by omega) (Nat.min_le_left _ _))
  obtain ⟨n4, hn⟩ : ∃ n : Nat, n = num ((b.drop 25).take 2) := ⟨_, rfl⟩
  rw [← hn] at hC hn4
  have HN4 := Lib.hid hn
  clear hn
  go_wp2_with fail
  refine hC.mono ?_
  rintro e w7 ⟨rfl, hR, hg⟩
  have HR7 : Hid (WR w7 w1.heap.size y b 27 false) := Lib.hid hR
  have HM7 := Lib.hid (HM6.out.grown hg (fun h => by injection h with h; have := HG.out; omega))
  have HB7 := Lib.hid (HB6.out.grown hg HB6.out.size (by intro z hz; injection hz with hz; have := HE.out; omega))
  clear hR hg hC HM6 HB6 HR6
  have hC := word_yes _ y b 27 false 4 _ HR7.out (by simp [wordOk, isW]; have := H31.out; omega)
  rw [show Int.toNat 4 = 4 from rfl, show 27 + 4 = 31 from rfl] at hC
  have hn5 : num ((b.drop 27).take 4) < 4294967296 := Nat.lt_of_lt_of_le (num_lt _) (by rw [List.length_take]; exact Nat.pow_le_pow_right (by omega) (Nat.min_le_left _ _))
  obtain ⟨n5, hn⟩ : ∃ n : Nat, n = num ((b.drop 27).take 4) := ⟨_, rfl⟩
  rw [← hn] at hC hn5
  have HN5 := Lib.hid hn
  clear hn
  go_wp2_with fail
  refine hC.mono ?_
  rintro e w8 ⟨rfl, hR, hg⟩
  have HR8 : Hid (WR w8 w1.heap.size y b 31 false) := Lib.hid hR
  have HM8 := Lib.hid (HM7.out.grown hg (fun h => by injection h with h; have := HG.out; omega))
  have HB8 := Lib.hid (HB7.out.grown hg HB7.out.size (by intro z hz; injection hz with hz; have := HE.out; omega))
  clear hR hg hC HM7 HB7 HR7
  have hw3 : wrap64 (n3 : Int) = (n3 : Int) := IntWalk.wrap64_in _ ⟨by omega, by omega⟩
  have hw4 : wrap64 (n4 : Int) = (n4 : Int) := IntWalk.wrap64_in _ ⟨by omega, by omega⟩
  have hw5 : wrap64 (n5 : Int) = (n5 : Int) := IntWalk.wrap64_in _ ⟨by omega, by omega⟩
  go_wp2_with fail
  refine (whole_any _ y b 31 false _ (HR8.out.alloc _)).mono ?_
  rintro e w9 ⟨rfl, hb9⟩
  have HB9' := HB8.out.alloc HB8.out.size (.cells #[.int .u64 (n0 : Int), .int .i64 (n3 : Int), .int .i64 (wrap64 (n1 : Int)), .int .i64 (wrap64 (n2 : Int)), .int .i64 (n4 : Int), .int .i64 (n5 : Int)] 24)
  have HM9 := Lib.hid ((HM8.out.alloc (.cells #[.int .u64 (n0 : Int), .int .i64 (n3 : Int), .int .i64 (wrap64 (n1 : Int)), .int .i64 (wrap64 (n2 : Int)), .int .i64 (n4 : Int), .int .i64 (n5 : Int)] 24)).below hb9 (HM8.out.alloc _).lt)
  have HK9 := Lib.hid ((Blk.new w8 24 #[.int .u64 (n0 : Int), .int .i64 (n3 : Int), .int .i64 (wrap64 (n1 : Int)), .int .i64 (wrap64 (n2 : Int)), .int .i64 (n4 : Int), .int .i64 (n5 : Int)]).below hb9 (by simp))
  have HB9 := Lib.hid (HB9'.trans (hb9.mono HB9'.size))
  clear hb9 HB9' HM8 HB8 HR8
  rw [show wholeB b 31 false = true by rw [wholeB, H31.out]; rfl]
  have HME : Hid (meAt b = ⟨(n0 : Int), (n3 : Int), wrap64 (n1 : Int), wrap64 (n2 : Int), (n4 : Int), (n5 : Int)⟩) := Lib.hid (by
    simp only [meAt]
    rw [HN0.out, HN1.out, HN2.out, HN3.out, HN4.out, HN5.out])
  have hMay := fun u => mmay_any ⟨(n0 : Int), (n3 : Int), wrap64 (n1 : Int), wrap64 (n2 : Int), (n4 : Int), (n5 : Int)⟩ (okMe n0 n1 n2 n3 n4 n5 (by rw [HN0.out]; exact num_lt8 _ (by simp; omega)) hn3 hn4 hn5) u
  have HV : Hid (meB ⟨(n0 : Int), (n3 : Int), wrap64 (n1 : Int), wrap64 (n2 : Int), (n4 : Int), (n5 : Int)⟩ = true) := Lib.hid (by rw [← HME.out]; exact HMAY.out)
  rw [HV.out] at hMay
  simp only [meV] at hMay
  have j0 := HK9.out.cell 0
  have j1 := HK9.out.cell 1
  have j2 := HK9.out.cell 2
  have j3 := HK9.out.cell 3
  have j4 := HK9.out.cell 4
  have j5 := HK9.out.cell 5
  go_wp2_with fail
  refine (hMay _).mono ?_
  rintro e w10 ⟨rfl, hb10⟩
  have HM10 := Lib.hid (HM9.out.below hb10 HM9.out.lt)
  have HK10 := Lib.hid (HK9.out.below hb10 HK9.out.lt)
  have HB10 := Lib.hid (HB9.out.trans (hb10.mono HB9.out.size))
  clear hb10 hMay j0 j1 j2 j3 j4 j5
  clear HM9 HK9 HB9
  have j0 := HK10.out.cell 0
  have j1 := HK10.out.cell 1
  have j2 := HK10.out.cell 2
  have j3 := HK10.out.cell 3
  have j4 := HK10.out.cell 4
  have j5 := HK10.out.cell 5
  have hfz := fun j => HM10.out.frozen j
  have k0 := HM10.out.cell 0
  have k1 := HM10.out.cell 1
  have k2 := HM10.out.cell 2
  have k3 := HM10.out.cell 3
  have k4 := HM10.out.cell 4
  have k5 := HM10.out.cell 5
  go_wp2_with fail
  have hm2 := setall6 w.heap.size HM10.out (.int .u64 (n0 : Int)) (.int .i64 (n3 : Int)) (.int .i64 (wrap64 (n1 : Int))) (.int .i64 (wrap64 (n2 : Int))) (.int .i64 (n4 : Int)) (.int .i64 (n5 : Int))
  have hg2 : w10.grownBy ((((((w10.setCell ⟨w.heap.size, 0, none⟩ (.int .u64 (n0 : Int))).setCell ⟨w.heap.size, 1, none⟩ (.int .i64 (n3 : Int))).setCell ⟨w.heap.size, 2, none⟩ (.int .i64 (wrap64 (n1 : Int)))).setCell ⟨w.heap.size, 3, none⟩ (.int .i64 (wrap64 (n2 : Int)))).setCell ⟨w.heap.size, 4, none⟩ (.int .i64 (n4 : Int))).setCell ⟨w.heap.size, 5, none⟩ (.int .i64 (n5 : Int))) (some w.heap.size) := gset6 _ _ _ _ _ _ _ _
  rw [HBX.out, HME.out]
  refine bodyPost_ret (v := .tuple #[.agg #[.int .u64 (n0 : Int), .int .i64 (n3 : Int), .int .i64 (wrap64 (n1 : Int)), .int .i64 (wrap64 (n2 : Int)), .int .i64 (n4 : Int), .int .i64 (n5 : Int)], .nilIface]) (by have c := hm2.cell; simp [results, go_sem, c]; try rfl) rfl ?_
  exact ⟨rfl, HB10.out.grown hg2 HB10.out.size (by intro z hz; injection hz with hz; omega)⟩

set_option maxHeartbeats 3200000 in
theorem mget_not {x : List UInt8} {v : Value} (w : World) (hv : Bs w v x) (h4 : 4 ≤ x.length) (hl : x.length ≤ 140737488355320) (hs : tailOf x = crcOf (bodyOf x)) (h31 : (bodyOf x).length = 31) (hmay : meB (meAt (bodyOf x)) = false) :
    Calls Tryd.prog 17 #[v] w fun e w' => e = .returned (.tuple #[meV Me.zero, code 2]) ∧ Below w.heap.size w w' := by
  have hb0 : Below w.heap.size w (w.alloc (.cells #[.int .u64 0, .int .i64 0, .int .i64 0, .int .i64 0, .int .i64 0, .int .i64 0] 24)) := (Below.refl _ _).alloc (Nat.le_refl _) _
  have hm0 := Blk.new w 24 #[.int .u64 0, .int .i64 0, .int .i64 0, .int .i64 0, .int .i64 0, .int .i64 0]
  have HS := Lib.hid hs
  have hO := open_long x v (w.alloc (.cells #[.int .u64 0, .int .i64 0, .int .i64 0, .int .i64 0, .int .i64 0, .int .i64 0] 24)) h4 (by omega) (hv.alloc _)
  have HM := Lib.hid hm0
  have HB := Lib.hid hb0
  have H31 := Lib.hid h31
  have HMAY := Lib.hid hmay
  clear hmay
  clear hs hl h4 hm0 hb0 h31
  go_enter Tryd.func17, Tryd.ntmps17
  go_wp2_with fail
  refine hO.mono ?_
  rintro e w1 ⟨y, f, rfl, hOp, hb1⟩
  obtain ⟨rfl, hoy⟩ := hOp.yes HS.out
  have HM1 := Lib.hid (HM.out.below hb1 (by simp))
  have HB1 := Lib.hid (HB.out.trans (hb1.mono (by simp)))
  have HOY := Lib.hid hoy.bs
  have HG : Hid (w.heap.size < w1.heap.size) := Lib.hid HM1.out.lt
  clear hO hOp hb1 hoy HB HM HS
  generalize hbx : bodyOf x = b at *
  have HBX := Lib.hid hbx
  clear hbx
  go_wp2_with fail
  refine (read_any y b w1 HOY.out).mono ?_
  rintro e w2 ⟨rfl, hR2, hb2⟩
  have HR2 : Hid (WR w2 w1.heap.size y b 0 false) := Lib.hid hR2
  have HM2 := Lib.hid (HM1.out.below hb2 HM1.out.lt)
  have HB2 := Lib.hid (HB1.out.trans (hb2.mono HB1.out.size))
  have HG2 : Hid (w1.heap.size < w2.heap.size) := Lib.hid hR2.blk.lt
  have HE : Hid (w.heap.size ≤ w1.heap.size) := Lib.hid HB1.out.size
  clear hR2 hb2 HM1 HB1 HOY
  have hC := word_yes _ y b 0 false 8 _ HR2.out (by simp [wordOk, isW]; have := H31.out; omega)
  rw [show Int.toNat 8 = 8 from rfl, show 0 + 8 = 8 from rfl] at hC
  obtain ⟨n0, hn⟩ : ∃ n : Nat, n = num ((b.drop 0).take 8) := ⟨_, rfl⟩
  rw [← hn] at hC
  have HN0 := Lib.hid hn
  clear hn
  go_wp2_with fail
  refine hC.mono ?_
  rintro e w3 ⟨rfl, hR, hg⟩
  have HR3 : Hid (WR w3 w1.heap.size y b 8 false) := Lib.hid hR
  have HM3 := Lib.hid (HM2.out.grown hg (fun h => by injection h with h; have := HG.out; omega))
  have HB3 := Lib.hid (HB2.out.grown hg HB2.out.size (by intro z hz; injection hz with hz; have := HE.out; omega))
  clear hR hg hC HM2 HB2 HR2
  have hC := word_yes _ y b 8 false 8 _ HR3.out (by simp [wordOk, isW]; have := H31.out; omega)
  rw [show Int.toNat 8 = 8 from rfl, show 8 + 8 = 16 from rfl] at hC
  obtain ⟨n1, hn⟩ : ∃ n : Nat, n = num ((b.drop 8).take 8) := ⟨_, rfl⟩
  rw [← hn] at hC
  have HN1 := Lib.hid hn
  clear hn
  go_wp2_with fail
  refine hC.mono ?_
  rintro e w4 ⟨rfl, hR, hg⟩
  have HR4 : Hid (WR w4 w1.heap.size y b 16 false) := Lib.hid hR
  have HM4 := Lib.hid (HM3.out.grown hg (fun h => by injection h with h; have := HG.out; omega))
  have HB4 := Lib.hid (HB3.out.grown hg HB3.out.size (by intro z hz; injection hz with hz; have := HE.out; omega))
  clear hR hg hC HM3 HB3 HR3
  have hC := word_yes _ y b 16 false 8 _ HR4.out (by simp [wordOk, isW]; have := H31.out; omega)
  rw [show Int.toNat 8 = 8 from rfl, show 16 + 8 = 24 from rfl] at hC
  obtain ⟨n2, hn⟩ : ∃ n : Nat, n = num ((b.drop 16).take 8) := ⟨_, rfl⟩
  rw [← hn] at hC
  have HN2 := Lib.hid hn
  clear hn
  go_wp2_with fail
  refine hC.mono ?_
  rintro e w5 ⟨rfl, hR, hg⟩
  have HR5 : Hid (WR w5 w1.heap.size y b 24 false) := Lib.hid hR
  have HM5 := Lib.hid (HM4.out.grown hg (fun h => by injection h with h; have := HG.out; omega))
  have HB5 := Lib.hid (HB4.out.grown hg HB4.out.size (by intro z hz; injection hz with hz; have := HE.out; omega))
  clear hR hg hC HM4 HB4 HR4
  have hC := word_yes _ y b 24 false 1 _ HR5.out (by simp [wordOk, isW]; have := H31.out; omega)
  rw [show Int.toNat 1 = 1 from rfl, show 24 + 1 = 25 from rfl] at hC
  have hn3 : num ((b.drop 24).take 1) < 256 := Nat.lt_of_lt_of_le (num_lt _) (by rw [List.length_take]; exact Nat.pow_le_pow_right (by omega) (Nat.min_le_left _ _))
  obtain ⟨n3, hn⟩ : ∃ n : Nat, n = num ((b.drop 24).take 1) := ⟨_, rfl⟩
  rw [← hn] at hC hn3
  have HN3 := Lib.hid hn
  clear hn
  go_wp2_with fail
  refine hC.mono ?_
  rintro e w6 ⟨rfl, hR, hg⟩
  have HR6 : Hid (WR w6 w1.heap.size y b 25 false) := Lib.hid hR
  have HM6 := Lib.hid (HM5.out.grown hg (fun h => by injection h with h; have := HG.out; omega))
  have HB6 := Lib.hid (HB5.out.grown hg HB5.out.size (by intro z hz; injection hz with hz; have := HE.out; omega))
  clear hR hg hC HM5 HB5 HR5
  have hC := word_yes _ y b 25 false 2 _ HR6.out (by simp [wordOk, isW]; have := H31.out; omega)
  rw [show Int.toNat 2 = 2 from rfl, show 25 + 2 = 27 from rfl] at hC
  have hn4 : num ((b.drop 25).take 2) < 65536 := Nat.lt_of_lt_of_le (num_lt _) (by rw [List.length_take]; exact Nat.pow_le_pow_right (by omega) (Nat.min_le_left _ _))
  obtain ⟨n4, hn⟩ : ∃ n : Nat, n = num ((b.drop 25).take 2) := ⟨_, rfl⟩
  rw [← hn] at hC hn4
  have HN4 := Lib.hid hn
  clear hn
  go_wp2_with fail
  refine hC.mono ?_
  rintro e w7 ⟨rfl, hR, hg⟩
  have HR7 : Hid (WR w7 w1.heap.size y b 27 false) := Lib.hid hR
  have HM7 := Lib.hid (HM6.out.grown hg (fun h => by injection h with h; have := HG.out; omega))
  have HB7 := Lib.hid (HB6.out.grown hg HB6.out.size (by intro z hz; injection hz with hz; have := HE.out; omega))
  clear hR hg hC HM6 HB6 HR6
  have hC := word_yes _ y b 27 false 4 _ HR7.out (by simp [wordOk, isW]; have := H31.out; omega)
  rw [show Int.toNat 4 = 4 from rfl, show 27 + 4 = 31 from rfl] at hC
  have hn5 : num ((b.drop 27).take 4) < 4294967296 := Nat.lt_of_lt_of_le (num_lt _) (by rw [List.length_take]; exact Nat.pow_le_pow_right (by omega) (Nat.min_le_left _ _))
  obtain ⟨n5, hn⟩ : ∃ n : Nat, n = num ((b.drop 27).take 4) := ⟨_, rfl⟩
  rw [← hn] at hC hn5
  have HN5 := Lib.hid hn
  clear hn
  go_wp2_with fail
  refine hC.mono ?_
  rintro e w8 ⟨rfl, hR, hg⟩
  have HR8 : Hid (WR w8 w1.heap.size y b 31 false) := Lib.hid hR
  have HM8 := Lib.hid (HM7.out.grown hg (fun h => by injection h with h; have := HG.out; omega))
  have HB8 := Lib.hid (HB7.out.grown hg HB7.out.size (by intro z hz; injection hz with hz; have := HE.out; omega))
  clear hR hg hC HM7 HB7 HR7
  have hw3 : wrap64 (n3 : Int) = (n3 : Int) := IntWalk.wrap64_in _ ⟨by omega, by omega⟩
  have hw4 : wrap64 (n4 : Int) = (n4 : Int) := IntWalk.wrap64_in _ ⟨by omega, by omega⟩
  have hw5 : wrap64 (n5 : Int) = (n5 : Int) := IntWalk.wrap64_in _ ⟨by omega, by omega⟩
  go_wp2_with fail
  refine (whole_any _ y b 31 false _ (HR8.out.alloc _)).mono ?_
  rintro e w9 ⟨rfl, hb9⟩
  have HB9' := HB8.out.alloc HB8.out.size (.cells #[.int .u64 (n0 : Int), .int .i64 (n3 : Int), .int .i64 (wrap64 (n1 : Int)), .int .i64 (wrap64 (n2 : Int)), .int .i64 (n4 : Int), .int .i64 (n5 : Int)] 24)
  have HM9 := Lib.hid ((HM8.out.alloc (.cells #[.int .u64 (n0 : Int), .int .i64 (n3 : Int), .int .i64 (wrap64 (n1 : Int)), .int .i64 (wrap64 (n2 : Int)), .int .i64 (n4 : Int), .int .i64 (n5 : Int)] 24)).below hb9 (HM8.out.alloc _).lt)
  have HK9 := Lib.hid ((Blk.new w8 24 #[.int .u64 (n0 : Int), .int .i64 (n3 : Int), .int .i64 (wrap64 (n1 : Int)), .int .i64 (wrap64 (n2 : Int)), .int .i64 (n4 : Int), .int .i64 (n5 : Int)]).below hb9 (by simp))
  have HB9 := Lib.hid (HB9'.trans (hb9.mono HB9'.size))
  clear hb9 HB9' HM8 HB8 HR8
  rw [show wholeB b 31 false = true by rw [wholeB, H31.out]; rfl]
  have HME : Hid (meAt b = ⟨(n0 : Int), (n3 : Int), wrap64 (n1 : Int), wrap64 (n2 : Int), (n4 : Int), (n5 : Int)⟩) := Lib.hid (by
    simp only [meAt]
    rw [HN0.out, HN1.out, HN2.out, HN3.out, HN4.out, HN5.out])
  have hMay := fun u => mmay_any ⟨(n0 : Int), (n3 : Int), wrap64 (n1 : Int), wrap64 (n2 : Int), (n4 : Int), (n5 : Int)⟩ (okMe n0 n1 n2 n3 n4 n5 (by rw [HN0.out]; exact num_lt8 _ (by simp; omega)) hn3 hn4 hn5) u
  have HV : Hid (meB ⟨(n0 : Int), (n3 : Int), wrap64 (n1 : Int), wrap64 (n2 : Int), (n4 : Int), (n5 : Int)⟩ = false) := Lib.hid (by rw [← HME.out]; exact HMAY.out)
  rw [HV.out] at hMay
  simp only [meV] at hMay
  have j0 := HK9.out.cell 0
  have j1 := HK9.out.cell 1
  have j2 := HK9.out.cell 2
  have j3 := HK9.out.cell 3
  have j4 := HK9.out.cell 4
  have j5 := HK9.out.cell 5
  go_wp2_with fail
  refine (hMay _).mono ?_
  rintro e w10 ⟨rfl, hb10⟩
  have HM10 := Lib.hid (HM9.out.below hb10 HM9.out.lt)
  have HK10 := Lib.hid (HK9.out.below hb10 HK9.out.lt)
  have HB10 := Lib.hid (HB9.out.trans (hb10.mono HB9.out.size))
  clear hb10 hMay j0 j1 j2 j3 j4 j5
  clear HM9 HK9 HB9
  have hfz := fun j => HM10.out.frozen j
  have k0 := HM10.out.cell 0
  have k1 := HM10.out.cell 1
  have k2 := HM10.out.cell 2
  have k3 := HM10.out.cell 3
  have k4 := HM10.out.cell 4
  have k5 := HM10.out.cell 5
  go_wp2_with fail
  have hm2 := setall6 w.heap.size HM10.out (.int .u64 0) (.int .i64 0) (.int .i64 0) (.int .i64 0) (.int .i64 0) (.int .i64 0)
  have hg2 : w10.grownBy ((((((w10.setCell ⟨w.heap.size, 0, none⟩ (.int .u64 0)).setCell ⟨w.heap.size, 1, none⟩ (.int .i64 0)).setCell ⟨w.heap.size, 2, none⟩ (.int .i64 0)).setCell ⟨w.heap.size, 3, none⟩ (.int .i64 0)).setCell ⟨w.heap.size, 4, none⟩ (.int .i64 0)).setCell ⟨w.heap.size, 5, none⟩ (.int .i64 0)) (some w.heap.size) := gset6 _ _ _ _ _ _ _ _
  refine bodyPost_ret (v := .tuple #[.agg #[.int .u64 0, .int .i64 0, .int .i64 0, .int .i64 0, .int .i64 0, .int .i64 0], code 2]) (by have c := hm2.cell; simp [results, go_sem, c]; try rfl) rfl ?_
  exact ⟨rfl, HB10.out.grown hg2 HB10.out.size (by intro z hz; injection hz with hz; omega)⟩

theorem mmarked_short {x : List UInt8} {v : Value} (w : World) (hv : Bs w v x) (hl : x.length < 4) :
    Calls Tryd.prog 18 #[v] w fun e w' => e = .returned (.tuple #[mkV Mk.zero, code 2]) ∧ Below w.heap.size w w' := by
  have hb0 : Below w.heap.size w (w.alloc (.cells #[.int .u64 0, .int .i64 0, .int .u64 0] 26)) := (Below.refl _ _).alloc (Nat.le_refl _) _
  have hm0 := Blk.new w 26 #[.int .u64 0, .int .i64 0, .int .u64 0]
  go_enter Tryd.func18, Tryd.ntmps18
  go_wp2_with fail
  refine (open_short x v _ hl (hv.alloc _)).mono ?_
  rintro e w1 ⟨rfl, rfl⟩
  go_wp2_with fail
  refine bodyPost_ret (v := .tuple #[.agg #[.int .u64 0, .int .i64 0, .int .u64 0], code 2]) (by have c := hm0.cell; simp [results, go_sem, c]; try rfl) rfl ?_
  exact ⟨rfl, hb0⟩

set_option maxHeartbeats 800000 in
theorem mmarked_sum {x : List UInt8} {v : Value} (w : World) (hv : Bs w v x) (h4 : 4 ≤ x.length) (hl : x.length ≤ 140737488355320) (hs : tailOf x ≠ crcOf (bodyOf x)) :
    Calls Tryd.prog 18 #[v] w fun e w' => e = .returned (.tuple #[mkV Mk.zero, code 7]) ∧ Below w.heap.size w w' := by
  have hb0 : Below w.heap.size w (w.alloc (.cells #[.int .u64 0, .int .i64 0, .int .u64 0] 26)) := (Below.refl _ _).alloc (Nat.le_refl _) _
  have hm0 := Blk.new w 26 #[.int .u64 0, .int .i64 0, .int .u64 0]
  have HS := Lib.hid hs
  have hO := open_long x v (w.alloc (.cells #[.int .u64 0, .int .i64 0, .int .u64 0] 26)) h4 (by omega) (hv.alloc _)
  have HM := Lib.hid hm0
  have HB := Lib.hid hb0
  clear hs hl h4 hm0 hb0
  go_enter Tryd.func18, Tryd.ntmps18
  go_wp2_with fail
  refine hO.mono ?_
  rintro e w1 ⟨y, f, rfl, hOp, hb1⟩
  obtain ⟨rfl, rfl⟩ := hOp.no HS.out
  have hm1 := HM.out.below hb1 (by simp)
  have HB1 := Lib.hid (HB.out.trans (hb1.mono (by simp)))
  have hfz := fun j => hm1.frozen j
  have k0 := hm1.cell 0
  have k1 := hm1.cell 1
  have k2 := hm1.cell 2
  clear hO hOp hb1 HB
  go_wp2_with fail
  have hm2 := setall3 w.heap.size hm1 (.int .u64 0) (.int .i64 0) (.int .u64 0)
  have hg2 : w1.grownBy (((w1.setCell ⟨w.heap.size, 0, none⟩ (.int .u64 0)).setCell ⟨w.heap.size, 1, none⟩ (.int .i64 0)).setCell ⟨w.heap.size, 2, none⟩ (.int .u64 0)) (some w.heap.size) := gset3 _ _ _ _ _
  refine bodyPost_ret (v := .tuple #[.agg #[.int .u64 0, .int .i64 0, .int .u64 0], code 7]) (by have c := hm2.cell; simp [results, go_sem, c]; try rfl) rfl ?_
  exact ⟨rfl, HB1.out.grown hg2 HB1.out.size (by intro z hz; injection hz with hz; omega)⟩

set_option maxHeartbeats 3200000 in
theorem mmarked_len {x : List UInt8} {v : Value} (w : World) (hv : Bs w v x) (h4 : 4 ≤ x.length) (hl : x.length ≤ 140737488355320) (hs : tailOf x = crcOf (bodyOf x)) (h31 : (bodyOf x).length ≠ 24) :
    Calls Tryd.prog 18 #[v] w fun e w' => e = .returned (.tuple #[mkV Mk.zero, code 2]) ∧ Below w.heap.size w w' := by
  have hb0 : Below w.heap.size w (w.alloc (.cells #[.int .u64 0, .int .i64 0, .int .u64 0] 26)) := (Below.refl _ _).alloc (Nat.le_refl _) _
  have hm0 := Blk.new w 26 #[.int .u64 0, .int .i64 0, .int .u64 0]
  have HS := Lib.hid hs
  have hO := open_long x v (w.alloc (.cells #[.int .u64 0, .int .i64 0, .int .u64 0] 26)) h4 (by omega) (hv.alloc _)
  have HM := Lib.hid hm0
  have HB := Lib.hid hb0
  have H31 := Lib.hid h31
  clear hs hl h4 hm0 hb0 h31
  go_enter Tryd.func18, Tryd.ntmps18
  go_wp2_with fail
  refine hO.mono ?_
  rintro e w1 ⟨y, f, rfl, hOp, hb1⟩
  obtain ⟨rfl, hoy⟩ := hOp.yes HS.out
  have HM1 := Lib.hid (HM.out.below hb1 (by simp))
  have HB1 := Lib.hid (HB.out.trans (hb1.mono (by simp)))
  have HOY := Lib.hid hoy.bs
  have HG : Hid (w.heap.size < w1.heap.size) := Lib.hid HM1.out.lt
  clear hO hOp hb1 hoy HB HM HS
  generalize hbx : bodyOf x = b at *
  have HBX := Lib.hid hbx
  clear hbx
  go_wp2_with fail
  refine (read_any y b w1 HOY.out).mono ?_
  rintro e w2 ⟨rfl, hR2, hb2⟩
  have HR2 : Hid (WR w2 w1.heap.size y b 0 false) := Lib.hid hR2
  have HM2 := Lib.hid (HM1.out.below hb2 HM1.out.lt)
  have HB2 := Lib.hid (HB1.out.trans (hb2.mono HB1.out.size))
  have HG2 : Hid (w1.heap.size < w2.heap.size) := Lib.hid hR2.blk.lt
  have HE : Hid (w.heap.size ≤ w1.heap.size) := Lib.hid HB1.out.size
  clear hR2 hb2 HM1 HB1 HOY
  have HW : Hid (wholeB b ((([8, 8, 8] : List Int).foldl (rdS b) (0, false)).1) ((([8, 8, 8] : List Int).foldl (rdS b) (0, false)).2) = false) := Lib.hid (by
    rw [rdS_whole b _ 0 (Nat.zero_le _) (by decide)]
    exact decide_eq_false fun h => H31.out (by simpa using h.symm))
  simp only [List.foldl_cons, List.foldl_nil] at HW
  obtain ⟨s0, hs0⟩ : ∃ s : Nat × Bool, s = (0, false) := ⟨_, rfl⟩
  rw [← hs0] at HW
  have HR2 : Hid (WR w2 w1.heap.size y b s0.1 s0.2) := Lib.hid (by rw [hs0]; exact HR2.out)
  clear hs0
  have hC := word_all _ y b s0.1 s0.2 8 _ HR2.out
  obtain ⟨s1, hs⟩ : ∃ s : Nat × Bool, s = rdS b s0 8 := ⟨_, rfl⟩
  rw [← hs] at HW
  have HSS := Lib.hid hs
  clear hs
  generalize wOut b s0.1 s0.2 8 = n0 at hC
  go_wp2_with fail
  refine hC.mono ?_
  rintro e w3 ⟨rfl, hR, hg⟩
  have HR3 : Hid (WR w3 w1.heap.size y b s1.1 s1.2) := Lib.hid (by rw [HSS.out]; exact hR)
  have HM3 := Lib.hid (HM2.out.grown hg (fun h => by injection h with h; have := HG.out; omega))
  have HB3 := Lib.hid (HB2.out.grown hg HB2.out.size (by intro z hz; injection hz with hz; have := HE.out; omega))
  clear hR hg hC HM2 HB2 HR2 HSS
  have hC := word_all _ y b s1.1 s1.2 8 _ HR3.out
  obtain ⟨s2, hs⟩ : ∃ s : Nat × Bool, s = rdS b s1 8 := ⟨_, rfl⟩
  rw [← hs] at HW
  have HSS := Lib.hid hs
  clear hs
  generalize wOut b s1.1 s1.2 8 = n1 at hC
  go_wp2_with fail
  refine hC.mono ?_
  rintro e w4 ⟨rfl, hR, hg⟩
  have HR4 : Hid (WR w4 w1.heap.size y b s2.1 s2.2) := Lib.hid (by rw [HSS.out]; exact hR)
  have HM4 := Lib.hid (HM3.out.grown hg (fun h => by injection h with h; have := HG.out; omega))
  have HB4 := Lib.hid (HB3.out.grown hg HB3.out.size (by intro z hz; injection hz with hz; have := HE.out; omega))
  clear hR hg hC HM3 HB3 HR3 HSS
  have hC := word_all _ y b s2.1 s2.2 8 _ HR4.out
  obtain ⟨s3, hs⟩ : ∃ s : Nat × Bool, s = rdS b s2 8 := ⟨_, rfl⟩
  rw [← hs] at HW
  have HSS := Lib.hid hs
  clear hs
  generalize wOut b s2.1 s2.2 8 = n2 at hC
  go_wp2_with fail
  refine hC.mono ?_
  rintro e w5 ⟨rfl, hR, hg⟩
  have HR5 : Hid (WR w5 w1.heap.size y b s3.1 s3.2) := Lib.hid (by rw [HSS.out]; exact hR)
  have HM5 := Lib.hid (HM4.out.grown hg (fun h => by injection h with h; have := HG.out; omega))
  have HB5 := Lib.hid (HB4.out.grown hg HB4.out.size (by intro z hz; injection hz with hz; have := HE.out; omega))
  clear hR hg hC HM4 HB4 HR4 HSS
  go_wp2_with fail
  refine (whole_any _ y b s3.1 s3.2 _ (HR5.out.alloc _)).mono ?_
  rintro e w6 ⟨rfl, hb9⟩
  have HB6' := HB5.out.alloc HB5.out.size (.cells #[.int .u64 (n0 : Int), .int .i64 (wrap64 (n1 : Int)), .int .u64 (n2 : Int)] 26)
  have HM6 := Lib.hid ((HM5.out.alloc (.cells #[.int .u64 (n0 : Int), .int .i64 (wrap64 (n1 : Int)), .int .u64 (n2 : Int)] 26)).below hb9 (HM5.out.alloc _).lt)
  have HK6 := Lib.hid ((Blk.new w5 26 #[.int .u64 (n0 : Int), .int .i64 (wrap64 (n1 : Int)), .int .u64 (n2 : Int)]).below hb9 (by simp))
  have HB6 := Lib.hid (HB6'.trans (hb9.mono HB6'.size))
  clear hb9 HB6' HM5 HB5 HR5
  rw [HW.out]
  have hfz := fun j => HM6.out.frozen j
  have k0 := HM6.out.cell 0
  have k1 := HM6.out.cell 1
  have k2 := HM6.out.cell 2
  go_wp2_with fail
  have hm2 := setall3 w.heap.size HM6.out (.int .u64 0) (.int .i64 0) (.int .u64 0)
  have hg2 : w6.grownBy (((w6.setCell ⟨w.heap.size, 0, none⟩ (.int .u64 0)).setCell ⟨w.heap.size, 1, none⟩ (.int .i64 0)).setCell ⟨w.heap.size, 2, none⟩ (.int .u64 0)) (some w.heap.size) := gset3 _ _ _ _ _
  refine bodyPost_ret (v := .tuple #[.agg #[.int .u64 0, .int .i64 0, .int .u64 0], code 2]) (by have c := hm2.cell; simp [results, go_sem, c]; try rfl) rfl ?_
  exact ⟨rfl, HB6.out.grown hg2 HB6.out.size (by intro z hz; injection hz with hz; omega)⟩

set_option maxHeartbeats 3200000 in
theorem mmarked_may {x : List UInt8} {v : Value} (w : World) (hv : Bs w v x) (h4 : 4 ≤ x.length) (hl : x.length ≤ 140737488355320) (hs : tailOf x = crcOf (bodyOf x)) (h31 : (bodyOf x).length = 24) (hmay : mkB (mkAt (bodyOf x)) = true) :
    Calls Tryd.prog 18 #[v] w fun e w' => e = .returned (.tuple #[mkV (mkAt (bodyOf x)), .nilIface]) ∧ Below w.heap.size w w' := by
  have hb0 : Below w.heap.size w (w.alloc (.cells #[.int .u64 0, .int .i64 0, .int .u64 0] 26)) := (Below.refl _ _).alloc (Nat.le_refl _) _
  have hm0 := Blk.new w 26 #[.int .u64 0, .int .i64 0, .int .u64 0]
  have HS := Lib.hid hs
  have hO := open_long x v (w.alloc (.cells #[.int .u64 0, .int .i64 0, .int .u64 0] 26)) h4 (by omega) (hv.alloc _)
  have HM := Lib.hid hm0
  have HB := Lib.hid hb0
  have H31 := Lib.hid h31
  have HMAY := Lib.hid hmay
  clear hmay
  clear hs hl h4 hm0 hb0 h31
  go_enter Tryd.func18, Tryd.ntmps18
  go_wp2_with fail
  refine hO.mono ?_
  rintro e w1 ⟨y, f, rfl, hOp, hb1⟩
  obtain ⟨rfl, hoy⟩ := hOp.yes HS.out
  have HM1 := Lib.hid (HM.out.below hb1 (by simp))
  have HB1 := Lib.hid (HB.out.trans (hb1.mono (by simp)))
  have HOY := Lib.hid hoy.bs
  have HG : Hid (w.heap.size < w1.heap.size) := Lib.hid HM1.out.lt
  clear hO hOp hb1 hoy HB HM HS
  generalize hbx : bodyOf x = b at *
  have HBX := Lib.hid hbx
  clear hbx
  go_wp2_with fail
  refine (read_any y b w1 HOY.out).mono ?_
  rintro e w2 ⟨rfl, hR2, hb2⟩
  have HR2 : Hid (WR w2 w1.heap.size y b 0 false) := Lib.hid hR2
  have HM2 := Lib.hid (HM1.out.below hb2 HM1.out.lt)
  have HB2 := Lib.hid (HB1.out.trans (hb2.mono HB1.out.size))
  have HG2 : Hid (w1.heap.size < w2.heap.size) := Lib.hid hR2.blk.lt
  have HE : Hid (w.heap.size ≤ w1.heap.size) := Lib.hid HB1.out.size
  clear hR2 hb2 HM1 HB1 HOY
  have hC := word_yes _ y b 0 false 8 _ HR2.out (by simp [wordOk, isW]; have := H31.out; omega)
  rw [show Int.toNat 8 = 8 from rfl, show 0 + 8 = 8 from rfl] at hC
  obtain ⟨n0, hn⟩ : ∃ n : Nat, n = num ((b.drop 0).take 8) := ⟨_, rfl⟩
  rw [← hn] at hC
  have HN0 := Lib.hid hn
  clear hn
  go_wp2_with fail
  refine hC.mono ?_
  rintro e w3 ⟨rfl, hR, hg⟩
  have HR3 : Hid (WR w3 w1.heap.size y b 8 false) := Lib.hid hR
  have HM3 := Lib.hid (HM2.out.grown hg (fun h => by injection h with h; have := HG.out; omega))
  have HB3 := Lib.hid (HB2.out.grown hg HB2.out.size (by intro z hz; injection hz with hz; have := HE.out; omega))
  clear hR hg hC HM2 HB2 HR2
  have hC := word_yes _ y b 8 false 8 _ HR3.out (by simp [wordOk, isW]; have := H31.out; omega)
  rw [show Int.toNat 8 = 8 from rfl, show 8 + 8 = 16 from rfl] at hC
  obtain ⟨n1, hn⟩ : ∃ n : Nat, n = num ((b.drop 8).take 8) := ⟨_, rfl⟩
  rw [← hn] at hC
  have HN1 := Lib.hid hn
  clear hn
  go_wp2_with fail
  refine hC.mono ?_
  rintro e w4 ⟨rfl, hR, hg⟩
  have HR4 : Hid (WR w4 w1.heap.size y b 16 false) := Lib.hid hR
  have HM4 := Lib.hid (HM3.out.grown hg (fun h => by injection h with h; have := HG.out; omega))
  have HB4 := Lib.hid (HB3.out.grown hg HB3.out.size (by intro z hz; injection hz with hz; have := HE.out; omega))
  clear hR hg hC HM3 HB3 HR3
  have hC := word_yes _ y b 16 false 8 _ HR4.out (by simp [wordOk, isW]; have := H31.out; omega)
  rw [show Int.toNat 8 = 8 from rfl, show 16 + 8 = 24 from rfl] at hC
  obtain ⟨n2, hn⟩ : ∃ n : Nat, n = num ((b.drop 16).take 8) := ⟨_, rfl⟩
  rw [← hn] at hC
  have HN2 := Lib.hid hn
  clear hn
  go_wp2_with fail
  refine hC.mono ?_
  rintro e w5 ⟨rfl, hR, hg⟩
  have HR5 : Hid (WR w5 w1.heap.size y b 24 false) := Lib.hid hR
  have HM5 := Lib.hid (HM4.out.grown hg (fun h => by injection h with h; have := HG.out; omega))
  have HB5 := Lib.hid (HB4.out.grown hg HB4.out.size (by intro z hz; injection hz with hz; have := HE.out; omega))
  clear hR hg hC HM4 HB4 HR4
  go_wp2_with fail
  refine (whole_any _ y b 24 false _ (HR5.out.alloc _)).mono ?_
  rintro e w6 ⟨rfl, hb9⟩
  have HB6' := HB5.out.alloc HB5.out.size (.cells #[.int .u64 (n0 : Int), .int .i64 (wrap64 (n1 : Int)), .int .u64 (n2 : Int)] 26)
  have HM6 := Lib.hid ((HM5.out.alloc (.cells #[.int .u64 (n0 : Int), .int .i64 (wrap64 (n1 : Int)), .int .u64 (n2 : Int)] 26)).below hb9 (HM5.out.alloc _).lt)
  have HK6 := Lib.hid ((Blk.new w5 26 #[.int .u64 (n0 : Int), .int .i64 (wrap64 (n1 : Int)), .int .u64 (n2 : Int)]).below hb9 (by simp))
  have HB6 := Lib.hid (HB6'.trans (hb9.mono HB6'.size))
  clear hb9 HB6' HM5 HB5 HR5
  rw [show wholeB b 24 false = true by rw [wholeB, H31.out]; rfl]
  have HME : Hid (mkAt b = ⟨(n0 : Int), wrap64 (n1 : Int), (n2 : Int)⟩) := Lib.hid (by
    simp only [mkAt]
    rw [HN0.out, HN1.out, HN2.out])
  have hMay := fun u => mfair_any ⟨(n0 : Int), wrap64 (n1 : Int), (n2 : Int)⟩ (okMk n0 n1 n2 (by rw [HN0.out]; exact num_lt8 _ (by simp; omega)) (by rw [HN2.out]; exact num_lt8 _ (by simp; omega))) u
  have HV : Hid (mkB ⟨(n0 : Int), wrap64 (n1 : Int), (n2 : Int)⟩ = true) := Lib.hid (by rw [← HME.out]; exact HMAY.out)
  rw [HV.out] at hMay
  simp only [mkV] at hMay
  have j0 := HK6.out.cell 0
  have j1 := HK6.out.cell 1
  have j2 := HK6.out.cell 2
  go_wp2_with fail
  refine (hMay _).mono ?_
  rintro e w7 ⟨rfl, hb10⟩
  have HM7 := Lib.hid (HM6.out.below hb10 HM6.out.lt)
  have HK7 := Lib.hid (HK6.out.below hb10 HK6.out.lt)
  have HB7 := Lib.hid (HB6.out.trans (hb10.mono HB6.out.size))
  clear hb10 hMay j0 j1 j2
  clear HM6 HK6 HB6
  have j0 := HK7.out.cell 0
  have j1 := HK7.out.cell 1
  have j2 := HK7.out.cell 2
  have hfz := fun j => HM7.out.frozen j
  have k0 := HM7.out.cell 0
  have k1 := HM7.out.cell 1
  have k2 := HM7.out.cell 2
  go_wp2_with fail
  have hm2 := setall3 w.heap.size HM7.out (.int .u64 (n0 : Int)) (.int .i64 (wrap64 (n1 : Int))) (.int .u64 (n2 : Int))
  have hg2 : w7.grownBy (((w7.setCell ⟨w.heap.size, 0, none⟩ (.int .u64 (n0 : Int))).setCell ⟨w.heap.size, 1, none⟩ (.int .i64 (wrap64 (n1 : Int)))).setCell ⟨w.heap.size, 2, none⟩ (.int .u64 (n2 : Int))) (some w.heap.size) := gset3 _ _ _ _ _
  rw [HBX.out, HME.out]
  refine bodyPost_ret (v := .tuple #[.agg #[.int .u64 (n0 : Int), .int .i64 (wrap64 (n1 : Int)), .int .u64 (n2 : Int)], .nilIface]) (by have c := hm2.cell; simp [results, go_sem, c]; try rfl) rfl ?_
  exact ⟨rfl, HB7.out.grown hg2 HB7.out.size (by intro z hz; injection hz with hz; omega)⟩

set_option maxHeartbeats 3200000 in
theorem mmarked_not {x : List UInt8} {v : Value} (w : World) (hv : Bs w v x) (h4 : 4 ≤ x.length) (hl : x.length ≤ 140737488355320) (hs : tailOf x = crcOf (bodyOf x)) (h31 : (bodyOf x).length = 24) (hmay : mkB (mkAt (bodyOf x)) = false) :
    Calls Tryd.prog 18 #[v] w fun e w' => e = .returned (.tuple #[mkV Mk.zero, code 2]) ∧ Below w.heap.size w w' := by
  have hb0 : Below w.heap.size w (w.alloc (.cells #[.int .u64 0, .int .i64 0, .int .u64 0] 26)) := (Below.refl _ _).alloc (Nat.le_refl _) _
  have hm0 := Blk.new w 26 #[.int .u64 0, .int .i64 0, .int .u64 0]
  have HS := Lib.hid hs
  have hO := open_long x v (w.alloc (.cells #[.int .u64 0, .int .i64 0, .int .u64 0] 26)) h4 (by omega) (hv.alloc _)
  have HM := Lib.hid hm0
  have HB := Lib.hid hb0
  have H31 := Lib.hid h31
  have HMAY := Lib.hid hmay
  clear hmay
  clear hs hl h4 hm0 hb0 h31
  go_enter Tryd.func18, Tryd.ntmps18
  go_wp2_with fail
  refine hO.mono ?_
  rintro e w1 ⟨y, f, rfl, hOp, hb1⟩
  obtain ⟨rfl, hoy⟩ := hOp.yes HS.out
  have HM1 := Lib.hid (HM.out.below hb1 (by simp))
  have HB1 := Lib.hid (HB.out.trans (hb1.mono (by simp)))
  have HOY := Lib.hid hoy.bs
  have HG : Hid (w.heap.size < w1.heap.size) := Lib.hid HM1.out.lt
  clear hO hOp hb1 hoy HB HM HS
  generalize hbx : bodyOf x = b at *
  have HBX := Lib.hid hbx
  clear hbx
  go_wp2_with fail
  refine (read_any y b w1 HOY.out).mono ?_
  rintro e w2 ⟨rfl, hR2, hb2⟩
  have HR2 : Hid (WR w2 w1.heap.size y b 0 false) := Lib.hid hR2
  have HM2 := Lib.hid (HM1.out.below hb2 HM1.out.lt)
  have HB2 := Lib.hid (HB1.out.trans (hb2.mono HB1.out.size))
  have HG2 : Hid (w1.heap.size < w2.heap.size) := Lib.hid hR2.blk.lt
  have HE : Hid (w.heap.size ≤ w1.heap.size) := Lib.hid HB1.out.size
  clear hR2 hb2 HM1 HB1 HOY
  have hC := word_yes _ y b 0 false 8 _ HR2.out (by simp [wordOk, isW]; have := H31.out; omega)
  rw [show Int.toNat 8 = 8 from rfl, show 0 + 8 = 8 from rfl] at hC
  obtain ⟨n0, hn⟩ : ∃ n : Nat, n = num ((b.drop 0).take 8) := ⟨_, rfl⟩
  rw [← hn] at hC
  have HN0 := Lib.hid hn
  clear hn
  go_wp2_with fail
  refine hC.mono ?_
  rintro e w3 ⟨rfl, hR, hg⟩
  have HR3 : Hid (WR w3 w1.heap.size y b 8 false) := Lib.hid hR
  have HM3 := Lib.hid (HM2.out.grown hg (fun h => by injection h with h; have := HG.out; omega))
  have HB3 := Lib.hid (HB2.out.grown hg HB2.out.size (by intro z hz; injection hz with hz; have := HE.out; omega))
  clear hR hg hC HM2 HB2 HR2
  have hC := word_yes _ y b 8 false 8 _ HR3.out (by simp [wordOk, isW]; have := H31.out; omega)
  rw [show Int.toNat 8 = 8 from rfl, show 8 + 8 = 16 from rfl] at hC
  obtain ⟨n1, hn⟩ : ∃ n : Nat, n = num ((b.drop 8).take 8) := ⟨_, rfl⟩
  rw [← hn] at hC
  have HN1 := Lib.hid hn
  clear hn
  go_wp2_with fail
  refine hC.mono ?_
  rintro e w4 ⟨rfl, hR, hg⟩
  have HR4 : Hid (WR w4 w1.heap.size y b 16 false) := Lib.hid hR
  have HM4 := Lib.hid (HM3.out.grown hg (fun h => by injection h with h; have := HG.out; omega))
  have HB4 := Lib.hid (HB3.out.grown hg HB3.out.size (by intro z hz; injection hz with hz; have := HE.out; omega))
  clear hR hg hC HM3 HB3 HR3
  have hC := word_yes _ y b 16 false 8 _ HR4.out (by simp [wordOk, isW]; have := H31.out; omega)
  rw [show Int.toNat 8 = 8 from rfl, show 16 + 8 = 24 from rfl] at hC
  obtain ⟨n2, hn⟩ : ∃ n : Nat, n = num ((b.drop 16).take 8) := ⟨_, rfl⟩
  rw [← hn] at hC
  have HN2 := Lib.hid hn
  clear hn
  go_wp2_with fail
  refine hC.mono ?_
  rintro e w5 ⟨rfl, hR, hg⟩
  have HR5 : Hid (WR w5 w1.heap.size y b 24 false) := Lib.hid hR
  have HM5 := Lib.hid (HM4.out.grown hg (fun h => by injection h with h; have := HG.out; omega))
  have HB5 := Lib.hid (HB4.out.grown hg HB4.out.size (by intro z hz; injection hz with hz; have := HE.out; omega))
  clear hR hg hC HM4 HB4 HR4
  go_wp2_with fail
  refine (whole_any _ y b 24 false _ (HR5.out.alloc _)).mono ?_
  rintro e w6 ⟨rfl, hb9⟩
  have HB6' := HB5.out.alloc HB5.out.size (.cells #[.int .u64 (n0 : Int), .int .i64 (wrap64 (n1 : Int)), .int .u64 (n2 : Int)] 26)
  have HM6 := Lib.hid ((HM5.out.alloc (.cells #[.int .u64 (n0 : Int), .int .i64 (wrap64 (n1 : Int)), .int .u64 (n2 : Int)] 26)).below hb9 (HM5.out.alloc _).lt)
  have HK6 := Lib.hid ((Blk.new w5 26 #[.int .u64 (n0 : Int), .int .i64 (wrap64 (n1 : Int)), .int .u64 (n2 : Int)]).below hb9 (by simp))
  have HB6 := Lib.hid (HB6'.trans (hb9.mono HB6'.size))
  clear hb9 HB6' HM5 HB5 HR5
  rw [show wholeB b 24 false = true by rw [wholeB, H31.out]; rfl]
  have HME : Hid (mkAt b = ⟨(n0 : Int), wrap64 (n1 : Int), (n2 : Int)⟩) := Lib.hid (by
    simp only [mkAt]
    rw [HN0.out, HN1.out, HN2.out])
  have hMay := fun u => mfair_any ⟨(n0 : Int), wrap64 (n1 : Int), (n2 : Int)⟩ (okMk n0 n1 n2 (by rw [HN0.out]; exact num_lt8 _ (by simp; omega)) (by rw [HN2.out]; exact num_lt8 _ (by simp; omega))) u
  have HV : Hid (mkB ⟨(n0 : Int), wrap64 (n1 : Int), (n2 : Int)⟩ = false) := Lib.hid (by rw [← HME.out]; exact HMAY.out)
  rw [HV.out] at hMay
  simp only [mkV] at hMay
  have j0 := HK6.out.cell 0
  have j1 := HK6.out.cell 1
  have j2 := HK6.out.cell 2
  go_wp2_with fail
  refine (hMay _).mono ?_
  rintro e w7 ⟨rfl, hb10⟩
  have HM7 := Lib.hid (HM6.out.below hb10 HM6.out.lt)
  have HK7 := Lib.hid (HK6.out.below hb10 HK6.out.lt)
  have HB7 := Lib.hid (HB6.out.trans (hb10.mono HB6.out.size))
  clear hb10 hMay j0 j1 j2
  clear HM6 HK6 HB6
  have hfz := fun j => HM7.out.frozen j
  have k0 := HM7.out.cell 0
  have k1 := HM7.out.cell 1
  have k2 := HM7.out.cell 2
  go_wp2_with fail
  have hm2 := setall3 w.heap.size HM7.out (.int .u64 0) (.int .i64 0) (.int .u64 0)
  have hg2 : w7.grownBy (((w7.setCell ⟨w.heap.size, 0, none⟩ (.int .u64 0)).setCell ⟨w.heap.size, 1, none⟩ (.int .i64 0)).setCell ⟨w.heap.size, 2, none⟩ (.int .u64 0)) (some w.heap.size) := gset3 _ _ _ _ _
  refine bodyPost_ret (v := .tuple #[.agg #[.int .u64 0, .int .i64 0, .int .u64 0], code 2]) (by have c := hm2.cell; simp [results, go_sem, c]; try rfl) rfl ?_
  exact ⟨rfl, HB7.out.grown hg2 HB7.out.size (by intro z hz; injection hz with hz; omega)⟩


theorem mget_any {x : List UInt8} {v : Value} (w : World) (hv : Bs w v x) (hl : x.length ≤ 140737488355320) :
    Calls Tryd.prog 17 #[v] w fun e w' => e = .returned (.tuple #[meV (meX x).2, errV (meX x).1]) ∧ Below w.heap.size w w' := by
  by_cases h4 : x.length < 4
  · rw [meX, if_pos h4]
    exact mget_short w hv h4
  · by_cases hs : tailOf x = crcOf (bodyOf x)
    · rw [meX, if_neg h4, if_pos hs, meOf]
      by_cases h31 : (bodyOf x).length = 31
      · cases hm : meB (meAt (bodyOf x)) with
        | true => rw [if_pos ⟨h31, rfl⟩]; exact mget_may w hv (by omega) hl hs h31 hm
        | false => rw [if_neg (fun h => Bool.false_ne_true h.2)]; exact mget_not w hv (by omega) hl hs h31 hm
      · rw [if_neg (fun h => h31 h.1)]
        exact mget_len w hv (by omega) hl hs h31
    · rw [meX, if_neg h4, if_neg hs]
      exact mget_sum w hv (by omega) hl hs
theorem mmarked_any {x : List UInt8} {v : Value} (w : World) (hv : Bs w v x) (hl : x.length ≤ 140737488355320) :
    Calls Tryd.prog 18 #[v] w fun e w' => e = .returned (.tuple #[mkV (mkX x).2, errV (mkX x).1]) ∧ Below w.heap.size w w' := by
  by_cases h4 : x.length < 4
  · rw [mkX, if_pos h4]
    exact mmarked_short w hv h4
  · by_cases hs : tailOf x = crcOf (bodyOf x)
    · rw [mkX, if_neg h4, if_pos hs, mkOf]
      by_cases h31 : (bodyOf x).length = 24
      · cases hm : mkB (mkAt (bodyOf x)) with
        | true => rw [if_pos ⟨h31, rfl⟩]; exact mmarked_may w hv (by omega) hl hs h31 hm
        | false => rw [if_neg (fun h => Bool.false_ne_true h.2)]; exact mmarked_not w hv (by omega) hl hs h31 hm
      · rw [if_neg (fun h => h31 h.1)]
        exact mmarked_len w hv (by omega) hl hs h31
    · rw [mkX, if_neg h4, if_neg hs]
      exact mmarked_sum w hv (by omega) hl hs
end Go.Proofs.YtkhdlcoappkgkaaDoor

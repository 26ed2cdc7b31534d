/-
  CONTRACTS of the program's index: Put, read, Get. Conditions: what each says.
-/
import Derived.Test.YtnlflgannghfpaaIxB
namespace Go.Proofs.Ytnlflgannghfpaa
open Go.RowKit
set_option maxRecDepth 100000

theorem iput_bad (v : Value) (l : List Nat) (w : World) (h : Us w v l) (hx : ixB l = false) :
    Calls Try.prog 13 #[v] w fun e w' => e = .returned (.tuple #[.slice none 0 0, code 1]) ∧ Below w.heap.size w w' := by
  have hC := isIndex_any v l w h
  rw [hx] at hC
  clear hx
  obtain ⟨A, c, rfl, hc1, hc2⟩ := h.form
  go_enter Try.func13, Try.ntmps13
  go_wp2_with fail
  refine hC.mono ?_
  rintro e w1 ⟨rfl, hb1⟩
  go_wp2_with fail
  go_ret2
  exact ⟨rfl, hb1⟩

theorem putOk8n (n : Nat) (h : n < 18446744073709551616) : putOk 8 (n : Int) = true := by
  rw [putOk, Bool.and_eq_true]
  refine ⟨by decide, ?_⟩
  rw [decide_eq_true_eq]
  have : (256 : Nat) ^ (8 : Int).toNat = 18446744073709551616 := by decide
  rw [this]
  omega
theorem putOk2n (n : Nat) (h : n < 65536) : putOk 2 (n : Int) = true := by
  rw [putOk, Bool.and_eq_true]
  refine ⟨by decide, ?_⟩
  rw [decide_eq_true_eq]
  have : (256 : Nat) ^ (2 : Int).toNat = 65536 := by decide
  rw [this]
  omega

theorem iput_ok (v : Value) (l : List Nat) (w : World) (h : Us w v l) (hx : ixB l = true) (hb : ∀ x ∈ l, x < 18446744073709551616) :
    Calls Try.prog 13 #[v] w fun e w' => ∃ y, e = .returned (.tuple #[y, .nilIface]) ∧ Own w' w.heap.size 5 y (sealedOf (ixBytes l)) ∧ Below w.heap.size w w' := by
  have hC := isIndex_any v l w h
  have hl : l.length ≤ 200 := by
    have := hx
    rw [ixB, Bool.and_eq_true, decide_eq_true_eq] at this
    exact this.2
  rw [hx] at hC
  have H := Lib.hid h
  have HB := Lib.hid hb
  have HP2 := Lib.hid (putOk2n l.length (by omega))
  clear hx hb
  obtain ⟨A, c, rfl, hc1, hc2⟩ := h.form
  clear h
  go_enter Try.func13, Try.ntmps13
  go_wp2_with fail
  refine hC.mono ?_
  rintro e w1 ⟨rfl, hb1⟩
  have HB1 := Lib.hid hb1
  clear hb1 hC
  go_wp2_with fail
  refine (put_ok [] _ 2 (l.length : Int) _ (by omega) HP2.out (by simp) (Bs.nil _)).mono ?_
  rintro e w2 ⟨y, rfl, hy, hb2⟩
  have HY : Hid (Own w2 w.heap.size 5 y (bet l.length 2)) := Lib.hid (by
    have := hy.lower HB1.out.size
    simpa using this)
  have HB2 := Lib.hid (HB1.out.trans (hb2.mono HB1.out.size))
  clear hy hb2 HB1
  go_wp2_with fail
  go_loopg [4, 21] l.length (fun gk yv iv wr => ∃ (k : Nat), k + gk = l.length ∧ iv = .int .i64 (k : Int) ∧ Hid (Own wr w.heap.size 5 yv (bet l.length 2 ++ (l.take k).flatMap fun x => bet x 8) ∧ Below w.heap.size w wr))
  case atStart => exact ⟨0, by omega, rfl, Lib.hid ⟨by simpa using HY.out, HB2.out⟩⟩
  case round =>
    obtain ⟨k, hk, rfl, HM⟩ := hrel
    by_cases hkl : k < l.length
    · obtain ⟨gk1, hgk1⟩ : ∃ x, gk = x + 1 := ⟨gk - 1, by omega⟩
      obtain ⟨x, hx⟩ : ∃ x, l[k]? = some x := ⟨_, List.getElem?_eq_getElem hkl⟩
      obtain ⟨q, o, rfl, hq, hcx⟩ := (H.out.below HM.out.2).cell hx
      have hxl : x < 18446744073709551616 := HB.out x (List.mem_of_getElem? hx)
      have HP8 := Lib.hid (putOk8n x hxl)
      have HF : Hid ((l.take (k + 1)).flatMap (fun x => bet x 8) = ((l.take k).flatMap fun x => bet x 8) ++ bet x 8) := Lib.hid (by
        obtain ⟨h1, e1⟩ := List.getElem?_eq_some_iff.1 hx
        rw [List.take_succ_eq_append_getElem h1, List.flatMap_append, e1]
        simp)
      have HL : Hid ((bet l.length 2 ++ (l.take k).flatMap fun x => bet x 8).length ≤ 140737488355320) := Lib.hid (by
        rw [List.length_append, bet_length, ix_flat, List.length_take]
        omega)
      have a0 : (0 : Int) ≤ (k : Int) := by omega
      have a1 : (k : Int) < (l.length : Int) := by omega
      clear hx hxl
      go_wp2_with fail
      refine (put_ok _ _ 8 (x : Int) _ (by omega) HP8.out HL.out HM.out.1.bs).mono ?_
      rintro e w3 ⟨z, rfl, hz, hb3⟩
      have HZ : Hid (Own w3 w.heap.size 5 z (bet l.length 2 ++ (l.take (k + 1)).flatMap fun x => bet x 8)) := Lib.hid (by
        have := hz.lower HM.out.2.size
        rw [HF.out, ← List.append_assoc]
        simpa using this)
      have HB3 := Lib.hid (HM.out.2.trans (hb3.mono HM.out.2.size))
      clear hz hb3
      go_wp2_with fail
      go_roundg gk1
      case measure => omega
      case rel => exact ⟨k + 1, by omega, by go_num, Lib.hid ⟨HZ.out, HB3.out⟩⟩
    · have hkn : k = l.length := by omega
      subst hkn
      have HE : Hid (Own wr w.heap.size 5 u4 (ixBytes l)) := Lib.hid (by
        have := HM.out.1
        rw [List.take_length] at this
        exact this)
      have HBr := Lib.hid HM.out.2
      have HL : Hid ((ixBytes l).length ≤ 140737488355320) := Lib.hid (by rw [ixBytes_length]; omega)
      clear HM hkl
      go_wp2_with fail
      refine (seal_any _ _ _ HL.out HE.out.bs).mono ?_
      rintro e w3 ⟨z, rfl, hz, hb3⟩
      go_wp2_with fail
      go_ret2
      exact ⟨_, rfl, hz.lower HBr.out.size, HBr.out.trans (hb3.mono HBr.out.size)⟩

theorem iread_short (v : Value) (b : List UInt8) (w : World) (h : Bs w v b) (hl : b.length < 2) :
    Calls Try.prog 29 #[v] w fun e w' => e = .returned (.tuple #[.slice none 0 0, .bool false]) ∧ Below w.heap.size w w' := by
  have hW := fun (g : Nat) (u : World) (hu : WR u g v b 0 false) => word_no g v b 0 false 2 u hu (by simp [wordOk, isW]; omega)
  go_enter Try.func29, Try.ntmps29
  go_wp2_with fail
  refine (read_any v b w h).mono ?_
  rintro e w2 ⟨rfl, hR2, hb2⟩
  go_wp2_with fail
  refine (hW _ _ hR2).mono ?_
  rintro e w3 ⟨rfl, hR3, hg3⟩
  have HB3 := Lib.hid (hb2.grown hg3 hb2.size (by intro k hk; injection hk with hk; omega))
  have hBad := bad_any _ v b 0 true _ hR3
  simp only [if_true] at hBad
  clear hW hR2 hb2 hg3
  go_wp2_with fail
  refine hBad.mono ?_
  rintro e w4 ⟨rfl, rfl⟩
  go_wp2_with fail
  go_ret2
  exact ⟨rfl, HB3.out⟩

theorem iread_amiss (v : Value) (b : List UInt8) (w : World) (h : Bs w v b) (hl : 2 ≤ b.length) (hne : b.length ≠ 2 + 8 * num (b.take 2)) (hbl : b.length ≤ 140737488355328) :
    Calls Try.prog 29 #[v] w fun e w' => e = .returned (.tuple #[.slice none 0 0, .bool false]) ∧ Below w.heap.size w w' := by
  have hW := fun (g : Nat) (u : World) (hu : WR u g v b 0 false) => word_yes g v b 0 false 2 u hu (by simp [wordOk, isW]; omega)
  have e2 : (b.drop 0).take (2 : Int).toNat = b.take 2 := by rw [List.drop_zero]; rfl
  have hn : num (b.take 2) < 65536 := by
    have := num_lt (b.take 2)
    rw [List.length_take, Nat.min_eq_left hl] at this
    exact this
  rw [e2] at hW
  generalize num (b.take 2) = n at *
  have hwt : wrap64 (n : Int) = (n : Int) := IntWalk.wrap64_in _ ⟨by omega, by omega⟩
  have hne2 : ((b.length : Int) - 2 != (n : Int) * 8) = true := by
    have : ¬ (b.length : Int) - 2 = (n : Int) * 8 := by omega
    simp [this]
  clear e2
  go_enter Try.func29, Try.ntmps29
  go_wp2_with fail
  refine (read_any v b w h).mono ?_
  rintro e w2 ⟨rfl, hR2, hb2⟩
  go_wp2_with fail
  refine (hW _ _ hR2).mono ?_
  rintro e w3 ⟨rfl, hR3, hg3⟩
  have HB3 := Lib.hid (hb2.grown hg3 hb2.size (by intro k hk; injection hk with hk; omega))
  have hBad := bad_any _ v b _ false _ hR3
  have hLeft := left_any _ v b _ false _ hR3
  simp only [if_neg Bool.false_ne_true] at hBad
  rw [show ((b.length : Int) - ((0 + (2 : Int).toNat : Nat) : Int)) = (b.length : Int) - 2 from rfl] at hLeft
  clear hW hR2 hb2 hg3 hne hR3
  go_wp2_with fail
  refine hBad.mono ?_
  rintro e w4 ⟨rfl, rfl⟩
  go_wp2_with fail
  refine hLeft.mono ?_
  rintro e w4 ⟨rfl, m, rfl⟩
  go_wp2_with fail
  go_ret2
  exact ⟨rfl, below_drewN HB3.out _⟩

theorem iread_yes (v : Value) (b : List UInt8) (w : World) (h : Bs w v b) (hl : 2 ≤ b.length) (hne : b.length = 2 + 8 * num (b.take 2)) :
    Calls Try.prog 29 #[v] w fun e w' => ∃ y, e = .returned (.tuple #[y, .bool true]) ∧ OwnU w' w.heap.size y (ixNums b (num (b.take 2))) ∧ Below w.heap.size w w' := by
  have hW := fun (g : Nat) (u : World) (hu : WR u g v b 0 false) => word_yes g v b 0 false 2 u hu (by simp [wordOk, isW]; omega)
  have e2 : (b.drop 0).take (2 : Int).toNat = b.take 2 := by rw [List.drop_zero]; rfl
  have hn : num (b.take 2) < 65536 := by
    have := num_lt (b.take 2)
    rw [List.length_take, Nat.min_eq_left hl] at this
    exact this
  rw [e2] at hW
  generalize num (b.take 2) = n at *
  have hwt : wrap64 (n : Int) = (n : Int) := IntWalk.wrap64_in _ ⟨by omega, by omega⟩
  have hne2 : ((b.length : Int) - 2 != (n : Int) * 8) = false := by
    have : (b.length : Int) - 2 = (n : Int) * 8 := by omega
    simp [this]
  have HW8 : Hid (∀ (k : Nat), k < n → ∀ (g : Nat) (u : World), WR u g v b (2 + 8 * k) false → Calls Try.prog 45 #[.pointer (some ⟨g, 0, none⟩), .int .i64 8] u fun e w' => e = .returned (.int .u64 (num ((b.drop (2 + 8 * k)).take 8))) ∧ WR w' g v b (2 + 8 * (k + 1)) false ∧ u.grownBy w' (some g)) := Lib.hid fun k hk g u hu => by
    have := word_yes g v b (2 + 8 * k) false 8 u hu (by simp [wordOk, isW]; omega)
    rw [show 2 + 8 * k + (8 : Int).toNat = 2 + 8 * (k + 1) by have : (8 : Int).toNat = 8 := rfl; omega] at this
    exact this
  have HNE := Lib.hid hne
  clear e2 hne hl
  go_enter Try.func29, Try.ntmps29
  go_wp2_with fail
  refine (read_any v b w h).mono ?_
  rintro e w2 ⟨rfl, hR2, hb2⟩
  go_wp2_with fail
  refine (hW _ _ hR2).mono ?_
  rintro e w3 ⟨rfl, hR3, hg3⟩
  have HB3 := Lib.hid (hb2.grown hg3 hb2.size (by intro k hk; injection hk with hk; omega))
  have hBad := bad_any _ v b _ false _ hR3
  have hLeft := left_any _ v b _ false _ hR3
  simp only [if_neg Bool.false_ne_true] at hBad
  rw [show ((b.length : Int) - ((0 + (2 : Int).toNat : Nat) : Int)) = (b.length : Int) - 2 from rfl] at hLeft
  have HR3 : Hid (WR w3 w.heap.size v b (2 + 8 * 0) false) := Lib.hid hR3
  clear hW hR2 hb2 hg3 hR3
  go_wp2_with fail
  refine hBad.mono ?_
  rintro e w4 ⟨rfl, rfl⟩
  go_wp2_with fail
  refine hLeft.mono ?_
  rintro e w4 ⟨rfl, m, rfl⟩
  have HR4 : Hid (WR (w3.drewN m) w.heap.size v b (2 + 8 * 0) false) := Lib.hid (HR3.out.drewN m)
  have HB4 := Lib.hid (below_drewN HB3.out m)
  revert HR4 HB4
  generalize w3.drewN m = w4
  intro HR4 HB4
  clear hLeft hBad HB3 HR3
  go_wp2_with fail
  have HVB : Hid (b ≠ [] → ∀ z, v.ownBlock = some z → z < w.heap.size) := Lib.hid fun hne z hz => by
    obtain ⟨k, hk, hlt⟩ := h.block hne
    rw [hk] at hz
    injection hz with hz
    omega
  have HLT : Hid (w.heap.size < w4.heap.size) := Lib.hid HR4.out.blk.lt
  have HNL : Hid (∀ k, (ixNums b k).length = k) := Lib.hid (ixNums_length b)
  clear h
  go_loopg [6, 23] n (fun gk ov iv wr => ∃ (k : Nat), k + gk = n ∧ iv = .int .i64 (k : Int) ∧ Hid (OwnU wr w4.heap.size ov (ixNums b k) ∧ WR wr w.heap.size v b (2 + 8 * k) false ∧ Below w.heap.size w wr ∧ w4.heap.size ≤ wr.heap.size))
  case atStart => exact ⟨0, by omega, rfl, Lib.hid ⟨OwnU.nil _ _, HR4.out, HB4.out, Nat.le_refl _⟩⟩
  case round =>
    obtain ⟨k, hk, rfl, HM⟩ := hrel
    by_cases hkl : k < n
    · obtain ⟨gk1, hgk1⟩ : ∃ x, gk = x + 1 := ⟨gk - 1, by omega⟩
      have hC := HW8.out k hkl _ _ HM.out.2.1
      have HS := Lib.hid (ixNums_succ b k)
      generalize num ((b.drop (2 + 8 * k)).take 8) = x at hC HS
      go_wp2_with fail
      refine hC.mono ?_
      rintro e w5 ⟨rfl, hR5, hg5⟩
      have HB5 := Lib.hid (HM.out.2.2.1.grown hg5 HM.out.2.2.1.size (by intro z hz; injection hz with hz; omega))
      have HO5 : Hid (OwnU w5 w4.heap.size u6 (ixNums b k)) := Lib.hid (OwnL.kept HM.out.1 hg5 (.inr fun e => by
        have := (HM.out.1.lt _ e).1
        have := HLT.out
        omega))
      have HR5 := Lib.hid hR5
      have HZ5 : Hid (w4.heap.size ≤ w5.heap.size) := Lib.hid (Nat.le_trans HM.out.2.2.2 hg5.size)
      have HL5 : Hid ((ixNums b k).length + [x].length ≤ 1000000000000) := Lib.hid (by rw [ixNums_length]; simp only [List.length_cons, List.length_nil]; omega)
      clear hC hR5 hg5 HM
      have H6 : Hid (Below w5.heap.size w5 (w5.alloc (.cells #[.int .u64 (x : Int)] 23))) := Lib.hid ((Below.refl _ _).alloc (Nat.le_refl _) _)
      go_wp2_with (at_builtin; refine wpList_append_u rfl _ _ rfl rfl (HO5.out.below H6.out) rfl (Us.lit w5 x _) HL5.out (Nat.le_trans HZ5.out H6.out.size) ?_)
      intro v7 w7 ho7 hg7 _
      have HO7 : Hid (OwnU w7 w4.heap.size v7 (ixNums b (k + 1))) := Lib.hid (by rw [HS.out]; exact ho7)
      have hge : ∀ z, u6.ownBlock = some z → w4.heap.size ≤ z := fun z hz => (HO5.out.lt z hz).1
      have HR7 : Hid (WR w7 w.heap.size v b (2 + 8 * (k + 1)) false) := Lib.hid ((HR5.out.below H6.out).grown hg7 (fun e => by
        have := hge _ e.symm
        have := HLT.out
        omega) (fun hne e => by
        cases hv : u6.ownBlock with
        | none =>
          rw [hv] at e
          obtain ⟨z, hz, _⟩ := HR5.out.bs.block hne
          rw [hz] at e
          cases e
        | some z =>
          rw [hv] at e
          have h1 := HVB.out hne z e
          have h2 := hge z hv
          have := HLT.out
          omega))
      have HB6 := Lib.hid (HB5.out.trans (H6.out.mono HB5.out.size))
      have HB7 := Lib.hid (HB6.out.grown hg7 HB6.out.size (fun z hz => Nat.le_trans (Nat.le_of_lt HLT.out) (hge z hz)))
      have HZ7 : Hid (w4.heap.size ≤ w7.heap.size) := Lib.hid (Nat.le_trans (Nat.le_trans HZ5.out H6.out.size) hg7.size)
      clear ho7 hg7 hge
      go_wp2_with fail
      go_roundg gk1
      case measure => omega
      case rel => exact ⟨k + 1, by omega, by go_num, Lib.hid ⟨HO7.out, HR7.out, HB7.out, HZ7.out⟩⟩
    · have hkn : k = n := by omega
      subst hkn
      go_wp2_with fail
      go_ret2
      exact ⟨_, rfl, HM.out.1.lower (Nat.le_of_lt HLT.out), HM.out.2.2.1⟩
end Go.Proofs.Ytnlflgannghfpaa

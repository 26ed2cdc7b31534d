/-
  CONTRACTS of the document's index: Rises, Find, Index, Indexed. Conditions: what each says.
-/
import Derived.Test.YtnlflgannghfpaaIxB
namespace Go.Proofs.Ytnlflgannghfpaa
open Go.RowKit
set_option maxRecDepth 100000

set_option maxHeartbeats 1600000 in
theorem Rises_any (v : Value) (l : List Nat) (w : World) (h : Us w v l) :
    Calls Try.prog 14 #[v] w fun e w' => e = .returned (.bool (ixB l)) ∧ Below w.heap.size w w' := by
  obtain ⟨A, c, rfl, hc1, hc2⟩ := h.form
  have H := Lib.hid h
  clear h
  go_enter Try.func14, Try.ntmps14
  go_wp2_with fail
  go_loopg [3] l.length (fun gk iv wr => ∃ (k m : Nat), k + gk = l.length + 1 ∧ k = m + 1 ∧ iv = .int .i64 (k : Int) ∧ Hid (Below w.heap.size w wr ∧ risB (l.take k) = true))
  case atStart => exact ⟨1, 0, by omega, rfl, rfl, Lib.hid ⟨Below.refl _ _, by
    cases l with
    | nil => rfl
    | cons a l => rfl⟩⟩
  case round =>
    obtain ⟨k, m, hk, hkm, rfl, HM⟩ := hrel
    by_cases hkl : k < l.length
    · obtain ⟨gk1, hgk1⟩ : ∃ x, gk = x + 1 := ⟨gk - 1, by omega⟩
      obtain ⟨x, hx⟩ : ∃ x, l[k]? = some x := ⟨_, List.getElem?_eq_getElem hkl⟩
      obtain ⟨y, hy⟩ : ∃ y, l[m]? = some y := ⟨_, List.getElem?_eq_getElem (by omega)⟩
      obtain ⟨q, o, rfl, hq, hcx⟩ := (H.out.below HM.out.1).cell hx
      obtain ⟨q', o', he, _, hcy⟩ := (H.out.below HM.out.1).cell hy
      simp only [Option.some.injEq, Addr.mk.injEq, and_true] at he
      obtain ⟨rfl, rfl⟩ := he
      have HU := Lib.hid (risB_take_succ hkm hy hx)
      have hwm : IntKind.i64.wrap ((k : Int) - 1) = (m : Int) := wrap_pred hkm (by omega)
      have hm0 : (0 : Int) ≤ (m : Int) := by omega
      have hm1 : (m : Int) < (l.length : Int) := by omega
      have a0 : (0 : Int) ≤ (k : Int) := by omega
      have a1 : (k : Int) < (l.length : Int) := by omega
      have HKM := Lib.hid hkm
      clear hx hy hkm
      by_cases hlt : y < x
      · have HU2 : Hid (risB (l.take (k + 1)) = true) := Lib.hid (by rw [HU.out, HM.out.2, decide_eq_true hlt]; rfl)
        go_wp2_with fail
        go_quiet (fail)
        go_wp2_with fail
        go_roundg gk1
        case measure => omega
        case rel => exact ⟨k + 1, k, by omega, rfl, by go_num, Lib.hid ⟨below_drewN HM.out.1 _, HU2.out⟩⟩
      · have HE : Hid (ixB l = false) := Lib.hid (by
          have h1 : risB (l.take (k + 1)) = false := by rw [HU.out, decide_eq_false hlt, Bool.and_false]
          rw [ixB, risB_take_false h1, Bool.false_and])
        go_wp2_with fail
        go_quiet (fail)
        go_wp2_with fail
        go_ret
        exact ⟨ret_bool HE.out.symm, below_drewN HM.out.1 _⟩
    · have HE : Hid (ixB l = decide ((l.length : Int) ≤ 200)) := Lib.hid (by
        have h1 := HM.out.2
        rw [List.take_of_length_le (by omega)] at h1
        rw [ixB, h1, Bool.true_and]
        congr 1
        apply propext
        omega)
      have HB := Lib.hid HM.out.1
      clear HM hkm
      go_wp2_with fail
      go_ret
      exact ⟨ret_bool HE.out.symm, HB.out⟩

theorem IsAt.step_yes {l : List Nat} {id k x : Nat} (hx : l[k]? = some x) (hle : x ≤ id) : IsAt (l.take (k + 1)) id (k : Int) := by
  have hk := (List.getElem?_eq_some_iff.1 hx).1
  refine ⟨by omega, by rw [List.length_take]; omega, fun i y h e => ?_, fun i y h e => ?_⟩
  · have : i = k := by omega
    subst this
    rw [List.getElem?_take, if_pos (by omega), hx] at h
    injection h with h
    omega
  · rw [List.getElem?_take, if_neg (by omega)] at h
    cases h
theorem IsAt.step_no {l : List Nat} {id k x : Nat} {a : Int} (h : IsAt (l.take k) id a) (hx : l[k]? = some x) (hgt : id < x) : IsAt (l.take (k + 1)) id a := by
  have hk := (List.getElem?_eq_some_iff.1 hx).1
  obtain ⟨h1, h2, h3, h4⟩ := h
  rw [List.length_take] at h2
  refine ⟨h1, by rw [List.length_take]; omega, fun i y h e => ?_, fun i y h e => ?_⟩
  · rw [List.getElem?_take] at h
    split at h
    · exact h3 i y (by rw [List.getElem?_take, if_pos (by omega)]; exact h) e
    · cases h
  · rw [List.getElem?_take] at h
    split at h
    · by_cases hik : i = k
      · subst hik
        rw [hx] at h
        injection h with h
        omega
      · exact h4 i y (by rw [List.getElem?_take, if_pos (by omega)]; exact h) e
    · cases h

theorem DFind_any (v : Value) (l : List Nat) (id : Nat) (w : World) (h : Us w v l) :
    Calls Try.prog 12 #[v, .int .u64 (id : Int)] w fun e w' => ∃ k : Int, e = .returned (.int .i64 k) ∧ IsAt l id k ∧ w = w' := by
  obtain ⟨A, c, rfl, hc1, hc2⟩ := h.form
  have H := Lib.hid h
  clear h
  go_enter Try.func12, Try.ntmps12
  go_wp2_with fail
  go_loopg [5, 6] l.length (fun gk av iv wr => ∃ (k : Nat) (a : Int), k + gk = l.length ∧ iv = .int .i64 (k : Int) ∧ av = .int .i64 a ∧ wr = w ∧ Hid (IsAt (l.take k) id a))
  case atStart => exact ⟨0, -1, by omega, rfl, rfl, rfl, Lib.hid ⟨by omega, by omega, fun i x h e => by omega, fun i x h e => by simp at h⟩⟩
  case round =>
    obtain ⟨k, a, hk, rfl, rfl, rfl, HM⟩ := hrel
    by_cases hkl : k < l.length
    · obtain ⟨gk1, hgk1⟩ : ∃ x, gk = x + 1 := ⟨gk - 1, by omega⟩
      obtain ⟨x, hx⟩ : ∃ x, l[k]? = some x := ⟨_, List.getElem?_eq_getElem hkl⟩
      obtain ⟨q, o, rfl, hq, hcx⟩ := H.out.cell hx
      have HX := Lib.hid hx
      have a0 : (0 : Int) ≤ (k : Int) := by omega
      have a1 : (k : Int) < (l.length : Int) := by omega
      clear hx
      by_cases hle : x ≤ id
      · have HM2 := Lib.hid (IsAt.step_yes HX.out hle)
        go_wp2_with fail
        go_roundg gk1
        case measure => omega
        case rel => exact ⟨k + 1, k, by omega, by go_num, rfl, rfl, HM2⟩
      · have HM2 := Lib.hid (IsAt.step_no HM.out HX.out (Nat.lt_of_not_le hle))
        go_wp2_with fail
        go_roundg gk1
        case measure => omega
        case rel => exact ⟨k + 1, a, by omega, by go_num, rfl, rfl, HM2⟩
    · have hkn : k = l.length := by omega
      subst hkn
      have HE : Hid (IsAt l id a) := Lib.hid (by
        have := HM.out
        rw [List.take_length] at this
        exact this)
      go_wp2_with fail
      go_ret
      exact ⟨_, rfl, HE.out, rfl⟩

theorem Index_any (v : Value) (l : List Nat) (w : World) (h : Us w v l) (hb : ∀ x ∈ l, x < 18446744073709551616) (hl : l.length ≤ 1000) :
    Calls Try.prog 15 #[v] w fun e w' => ∃ y, e = .returned y ∧ Bs w' y (sealedOf (ixBytes l)) ∧ Below w.heap.size w w' := by
  obtain ⟨A, c, rfl, hc1, hc2⟩ := h.form
  have H := Lib.hid h
  have HB := Lib.hid hb
  clear h hb
  go_enter Try.func15, Try.ntmps15
  go_wp2_with fail
  refine (Bytes_any 2 (l.length : Int) _ (by omega) (by omega) (by omega) (by omega)).mono ?_
  rintro e w1 ⟨y, rfl, hy, hb1⟩
  rw [Int.toNat_natCast, show Int.toNat 2 = 2 from rfl] at hy
  have HY := Lib.hid hy
  have HB1 := Lib.hid hb1
  clear hy hb1
  go_wp2_with fail
  go_loopg [3, 4] l.length (fun gk yv iv wr => ∃ (k : Nat), k + gk = l.length ∧ iv = .int .i64 (k : Int) ∧ Hid (Own wr w.heap.size 5 yv (bet l.length 2 ++ (l.take k).flatMap fun x => bet x 8) ∧ Below w.heap.size w wr))
  case atStart => exact ⟨0, by omega, rfl, Lib.hid ⟨by simpa using HY.out, HB1.out⟩⟩
  case round =>
    obtain ⟨k, hk, rfl, HM⟩ := hrel
    by_cases hkl : k < l.length
    · obtain ⟨gk1, hgk1⟩ : ∃ x, gk = x + 1 := ⟨gk - 1, by omega⟩
      obtain ⟨x, hx⟩ : ∃ x, l[k]? = some x := ⟨_, List.getElem?_eq_getElem hkl⟩
      obtain ⟨q, o, rfl, hq, hcx⟩ := (H.out.below HM.out.2).cell hx
      have hxl : (x : Int) < 18446744073709551616 := by have := HB.out x (List.mem_of_getElem? hx); omega
      have hx0 : (0 : Int) ≤ (x : Int) := by omega
      have hC := fun u => Bytes_any 8 (x : Int) u (by omega) (by omega) hx0 hxl
      have HF : Hid ((l.take (k + 1)).flatMap (fun x => bet x 8) = ((l.take k).flatMap fun x => bet x 8) ++ bet x 8) := Lib.hid (by
        obtain ⟨h1, e1⟩ := List.getElem?_eq_some_iff.1 hx
        rw [List.take_succ_eq_append_getElem h1, List.flatMap_append, e1]
        simp)
      have HL : Hid ((bet l.length 2 ++ (l.take k).flatMap fun x => bet x 8).length + (bet x 8).length ≤ 140737488355320) := Lib.hid (by
        rw [List.length_append, bet_length, bet_length, ix_flat, List.length_take]
        omega)
      have a0 : (0 : Int) ≤ (k : Int) := by omega
      have a1 : (k : Int) < (l.length : Int) := by omega
      clear hx hxl hx0
      go_wp2_with fail
      refine (hC _).mono ?_
      rintro e w3 ⟨z, rfl, hz, hb3⟩
      rw [Int.toNat_natCast, show Int.toNat 8 = 8 from rfl] at hz
      have HZ := Lib.hid hz
      have HO3 := Lib.hid (HM.out.1.below hb3)
      have HB3 := Lib.hid (HM.out.2.trans (hb3.mono HM.out.2.size))
      clear hC hz hb3
      go_wp2_with (at_builtin; refine wpList_append_v _ byteT rfl _ _ rfl w.heap.size _ _ rfl HO3.out _ _ rfl HZ.out.bs (Nat.le_trans HL.out (by omega)) HB3.out.size ?_)
      intro v4 w4 hown4 hg4 _
      have HO4 : Hid (Own w4 w.heap.size 5 v4 (bet l.length 2 ++ (l.take (k + 1)).flatMap fun x => bet x 8)) := Lib.hid (by
        rw [HF.out, ← List.append_assoc]
        exact hown4)
      have HB4 := Lib.hid (HB3.out.grown hg4 HB3.out.size HO3.out.ge)
      clear hown4 hg4
      go_wp2_with fail
      go_roundg gk1
      case measure => omega
      case rel => exact ⟨k + 1, by omega, by go_num, Lib.hid ⟨HO4.out, HB4.out⟩⟩
    · have hkn : k = l.length := by omega
      subst hkn
      have HE : Hid (Own wr w.heap.size 5 u3 (ixBytes l)) := Lib.hid (by
        have := HM.out.1
        rw [List.take_length] at this
        exact this)
      have HBr := Lib.hid HM.out.2
      have HL : Hid ((ixBytes l).length ≤ 140737488355320) := Lib.hid (by rw [ixBytes_length]; omega)
      clear HM hkl
      go_wp2_with fail
      refine (Seal_any _ _ _ HL.out HE.out.bs).mono ?_
      rintro e w3 ⟨z, rfl, hz, hb3⟩
      go_wp2_with fail
      go_ret
      exact ⟨_, rfl, hz.bs, HBr.out.trans (hb3.mono HBr.out.size)⟩

/-- the document's reader over these bytes, at the first -/
theorem RR.new {w : World} {A : Option Addr} {c : Nat} {b : List UInt8} (h : Bs w (.slice A b.length c) b) (hbl : b.length ≤ 140737488355328) :
    RR (w.alloc (.cells #[.slice A b.length c, .int .i64 0, .int .i64 (-1)] 63)) w.heap.size (.slice A b.length c) b 0 false :=
  ⟨Blk.new _ _ _, h.alloc _, Nat.zero_le _, fun hb e => by
    obtain ⟨k, hk, hk'⟩ := h.block hb
    rw [e] at hk
    injection hk
    omega, hbl⟩

set_option maxHeartbeats 3200000 in
theorem Indexed_yes {x : List UInt8} {v : Value} (w : World) (hv : Bs w v x) (h4 : 4 ≤ x.length) (hl : x.length ≤ 140737488355320) (hs : tailOf x = crcOf (bodyOf x)) :
    Calls Try.prog 17 #[v] w fun e w' => ∃ y, e = .returned (.tuple #[y, .int .i64 (ixX x).1]) ∧ Us w' y (ixX x).2 ∧ Below w.heap.size w w' := by
  have HS := Lib.hid hs
  have hO := Open_long x v w h4 (by omega) hv
  have HX : Hid (ixX x = ixRes (ixGet (bodyOf x))) := Lib.hid (by rw [ixX, if_neg (by omega), if_pos hs])
  have HLen : Hid ((bodyOf x).length ≤ 140737488355328) := Lib.hid (by rw [bodyOf_length]; omega)
  clear hs hl h4
  go_enter Try.func17, Try.ntmps17
  go_wp2_with fail
  refine hO.mono ?_
  rintro e w1 ⟨y, f, rfl, hOp, hb1⟩
  obtain ⟨rfl, hoy⟩ := hOp.yes HS.out
  have HB1 := Lib.hid hb1
  clear hO hOp hb1
  generalize bodyOf x = b at *
  have HOy := Lib.hid hoy
  obtain ⟨A, c, rfl, hc1, hc2, _⟩ := hoy
  have HR0 := Lib.hid (RR.new HOy.out HLen.out)
  have hb0 : Below w1.heap.size w1 (w1.alloc (.cells #[.slice A b.length c, .int .i64 0, .int .i64 (-1)] 63)) := (Below.refl _ _).alloc (Nat.le_refl _) _
  have HB0 := Lib.hid (HB1.out.trans (hb0.mono HB1.out.size))
  clear hb0
  by_cases h2 : b.length < 2
  · have HBAD : Hid (wordOk b 0 false 2 = false) := Lib.hid (by simp [wordOk, isW]; omega)
    have HE : Hid (ixX x = (2, [])) := Lib.hid (by
      rw [HX.out, ixGet, if_neg (fun h => by omega)]
      rfl)
    clear h2
    go_wp2_with fail
    refine (Word_no _ _ b _ _ _ HR0.out HBAD.out).mono ?_
    rintro e w2 ⟨rfl, hW2, hg2⟩
    have HB2 := Lib.hid (HB0.out.grown hg2 HB0.out.size (by intro k hk; injection hk with hk; have := HB1.out.size; omega))
    have k2 := hW2.blk.cell 2
    simp [badAt] at k2
    clear hg2 hW2
    go_wp2_with fail
    go_ret2
    rw [HE.out]
    exact ⟨_, rfl, Us.nil _, HB2.out⟩
  · have HOK : Hid (wordOk b 0 false 2 = true) := Lib.hid (by simp [wordOk, isW]; omega)
    have e2 : (b.drop 0).take (2 : Int).toNat = b.take 2 := by rw [List.drop_zero]; rfl
    have hn : num (b.take 2) < 65536 := by
      have := num_lt (b.take 2)
      rw [List.length_take, Nat.min_eq_left (by omega)] at this
      exact this
    have HXG : Hid (ixGet b = if b.length = 2 + 8 * num (b.take 2) ∧ ixB (ixNums b (num (b.take 2))) = true then some (ixNums b (num (b.take 2))) else none) := Lib.hid rfl
    have hC := Word_yes _ _ b 0 2 _ HR0.out HOK.out
    rw [e2] at hC
    generalize num (b.take 2) = n at *
    have hwt : wrap64 (n : Int) = (n : Int) := IntWalk.wrap64_in _ ⟨by omega, by omega⟩
    clear h2 e2
    by_cases hne : b.length = 2 + 8 * n
    · have hne2 : ((b.length : Int) != 2 + 8 * (n : Int)) = false := by
        have : (b.length : Int) = 2 + 8 * (n : Int) := by omega
        simp [this]
      have HNE := Lib.hid hne
      clear hne
      go_wp2_with fail
      refine hC.mono ?_
      rintro e w2 ⟨rfl, hW2, hg2⟩
      have HB2 := Lib.hid (HB0.out.grown hg2 HB0.out.size (by intro k hk; injection hk with hk; have := HB1.out.size; omega))
      have HR2 : Hid (RR w2 w1.heap.size (.slice A b.length c) b (2 + 8 * 0) false) := Lib.hid hW2
      have k2 := hW2.blk.cell 2
      simp [badAt] at k2
      clear hg2 hW2 hC HB0 HR0
      go_wp2_with fail
      have HVB : Hid (b ≠ [] → ∀ z, (Value.slice A b.length c).ownBlock = some z → z < w1.heap.size) := Lib.hid fun hne z hz => by
        obtain ⟨k, hk, hlt⟩ := HOy.out.block hne
        rw [hk] at hz
        injection hz with hz
        omega
      have HLT : Hid (w1.heap.size < w2.heap.size) := Lib.hid HR2.out.blk.lt
      have HW8 : Hid (∀ (k : Nat), k < n → ∀ (u : World), RR u w1.heap.size (.slice A b.length c) b (2 + 8 * k) false → Calls Try.prog 31 #[.pointer (some ⟨w1.heap.size, 0, none⟩), .int .i64 8] u fun e w' => e = .returned (.int .u64 (num ((b.drop (2 + 8 * k)).take 8))) ∧ RR w' w1.heap.size (.slice A b.length c) b (2 + 8 * (k + 1)) false ∧ u.grownBy w' (some w1.heap.size)) := Lib.hid fun k hk u hu => by
        have hb := HNE.out
        have := Word_yes _ _ b (2 + 8 * k) 8 u hu (by simp [wordOk, isW]; omega)
        rw [show 2 + 8 * k + (8 : Int).toNat = 2 + 8 * (k + 1) by have : (8 : Int).toNat = 8 := rfl; omega] at this
        exact this
      clear k2 hne2 hv HS
      go_loopg [8, 9] n (fun gk ov iv wr => ∃ (k : Nat), k + gk = n ∧ iv = .int .i64 (k : Int) ∧ Hid (OwnU wr w2.heap.size ov (ixNums b k) ∧ RR wr w1.heap.size (.slice A b.length c) b (2 + 8 * k) false ∧ Below w.heap.size w wr ∧ w2.heap.size ≤ wr.heap.size))
      case atStart => exact ⟨0, by omega, rfl, Lib.hid ⟨OwnU.nil _ _, HR2.out, HB2.out, Nat.le_refl _⟩⟩
      case round =>
        obtain ⟨k, hk, rfl, HM⟩ := hrel
        by_cases hkl : k < n
        · obtain ⟨gk1, hgk1⟩ : ∃ x, gk = x + 1 := ⟨gk - 1, by omega⟩
          have hC := HW8.out k hkl _ HM.out.2.1
          have HN := Lib.hid (ixNums_succ b k)
          have HNl := Lib.hid (ixNums_length b k)
          generalize num ((b.drop (2 + 8 * k)).take 8) = y at hC HN
          go_wp2_with fail
          refine hC.mono ?_
          rintro e w5 ⟨rfl, hR5, hg5⟩
          have HB5 := Lib.hid (HM.out.2.2.1.grown hg5 HM.out.2.2.1.size (by intro z hz; injection hz with hz; have := HB1.out.size; omega))
          have HO5 : Hid (OwnU w5 w2.heap.size u8 (ixNums b k)) := Lib.hid (OwnL.kept HM.out.1 hg5 (.inr fun e => by
            have := (HM.out.1.lt _ e).1
            have := HLT.out
            omega))
          have HR5 := Lib.hid hR5
          have HZ5 : Hid (w2.heap.size ≤ w5.heap.size) := Lib.hid (Nat.le_trans HM.out.2.2.2 hg5.size)
          have HL5 : Hid ((ixNums b k).length + [y].length ≤ 1000000000000) := Lib.hid (by rw [HNl.out]; simp only [List.length_cons, List.length_nil]; omega)
          clear hC hR5 hg5 HM
          have H6 : Hid (Below w5.heap.size w5 (w5.alloc (.cells #[.int .u64 (y : Int)] 23))) := Lib.hid ((Below.refl _ _).alloc (Nat.le_refl _) _)
          go_wp2_with (at_builtin; refine wpList_append_u rfl _ _ rfl rfl (HO5.out.below H6.out) rfl (Us.lit w5 y _) HL5.out (Nat.le_trans HZ5.out H6.out.size) ?_)
          intro v7 w7 ho7 hg7 _
          have HO7 : Hid (OwnU w7 w2.heap.size v7 (ixNums b (k + 1))) := Lib.hid (by rw [HN.out]; exact ho7)
          have hge : ∀ z, u8.ownBlock = some z → w2.heap.size ≤ z := fun z hz => (HO5.out.lt z hz).1
          have HR7 : Hid (RR w7 w1.heap.size (.slice A b.length c) b (2 + 8 * (k + 1)) false) := Lib.hid ((HR5.out.below H6.out).grown hg7 (fun e => by
            have := hge _ e.symm
            have := HLT.out
            omega) (fun hne e => by
            cases hv : u8.ownBlock with
            | none =>
              rw [hv] at e
              obtain ⟨z, hz, _⟩ := HR5.out.bs.block hne
              rw [hz] at e
              cases e
            | some z =>
              rw [hv] at e
              have h1 := HVB.out hne z e
              have h2 := hge z hv
              have := HLT.out
              omega))
          have HB6 := Lib.hid (HB5.out.trans (H6.out.mono HB5.out.size))
          have HB7 := Lib.hid (HB6.out.grown hg7 HB6.out.size (fun z hz => Nat.le_trans (Nat.le_trans HB1.out.size (Nat.le_of_lt HLT.out)) (hge z hz)))
          have HZ7 : Hid (w2.heap.size ≤ w7.heap.size) := Lib.hid (Nat.le_trans (Nat.le_trans HZ5.out H6.out.size) hg7.size)
          clear ho7 hg7 hge
          go_wp2_with fail
          go_roundg gk1
          case measure => omega
          case rel => exact ⟨k + 1, by omega, by go_num, Lib.hid ⟨HO7.out, HR7.out, HB7.out, HZ7.out⟩⟩
        · have hkn : k = n := by omega
          subst hkn
          have HO := Lib.hid HM.out.1.us
          have HBr := Lib.hid HM.out.2.2.1
          have hI := Rises_any _ _ _ HM.out.1.us
          clear HM
          cases hB : ixB (ixNums b k) with
          | true =>
            have HE : Hid (ixX x = (0, ixNums b k)) := Lib.hid (by rw [HX.out, HXG.out, if_pos ⟨HNE.out, hB⟩]; rfl)
            rw [hB] at hI
            clear hB
            go_wp2_with fail
            refine hI.mono ?_
            rintro e w3 ⟨rfl, hb3⟩
            have HB3 := Lib.hid (HBr.out.trans (hb3.mono HBr.out.size))
            have HO3 := Lib.hid (HO.out.below hb3)
            clear hI hb3
            go_wp2_with fail
            go_ret2
            rw [HE.out]
            exact ⟨_, rfl, HO3.out, HB3.out⟩
          | false =>
            have HE : Hid (ixX x = (2, [])) := Lib.hid (by rw [HX.out, HXG.out, if_neg (by rw [hB]; simp)]; rfl)
            rw [hB] at hI
            clear hB
            go_wp2_with fail
            refine hI.mono ?_
            rintro e w3 ⟨rfl, hb3⟩
            have HB3 := Lib.hid (HBr.out.trans (hb3.mono HBr.out.size))
            clear hI hb3
            go_wp2_with fail
            go_ret2
            rw [HE.out]
            exact ⟨_, rfl, Us.nil _, HB3.out⟩
    · have hne2 : ((b.length : Int) != 2 + 8 * (n : Int)) = true := by
        have : ¬ (b.length : Int) = 2 + 8 * (n : Int) := by omega
        simp [this]
      have HE : Hid (ixX x = (2, [])) := Lib.hid (by
        rw [HX.out, HXG.out, if_neg (fun h => hne h.1)]
        rfl)
      clear hne
      go_wp2_with fail
      refine hC.mono ?_
      rintro e w2 ⟨rfl, hW2, hg2⟩
      have HB2 := Lib.hid (HB0.out.grown hg2 HB0.out.size (by intro k hk; injection hk with hk; have := HB1.out.size; omega))
      have k2 := hW2.blk.cell 2
      simp [badAt] at k2
      clear hg2 hW2 hC
      go_wp2_with fail
      go_ret2
      rw [HE.out]
      exact ⟨_, rfl, Us.nil _, HB2.out⟩

theorem Indexed_any {x : List UInt8} {v : Value} (w : World) (hv : Bs w v x) (hl : x.length ≤ 140737488355320) :
    Calls Try.prog 17 #[v] w fun e w' => ∃ y, e = .returned (.tuple #[y, .int .i64 (ixX x).1]) ∧ Us w' y (ixX x).2 ∧ Below w.heap.size w w' := by
  by_cases h4 : x.length < 4
  · have he : ixX x = (2, []) := by rw [ixX, if_pos h4]
    rw [he]
    go_enter Try.func17, Try.ntmps17
    go_wp2_with fail
    refine (Open_short x v _ h4 hv).mono ?_
    rintro e w1 ⟨rfl, rfl⟩
    go_wp2_with fail
    go_ret2
    exact ⟨_, rfl, Us.nil _, Below.refl _ _⟩
  · by_cases hs : tailOf x = crcOf (bodyOf x)
    · exact Indexed_yes w hv (by omega) hl hs
    · have he : ixX x = (7, []) := by rw [ixX, if_neg h4, if_neg hs]
      have HS := Lib.hid hs
      have hO := Open_long x v w (by omega) hl hv
      rw [he]
      clear hs h4 hl he
      go_enter Try.func17, Try.ntmps17
      go_wp2_with fail
      refine hO.mono ?_
      rintro e w1 ⟨y, f, rfl, hOp, hb1⟩
      obtain ⟨rfl, rfl⟩ := hOp.no HS.out
      have HB1 := Lib.hid hb1
      clear hO hOp hb1
      go_wp2_with fail
      go_ret2
      exact ⟨_, rfl, Us.nil _, HB1.out⟩
end Go.Proofs.Ytnlflgannghfpaa

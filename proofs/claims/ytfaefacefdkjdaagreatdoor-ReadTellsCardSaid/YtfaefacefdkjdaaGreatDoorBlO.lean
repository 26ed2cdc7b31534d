/-
  THE DOCUMENT's FILTER: the CONTRACT of Filtered. Conditions: what it says.
-/
import Derived.Test.YtfaefacefdkjdaaGreatDoorBlJ
namespace Go.Proofs.YtfaefacefdkjdaaGreatDoor
open Go.RowKit
set_option maxRecDepth 100000

theorem getB_cons (x0 x1 x2 x3 : UInt8) (l : List UInt8) : getB (x0 :: x1 :: x2 :: x3 :: l) = if rightI (x0.toNat : Int) ((x2.toNat * 256 + x3.toNat : Nat) : Int) (x1.toNat : Int) && decide (l.length + 4 = 4 + x0.toNat * (x2.toNat * 256 + x3.toNat) / 8) then some ⟨x0.toNat, x2.toNat * 256 + x3.toNat, x1.toNat, l⟩ else none := by
  have e1 : num [x0] = x0.toNat := by simp [num]
  have e2 : num [x1] = x1.toNat := by simp [num]
  have e3 : num [x2, x3] = x2.toNat * 256 + x3.toNat := by simp [num]
  unfold getB
  rw [if_neg (by simp)]
  simp only [List.take_succ_cons, List.take_zero, List.drop_succ_cons, List.drop_zero, e1, e2, e3, List.length_cons]

theorem Bs.cells {w : World} {A : Option Addr} {n c : Nat} {l : List UInt8} (h : Bs w (.slice A n c) l) (hl : l ≠ []) : ∃ g o, A = some ⟨g, o, none⟩ ∧ g < w.heap.size ∧ ∀ j z, l[j]? = some z → w.cell? ⟨g, o + j, none⟩ = some (.int .u8 (z.toNat : Int)) := by
  obtain ⟨A', c', e, h1, h2, hr⟩ := h
  injection e with e1 e2 e3
  subst e1
  obtain ⟨x, m, rfl⟩ := List.exists_cons_of_ne_nil hl
  obtain ⟨ad, rfl, h0⟩ := hr 0 (.int .u8 (x.toNat : Int)) rfl
  have hz : ad.spot = none := by
    have := World.cell?_spot h0
    simpa [Addr.add] using this
  obtain ⟨g, o, sp⟩ := ad
  have hsp : sp = none := hz
  subst hsp
  refine ⟨g, o, rfl, by have := World.block_lt_of_cell? w _ h0; rw [add_block] at this; exact this, fun j z hj => ?_⟩
  have := hr.cells j (.int .u8 (z.toNat : Int)) (by rw [BV_getElem?, hj]; rfl)
  rwa [Addr.add_lit] at this

theorem DFiltered_short {x : List UInt8} {v : Value} (w : World) (hv : Bs w v x) (hl : x.length < 4) :
    Calls Tryz.prog 45 #[v] w fun e w' => e = .returned (.tuple #[.pointer none, .int .i64 2]) ∧ Below w.heap.size w w' := by
  go_enter Tryz.func45, Tryz.ntmps45
  go_wp2_with fail
  refine (Open_short x v w hl hv).mono ?_
  rintro e w1 ⟨rfl, rfl⟩
  go_wp2_with fail
  go_ret2
  exact ⟨rfl, Below.refl _ _⟩

set_option maxHeartbeats 800000 in
theorem DFiltered_sum {x : List UInt8} {v : Value} (w : World) (hv : Bs w v x) (h4 : 4 ≤ x.length) (hl : x.length ≤ 140737488355320) (hs : tailOf x ≠ crcOf (bodyOf x)) :
    Calls Tryz.prog 45 #[v] w fun e w' => e = .returned (.tuple #[.pointer none, .int .i64 7]) ∧ Below w.heap.size w w' := by
  have HS := Lib.hid hs
  have hO := Open_long x v w h4 hl hv
  clear hs hl h4
  go_enter Tryz.func45, Tryz.ntmps45
  go_wp2_with fail
  refine hO.mono ?_
  rintro e w1 ⟨y, f, rfl, hOp, hb1⟩
  obtain ⟨rfl, rfl⟩ := hOp.no HS.out
  have HB1 := Lib.hid hb1
  clear hO hOp hb1
  go_wp2_with fail
  go_ret2
  exact ⟨rfl, HB1.out⟩

def bitsTo (l : List UInt8) (t z : Nat) : Bool := decide (z < t) && bitAt l z
theorem bitsTo_zero (l : List UInt8) (z : Nat) : bitsTo l 0 z = false := by simp [bitsTo]
theorem bitsTo_all (l : List UInt8) (t z : Nat) (h : z < t) : bitsTo l t z = bitAt l z := by simp [bitsTo, h]
theorem bitsTo_succ (l : List UInt8) (t z : Nat) (v : Bool) (hv : v = bitAt l t) : bitsTo l (t + 1) z = if z = t then v else bitsTo l t z := by
  subst hv
  unfold bitsTo
  by_cases h : z = t
  · subst h
    simp
  · rw [if_neg h]
    have : (z < t + 1) = (z < t) := by
      apply propext
      omega
    simp only [this]

set_option maxHeartbeats 3200000 in
theorem DFiltered_body {x : List UInt8} {v : Value} (w : World) (hv : Bs w v x) (h4 : 4 ≤ x.length) (hl : x.length ≤ 1048576) (hs : tailOf x = crcOf (bodyOf x)) :
    Calls Tryz.prog 45 #[v] w fun e w' => Below w.heap.size w w' ∧ ((getB (bodyOf x) = none ∧ e = .returned (.tuple #[.pointer none, .int .i64 2])) ∨
      ∃ (g : Nat) (F : Nat → Prop) (b : Bl), getB (bodyOf x) = some b ∧ e = .returned (.tuple #[.pointer (some ⟨g, 0, none⟩), .int .i64 0]) ∧ DB w' F g b ∧ ∀ q, F q → w.heap.size ≤ q) := by
  have HS := Lib.hid hs
  have hO := Open_long x v w h4 (by omega) hv
  have hcl := bodyOf_length x
  obtain ⟨c, hcb⟩ : ∃ c, bodyOf x = c := ⟨_, rfl⟩
  have HC := Lib.hid hcb
  rw [hcb] at hcl ⊢
  have hcle : c.length ≤ 1048576 := by omega
  clear hcb h4 hcl hs
  go_enter Tryz.func45, Tryz.ntmps45
  go_wp2_with fail
  refine hO.mono ?_
  rintro e w1 ⟨y, f, rfl, hOp, hb1⟩
  obtain ⟨rfl, hbs⟩ := hOp.yes HS.out
  rw [HC.out] at hbs
  have HB1 := Lib.hid hb1
  clear hO hOp hb1
  have HBs := Lib.hid hbs
  obtain ⟨A, cy, rfl, hc1, hc2, hr⟩ := hbs
  by_cases hshort : c.length < 4
  · have HN : Hid (getB c = none) := Lib.hid (by rw [getB, if_pos hshort])
    clear hr
    go_wp2_with fail
    go_ret2
    exact ⟨HB1.out, .inl ⟨HN.out, rfl⟩⟩
  obtain ⟨x0, x1, x2, x3, l, rfl⟩ : ∃ x0 x1 x2 x3 l, c = x0 :: x1 :: x2 :: x3 :: l := by
    match c, hshort with
    | x0 :: x1 :: x2 :: x3 :: r, _ => exact ⟨x0, x1, x2, x3, r, rfl⟩
    | [], h => simp at h
    | [_], h => simp at h
    | [_, _], h => simp at h
    | [_, _, _], h => simp at h
  have HG := Lib.hid (getB_cons x0 x1 x2 x3 l)
  obtain ⟨gy, oy, rfl, hgy, hcy⟩ := HBs.out.cells (by simp)
  have HRd : Hid (∀ u, Below w1.heap.size w1 u → ∀ j z, (x0 :: x1 :: x2 :: x3 :: l)[j]? = some z → u.cell? ⟨gy, oy + j, none⟩ = some (.int .u8 (z.toNat : Int))) := Lib.hid fun u hu j z hj => (hu.cell (p := ⟨gy, _, none⟩) hgy).trans (hcy j z hj)
  have hc0 := HRd.out w1 (Below.refl _ _) 0 x0 rfl
  have hc1' := HRd.out w1 (Below.refl _ _) 1 x1 rfl
  have hc2' := HRd.out w1 (Below.refl _ _) 2 x2 rfl
  have hc3' := HRd.out w1 (Below.refl _ _) 3 x3 rfl
  have hx0 := x0.toNat_lt
  have hx1 := x1.toNat_lt
  have hx2 := x2.toNat_lt
  have hx3 := x3.toNat_lt
  rw [List.length_cons, List.length_cons, List.length_cons, List.length_cons] at hcle hc1 HBs ⊢
  have hL : ∃ L, L = l.length + 1 + 1 + 1 + 1 ∧ 4 ≤ L := ⟨_, rfl, by omega⟩
  obtain ⟨L, hL, hL4⟩ := hL
  rw [← hL] at hcle hc1 HBs ⊢
  have HLl : Hid (L = l.length + 4) := Lib.hid (by omega)
  obtain ⟨s, hs⟩ : ∃ s, x0.toNat = s := ⟨_, rfl⟩
  obtain ⟨h, hh⟩ : ∃ h, x1.toNat = h := ⟨_, rfl⟩
  obtain ⟨n, hn⟩ : ∃ n, x2.toNat * 256 + x3.toNat = n := ⟨_, rfl⟩
  rw [hs, hh, hn] at HG
  rw [hs] at hc0 hx0
  rw [hh] at hc1' hx1
  have hn' : (256 : Int) * (x2.toNat : Int) + (x3.toNat : Int) = (n : Int) := by omega
  have hi0 : 0 < L := by omega
  have hi1 : 1 < L := by omega
  have hi2 : 2 < L := by omega
  have hi3 : 3 < L := by omega
  clear hL hr hshort HBs hcy hgy
  rw [Nat.add_zero] at hc0
  go_wp2_with fail
  go_quiet (fail)
  have hb2 := below_drewN (Below.refl w1.heap.size w1) nq
  generalize w1.drewN nq = w2 at *
  have HB2 := Lib.hid (HB1.out.trans (hb2.mono HB1.out.size))
  have HRd2 : Hid (∀ u, Below w2.heap.size w2 u → ∀ j z, (x0 :: x1 :: x2 :: x3 :: l)[j]? = some z → u.cell? ⟨gy, oy + j, none⟩ = some (.int .u8 (z.toNat : Int))) := Lib.hid fun u hu j z hj => HRd.out u (hb2.trans (hu.mono hb2.size)) j z hj
  have h20 := HRd2.out w2 (Below.refl _ _) 0 x0 rfl
  have h21 := HRd2.out w2 (Below.refl _ _) 1 x1 rfl
  rw [hs, Nat.add_zero] at h20
  rw [hh] at h21
  have hnl : n < 65536 := by omega
  clear hb2 hc0 hc1' hc2' hc3' hn' hn hx2 hx3 HRd HB1
  cases hR : rightI (s : Int) (n : Int) (h : Int) with
  | false =>
    have HN : Hid (getB (x0 :: x1 :: x2 :: x3 :: l) = none) := Lib.hid (by rw [HG.out, hR]; rfl)
    have HRt := Lib.hid hR
    clear hR hs hh
    go_wp2_with fail
    go_quiet ((go_at_call 82; exact (Right_any _ _ _ _).mono fun _ _ ⟨h1, h2⟩ => ⟨h1, _, h2.symm⟩))
    rw [HRt.out]
    go_wp2_with fail
    go_ret2
    exact ⟨below_drewN HB2.out _, .inl ⟨HN.out, rfl⟩⟩
  | true =>
    have HRt := Lib.hid hR
    obtain ⟨r1, r2, r3, r4, r5, r6, r7⟩ := rightI_iff.1 hR
    obtain ⟨m, hm⟩ : ∃ m, s * n = m := ⟨_, rfl⟩
    have hmi : (s : Int) * (n : Int) = (m : Int) := by rw [← hm]; simp
    have hml : m ≤ 65536 := by
      have := Nat.mul_le_mul (show s ≤ 16 by omega) (show n ≤ 4096 by omega)
      omega
    have HM := Lib.hid hm
    by_cases hlen : L = 4 + m / 8
    · have HGs : Hid (getB (x0 :: x1 :: x2 :: x3 :: l) = some ⟨s, n, h, l⟩) := Lib.hid (by
        rw [HG.out, hR, hm, if_pos]
        have := HLl.out
        simp only [Bool.true_and, decide_eq_true_eq]
        omega)
      have hne : ((L : Int) != 4 + (m : Int) / 8) = false := by
        rw [bne_eq_false_iff_eq]
        omega
      have HLn := Lib.hid hlen
      have HSh := Lib.hid (And.intro hs hh)
      clear hR hs hh hm hlen
      go_wp2_with fail
      go_quiet ((go_at_call 82; exact (Right_any _ _ _ _).mono fun _ _ ⟨h1, h2⟩ => ⟨h1, _, h2.symm⟩))
      rw [HRt.out]
      have hb3 := below_drewN (Below.refl w2.heap.size w2) nq
      generalize w2.drewN nq = w3 at *
      have HB3 := Lib.hid (HB2.out.trans (hb3.mono HB2.out.size))
      have HRd3 : Hid (∀ u, Below w3.heap.size w3 u → ∀ j z, (x0 :: x1 :: x2 :: x3 :: l)[j]? = some z → u.cell? ⟨gy, oy + j, none⟩ = some (.int .u8 (z.toNat : Int))) := Lib.hid fun u hu j z hj => HRd2.out u (hb3.trans (hu.mono hb3.size)) j z hj
      have HS3 : Hid (∀ u, Below w3.heap.size w3 u → u.cell? ⟨gy, oy, none⟩ = some (.int .u8 (s : Int)) ∧ u.cell? ⟨gy, oy + 1, none⟩ = some (.int .u8 (h : Int))) := Lib.hid fun u hu => by
        have e0 := HRd3.out u hu 0 x0 rfl
        have e1 := HRd3.out u hu 1 x1 rfl
        rw [HSh.out.1, Nat.add_zero] at e0
        rw [HSh.out.2] at e1
        exact ⟨e0, e1⟩
      obtain ⟨h30, h31⟩ := HS3.out w3 (Below.refl _ _)
      clear hb3 h20 h21 HRd2 HB2
      go_wp2_with fail
      clear h30 h31
      have hj1 : (1 : Int) < (L : Int) := by omega
      have HWs : Hid (IntKind.i64.wrap (s : Int) = (s : Int)) := Lib.hid (IntWalk.i64_in _ (by omega))
      have HWh : Hid (IntKind.i64.wrap (h : Int) = (h : Int)) := Lib.hid (IntWalk.i64_in _ (by omega))
      have HNw := Lib.hid fun u : World => DNew_any (s := s) (n := n) (hs := h) u (by omega) (by omega) (by omega)
      refine wp_region_mix [(0, false), (1, false), (2, false), (3, false), (4, false), (5, false), (6, false), (7, false), (8, false), (9, true), (10, false)] (fun u => Below w3.heap.size w3 u) (by kernel_rfl) (by kernel_rfl) (by decide +kernel) rfl (Below.refl _ _).drew ?_
      repeat
        (refine mix_read (o := ⟨_, _, _, _, _, _⟩) (v := ?_) rfl (by rfl) (fun w' hU => ?_) ?_
         rotate_left
         obtain ⟨hU1, hU2⟩ := HS3.out _ hU
         go_simp
         with_reducible rfl
         try simp only [Act.put, List.setIfInBounds_toArray, List.set_cons_zero, List.set_cons_succ])
      refine mix_step (o := ⟨_, _, _, _, _, _⟩) rfl (fun K hK => ?_)
      go_simp
      rw [HWs.out, HWh.out]
      refine (HNw.out _).mono ?_
      rintro e w4 ⟨g, r, c, q, rfl, hD, hb4, hg, hrr, hq⟩
      have hb4' : Below w3.heap.size w3 w4 := (Below.refl w3.heap.size w3).drew.trans hb4
      refine hK.out _ _ hb4' ?_
      clear hK K
      try simp only [Act.put, List.setIfInBounds_toArray, List.set_cons_zero, List.set_cons_succ]
      repeat
        (refine mix_read (o := ⟨_, _, _, _, _, _⟩) (v := ?_) rfl (by rfl) (fun w' hU => ?_) ?_
         rotate_left
         go_simp
         with_reducible rfl
         try simp only [Act.put, List.setIfInBounds_toArray, List.set_cons_zero, List.set_cons_succ])
      refine mix_done ?_
      have HQ : Hid (w3.heap.size ≤ g ∧ w3.heap.size ≤ r ∧ ∀ i, i < s → w3.heap.size ≤ q i) := Lib.hid ⟨hg, hrr, hq⟩
      have HD4 : Hid (DBq w4 g r c q s n h (bitsTo l (0 * n)) ∧ Below w3.heap.size w3 w4) := Lib.hid ⟨hD.same fun z _ => by rw [Nat.zero_mul]; exact bitsTo_zero l z, hb4'⟩
      have hn8 : n % 8 = 0 := by omega
      have hp8 : ∀ i : Nat, i * n % 8 = 0 := fun i => mul8 hn8
      have HP8 := Lib.hid hp8
      have HOk : Hid (Bl.Ok ⟨s, n, h, l⟩) := Lib.hid (getB_some HGs.out).2.2.1
      clear hD hb4 hg hrr hq hb4' hmi hne hn8 hp8 hi0 hi1 hi2 hi3 hj1 r5
      go_wp2_with fail
      go_loopg [9] s (fun gk iv wr => ∃ i : Nat, i + gk = s ∧ iv = .int .i64 (i : Int) ∧ Hid (DBq wr g r c q s n h (bitsTo l (i * n)) ∧ Below w3.heap.size w3 wr))
      case atStart => exact ⟨0, by omega, rfl, HD4⟩
      case round =>
        obtain ⟨i, hi, rfl, HW⟩ := hrel
        have k2 := HW.out.1.blk.cell 2
        simp at k2
        by_cases hlt : i < s
        · obtain ⟨gk1, hgk1⟩ : ∃ x, gk = x + 1 := ⟨gk - 1, by omega⟩
          have HGK := Lib.hid hgk1
          have HI := Lib.hid hi
          have HIs := Lib.hid hlt
          clear hgk1 hi
          go_wp2_with fail
          clear k2
          go_loopg [10] n (fun gk kv wq => ∃ k : Nat, k + gk = n ∧ kv = .int .i64 (k : Int) ∧ Hid (DBq wq g r c q s n h (bitsTo l (i * n + k)) ∧ Below w3.heap.size w3 wq))
          case atStart => exact ⟨0, by omega, rfl, HW⟩
          case round =>
            obtain ⟨k, hk, rfl, HV⟩ := hrel
            by_cases hltk : k < n
            · obtain ⟨gk2, hgk2⟩ : ∃ x, gk = x + 1 := ⟨gk - 1, by omega⟩
              have HGK2 := Lib.hid hgk2
              have HK2 := Lib.hid hk
              have hsl := shard_lt hlt hltk
              have hp8 := HP8.out i
              have hm8 := HP8.out s
              have hmm := HM.out
              obtain ⟨p, hp⟩ : ∃ p, i * n = p := ⟨_, rfl⟩
              have hpi : (i : Int) * (n : Int) = (p : Int) := by rw [← hp]; simp
              rw [hp] at hsl hp8
              rw [hmm] at hsl hm8
              obtain ⟨ixx, hidx⟩ : ∃ ixx, 4 + p / 8 + k / 8 = ixx := ⟨_, rfl⟩
              have hidi : (4 : Int) + (p : Int) / 8 + (k : Int) / 8 = (ixx : Int) := by omega
              have hLn := HLn.out
              have hix : ixx < L := by omega
              have hixi : (ixx : Int) < (L : Int) := by omega
              obtain ⟨k8, hk8⟩ : ∃ k8, k % 8 = k8 := ⟨_, rfl⟩
              have hk8i : (k : Int) % 8 = (k8 : Int) := by omega
              obtain ⟨z, hz⟩ : ∃ z, l.getD ((p + k) / 8) 0 = z := ⟨_, rfl⟩
              have hlz : (x0 :: x1 :: x2 :: x3 :: l)[ixx]? = some z := by
                have hll := HLl.out
                have hil : (p + k) / 8 < l.length := by omega
                have e : ixx = (p + k) / 8 + 4 := by omega
                rw [e, List.getElem?_cons_succ, List.getElem?_cons_succ, List.getElem?_cons_succ, List.getElem?_cons_succ, ← hz, List.getD_eq_getElem?_getD, List.getElem?_eq_getElem hil]
                rfl
              have hcx := HRd3.out _ HV.out.2 ixx z hlz
              obtain ⟨x, hx⟩ : ∃ x, z.toNat = x := ⟨_, rfl⟩
              rw [hx] at hcx
              have hxlt : x < 256 := hx ▸ z.toNat_lt
              have HBit : Hid (∀ y : Nat, y = x / 2 ^ k8 → (((y : Int) % 2) == 1) = bitAt l (i * n + k)) := Lib.hid fun y hy => by
                unfold bitAt
                rw [hp, hz, hx, show (p + k) % 8 = k8 by omega, ← hy]
                by_cases e : y % 2 = 1
                · rw [decide_eq_true e]
                  simp
                  omega
                · rw [decide_eq_false e, beq_eq_false_iff_ne]
                  omega
              have hk88 : k8 < 8 := by omega
              clear hk hgk2 hsl hp8 hm8 hmm hp hidx hLn hz hlz hx hk8
              go_wp2_with fail
              clear hcx hpi hidi hix hixi
              go_loopg [11, 12] k8 (fun gk cv jv wz => ∃ j y : Nat, j + gk = k8 ∧ y < 256 ∧ jv = .int .i64 (j : Int) ∧ cv = .int .u8 (y : Int) ∧ Hid (y = x / 2 ^ j) ∧ Hid (DBq wz g r c q s n h (bitsTo l (i * n + k)) ∧ Below w3.heap.size w3 wz))
              case atStart => exact ⟨0, x, by omega, hxlt, rfl, rfl, Lib.hid (by simp), HV⟩
              case round =>
                obtain ⟨j, y, hj, hy, rfl, rfl, HY, HZ⟩ := hrel
                by_cases hltj : j < k8
                · obtain ⟨gk3, hgk3⟩ : ∃ x, gk = x + 1 := ⟨gk - 1, by omega⟩
                  have HY' : Hid (y / 2 = x / 2 ^ (j + 1)) := Lib.hid (by rw [HY.out, Nat.pow_succ, Nat.div_div_eq_div_mul])
                  go_wp2_with fail
                  go_roundg gk3
                  case measure => omega
                  case rel => exact ⟨j + 1, y / 2, by omega, by omega, by go_num, by go_num, HY', HZ⟩
                · have hjk : j = k8 := by omega
                  subst hjk
                  have k2 := HZ.out.1.blk.cell 2
                  simp at k2
                  have krow := HZ.out.1.rowc HIs.out
                  obtain ⟨kbit, fbit⟩ := (HZ.out.1.bits i HIs.out).cell hltk
                  have HPut := Lib.hid (HZ.out.1.put_ HIs.out hltk (((y : Int) % 2) == 1) (bitsTo l (i * n + (k + 1))) fun z _ => bitsTo_succ l _ z _ (HBit.out y HY.out))
                  have HB5 := Lib.hid (HZ.out.2.grown HPut.out.2 HZ.out.2.size (by intro z hz; injection hz with hz; rw [← hz]; exact HQ.out.2.2 i HIs.out))
                  clear hltj hj
                  go_wp2_with fail
                  go_roundg gk2
                  case measure => have := HGK2.out; omega
                  case rel => exact ⟨k + 1, by have := HGK2.out; have := HK2.out; omega, by go_num, Lib.hid ⟨HPut.out.1, HB5.out⟩⟩
            · have hkn : k = n := by omega
              subst hkn
              clear hltk hk
              go_wp2_with fail
              go_roundg gk1
              case measure => have := HGK.out; omega
              case rel => exact ⟨i + 1, by have := HGK.out; have := HI.out; omega, by go_num, Lib.hid (by rw [Nat.succ_mul]; exact HV.out)⟩
        · have his : i = s := by omega
          subst his
          clear hlt hi
          go_wp2_with fail
          go_ret2
          refine ⟨HB3.out.trans (HW.out.2.mono HB3.out.size), .inr ⟨g, fun z => z = g ∨ z = r ∨ ∃ j, j < i ∧ z = q j, _, HGs.out, rfl, ⟨HOk.out, r, c, q, HW.out.1.same fun z hz => (bitsTo_all l _ z hz).symm, fun z => Iff.rfl⟩, fun z hz => ?_⟩⟩
          refine Nat.le_trans HB3.out.size ?_
          rcases hz with rfl | rfl | ⟨j, hj, rfl⟩
          · exact HQ.out.1
          · exact HQ.out.2.1
          · exact HQ.out.2.2 j hj
    · have HN : Hid (getB (x0 :: x1 :: x2 :: x3 :: l) = none) := Lib.hid (by
        rw [HG.out, hR, hm, if_neg]
        have := HLl.out
        simp only [Bool.true_and, decide_eq_true_eq]
        omega)
      have hne : ((L : Int) != 4 + (m : Int) / 8) = true := by
        rw [bne_iff_ne]
        omega
      have HS0 := Lib.hid hs
      clear hR hs hh hm hlen
      go_wp2_with fail
      go_quiet ((go_at_call 82; exact (Right_any _ _ _ _).mono fun _ _ ⟨h1, h2⟩ => ⟨h1, _, h2.symm⟩))
      rw [HRt.out]
      have hb3 := below_drewN (Below.refl w2.heap.size w2) nq
      generalize w2.drewN nq = w3 at *
      have HB3 := Lib.hid (HB2.out.trans (hb3.mono HB2.out.size))
      have h30 := HRd2.out w3 hb3 0 x0 rfl
      rw [HS0.out, Nat.add_zero] at h30
      clear hb3
      go_wp2_with fail
      go_ret2
      exact ⟨HB3.out, .inl ⟨HN.out, rfl⟩⟩

theorem DFiltered_any {x : List UInt8} {v : Value} (w : World) (hv : Bs w v x) (hl : x.length ≤ 1048576) :
    Calls Tryz.prog 45 #[v] w fun e w' => Below w.heap.size w w' ∧ ((∃ n : Nat, getX x = .error n ∧ e = .returned (.tuple #[.pointer none, .int .i64 (n : Int)])) ∨
      ∃ (g : Nat) (F : Nat → Prop) (b : Bl), getX x = .ok b ∧ e = .returned (.tuple #[.pointer (some ⟨g, 0, none⟩), .int .i64 0]) ∧ DB w' F g b ∧ ∀ q, F q → w.heap.size ≤ q) := by
  rcases Nat.lt_or_ge x.length 4 with h4 | h4
  · exact (DFiltered_short w hv h4).mono fun e w' h => ⟨h.2, .inl ⟨2, getX_short h4, h.1⟩⟩
  · by_cases hs : tailOf x = crcOf (bodyOf x)
    · refine (DFiltered_body w hv h4 hl hs).mono ?_
      rintro e w' ⟨hb, ⟨hg, he⟩ | ⟨g, F, b, hg, he, hp, hF⟩⟩
      · exact ⟨hb, .inl ⟨2, getX_form h4 hs hg, he⟩⟩
      · exact ⟨hb, .inr ⟨g, F, b, getX_ok h4 hs hg, he, hp, hF⟩⟩
    · exact (DFiltered_sum w hv h4 (by omega) hs).mono fun e w' h => ⟨h.2, .inl ⟨7, getX_sum h4 hs, h.1⟩⟩

end Go.Proofs.YtfaefacefdkjdaaGreatDoor

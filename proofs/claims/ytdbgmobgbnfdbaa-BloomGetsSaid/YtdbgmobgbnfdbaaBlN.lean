/-
  THE DOCUMENT's FILTER: the CONTRACT of Bytes. Conditions: what it says.
-/
import Derived.Test.YtdbgmobgbnfdbaaBlJ
namespace Go.Proofs.Ytdbgmobgbnfdbaa
open Go.RowKit
set_option maxRecDepth 100000

theorem half_bit (x j : Nat) : x / 2 ^ (j + 1) * 2 + (if x / 2 ^ j % 2 = 1 then 1 else 0) = x / 2 ^ j := by
  have h : x / 2 ^ (j + 1) = x / 2 ^ j / 2 := by rw [Nat.pow_succ, Nat.div_div_eq_div_mul]
  rw [h]
  split <;> omega
theorem bit_of (l : List UInt8) (n m i kk j : Nat) (hn : n = 8 * m) (hj : j < 8) : bitAt l (i * n + (8 * kk + j)) = decide ((l.getD (i * m + kk) 0).toNat / 2 ^ j % 2 = 1) := by
  have h1 : (i * n + (8 * kk + j)) / 8 = i * m + kk := by
    rw [hn, show i * (8 * m) = 8 * (i * m) by rw [Nat.mul_left_comm]]
    omega
  have h2 : (i * n + (8 * kk + j)) % 8 = j := by
    rw [hn, show i * (8 * m) = 8 * (i * m) by rw [Nat.mul_left_comm]]
    omega
  unfold bitAt
  rw [h1, h2]

theorem u8_bet (x : Nat) : IntKind.u8.wrap (x : Int) = ((UInt8.ofNat (x / 256 ^ 0)).toNat : Int) := by
  rw [IntKind.wrap_u8, UInt8.toNat_ofNat']
  simp
theorem own_lit2 (w : World) (x y : Nat) : Own (w.alloc (.cells #[.int .u8 (IntKind.u8.wrap (x : Int)), .int .u8 (IntKind.u8.wrap (y : Int))] 5)) w.heap.size 5 (.slice (some ⟨w.heap.size, 0, none⟩) 2 2) (bet x 1 ++ bet y 1) := by
  have h := World.ownsRow_lit (base := w.heap.size) (e := 5) (size := 1) w #[.int .u8 (IntKind.u8.wrap (x : Int)), .int .u8 (IntKind.u8.wrap (y : Int))] 2 (Nat.le_refl _) (by simp [maxLen]) rfl
  have e : BV (bet x 1 ++ bet y 1) = [.int .u8 (IntKind.u8.wrap (x : Int)), .int .u8 (IntKind.u8.wrap (y : Int))] := by rw [u8_bet, u8_bet]; rfl
  unfold Own
  rw [e, show (bet x 1 ++ bet y 1).length = 2 by simp [bet_length]]
  exact h

set_option maxHeartbeats 3200000 in
theorem DBytes_any {w : World} {F : Nat → Prop} {g : Nat} {b : Bl} (hd : DB w F g b) :
    Calls Try.prog 15 #[.pointer (some ⟨g, 0, none⟩)] w fun e w' => ∃ v, e = .returned v ∧ Own w' w.heap.size 5 v b.bytes ∧ Below w.heap.size w w' := by
  obtain ⟨hok, r, c, q, h, _⟩ := hd
  have hs1 := hok.s1
  have hs2 := hok.s2
  have hb1 := hok.b1
  have hb2 := hok.b2
  have hh2 := hok.h2
  have hlen := hok.len_le
  obtain ⟨m, hm⟩ : ∃ m, b.bits = 8 * m := ⟨b.bits / 8, by have := hok.b8; omega⟩
  have hsl : b.set.length = b.sh * m := by
    have := hok.eight
    rw [hm, Nat.mul_left_comm] at this
    omega
  have H := Lib.hid h
  have hS : Hid (∀ u, Below w.heap.size w u → u.cell? ⟨g, 0, none⟩ = some (.int .i64 (b.bits : Int)) ∧ u.cell? ⟨g, 1, none⟩ = some (.int .i64 (b.hs : Int)) ∧ u.cell? ⟨g, 2, none⟩ = some (.slice (some ⟨r, 0, none⟩) b.sh c)) := Lib.hid fun u hu => by
    have hd := H.out.below hu
    have k0 := hd.blk.cell 0
    have k1 := hd.blk.cell 1
    have k2 := hd.blk.cell 2
    simp at k0 k1 k2
    exact ⟨k0, k1, k2⟩
  have HM8 := Lib.hid hm
  have HSL := Lib.hid hsl
  clear h hok hsl hm
  go_enter Try.func15, Try.ntmps15
  go_wp2_with fail
  refine wp_region_mix [(0, false), (1, false), (2, false), (3, false), (4, false), (5, false), (6, false), (7, false), (8, false), (9, false), (10, false), (11, true), (12, false)] (fun u => Below w.heap.size w u) (by kernel_rfl) (by kernel_rfl) (by decide +kernel) rfl (Below.refl _ _).drew ?_
  repeat
    (refine mix_read (o := ⟨_, _, _, _, _, _⟩) (v := ?_) rfl (by rfl) (fun w' hU => ?_) ?_
     rotate_left
     obtain ⟨hU1, hU2, hU3⟩ := hS.out _ hU
     go_simp
     with_reducible rfl
     try simp only [Act.put, List.setIfInBounds_toArray, List.set_cons_zero, List.set_cons_succ])
  refine mix_step (o := ⟨_, _, _, _, _, _⟩) rfl (fun K hK => ?_)
  go_simp
  have hb2' : Below w.heap.size w (w.alloc (.cells #[.int .u8 (IntKind.u8.wrap (b.sh : Int)), .int .u8 (IntKind.u8.wrap (b.hs : Int))] 5)).drew := ((Below.refl _ w).alloc (Nat.le_refl _) _).drew
  have ho2 : Own (w.alloc (.cells #[.int .u8 (IntKind.u8.wrap (b.sh : Int)), .int .u8 (IntKind.u8.wrap (b.hs : Int))] 5)).drew w.heap.size 5 (.slice (some ⟨w.heap.size, 0, none⟩) 2 2) (bet b.sh 1 ++ bet b.hs 1) := own_lit2 w b.sh b.hs
  refine hK.out _ _ hb2' ?_
  clear hK K
  try simp only [Act.put, List.setIfInBounds_toArray, List.set_cons_zero, List.set_cons_succ]
  repeat
    (refine mix_read (o := ⟨_, _, _, _, _, _⟩) (v := ?_) rfl (by rfl) (fun w' hU => ?_) ?_
     rotate_left
     go_simp
     with_reducible rfl
     try simp only [Act.put, List.setIfInBounds_toArray, List.set_cons_zero, List.set_cons_succ])
  refine mix_done ?_
  generalize (w.alloc (.cells #[.int .u8 (IntKind.u8.wrap (b.sh : Int)), .int .u8 (IntKind.u8.wrap (b.hs : Int))] 5)).drew = w2 at *
  have HB2 := Lib.hid hb2'
  have HO2 := Lib.hid ho2
  obtain ⟨k0, _, _⟩ := hS.out _ hb2'
  have hBy := Bytes_any 2 (b.bits : Int) w2 (by omega) (by omega) (by omega) (by omega)
  rw [Int.toNat_natCast, show Int.toNat 2 = 2 from rfl] at hBy
  clear hb2' ho2
  go_wp2_with fail
  refine hBy.mono ?_
  rintro e w3 ⟨v3, rfl, ho3, hb3⟩
  have HB3 := Lib.hid (HB2.out.trans (hb3.mono HB2.out.size))
  have HO3 := Lib.hid ho3
  have HO23 := Lib.hid (HO2.out.below hb3)
  clear hBy ho3 hb3 k0 HB2 HO2
  go_wp2_with (at_builtin; refine wpList_append_v _ byteT rfl _ _ rfl w.heap.size _ _ rfl HO23.out _ _ rfl HO3.out.bs (by simp [bet_length]) HB3.out.size ?_)
  intro v4 w4 ho4 hg4 _
  have HM4 : Hid (Own w4 w.heap.size 5 v4 b.head ∧ Below w.heap.size w w4) := Lib.hid ⟨ho4, HB3.out.grown hg4 HB3.out.size HO23.out.ge⟩
  clear ho4 hg4 HB3 HO23 HO3
  go_wp2_with fail
  have hmi : (8 : Int) * (m : Int) = (b.bits : Int) := by have := HM8.out; omega
  go_loopg [3, 4] b.sh (fun gk ov iv wr => ∃ i : Nat, i + gk = b.sh ∧ iv = .int .i64 (i : Int) ∧ Hid (Own wr w.heap.size 5 ov (b.head ++ b.set.take (i * m)) ∧ Below w.heap.size w wr))
  case atStart => exact ⟨0, by omega, rfl, Lib.hid (by simpa using HM4.out)⟩
  case round =>
    obtain ⟨i, hi, rfl, HM⟩ := hrel
    obtain ⟨_, _, k2⟩ := hS.out _ HM.out.2
    by_cases hlt : i < b.sh
    · obtain ⟨gk1, hgk1⟩ : ∃ x, gk = x + 1 := ⟨gk - 1, by omega⟩
      have HGK := Lib.hid hgk1
      have HI := Lib.hid hi
      have HI0 := Lib.hid hlt
      clear hgk1 hi
      go_wp2_with fail
      clear k2
      go_loopg [3, 5] m (fun gk ov kv wq => ∃ k : Nat, k + gk = m ∧ kv = .int .i64 (8 * (k : Int)) ∧ Hid (Own wq w.heap.size 5 ov (b.head ++ b.set.take (i * m + k)) ∧ Below w.heap.size w wq))
      case atStart => exact ⟨0, by omega, by first | rfl | go_num, HM⟩
      case round =>
        obtain ⟨k, hk, rfl, HQ⟩ := hrel
        obtain ⟨k0, _, _⟩ := hS.out _ HQ.out.2
        by_cases hltk : k < m
        · obtain ⟨gk2, hgk2⟩ : ∃ x, gk = x + 1 := ⟨gk - 1, by omega⟩
          have HGK2 := Lib.hid hgk2
          have HK2 := Lib.hid hk
          obtain ⟨z, hz⟩ : ∃ z, b.set.getD (i * m + k) 0 = z := ⟨_, rfl⟩
          obtain ⟨x, hx⟩ : ∃ x, z.toNat = x := ⟨_, rfl⟩
          have hxlt : x < 256 := hx ▸ z.toNat_lt
          have HB8 : Hid (∀ j, j < 8 → bitAt b.set (i * b.bits + (8 * k + j)) = decide (x / 2 ^ j % 2 = 1)) := Lib.hid fun j hj => by rw [bit_of _ _ m i k j HM8.out hj, hz, hx]
          have HT : Hid (b.head ++ b.set.take (i * m + k) ++ [z] = b.head ++ b.set.take (i * m + (k + 1))) := Lib.hid (by
            have hl : i * m + k < b.set.length := by
              have := shard_lt HI0.out hltk
              have := HSL.out
              omega
            rw [show i * m + (k + 1) = i * m + k + 1 by omega, List.take_succ_eq_append_getElem hl, ← hz, List.getD_eq_getElem?_getD, List.getElem?_eq_getElem hl, Option.getD_some, List.append_assoc])
          have HX := Lib.hid hx
          clear hk hgk2 hz hx
          go_wp2_with fail
          go_loopg [6, 7] 8 (fun gj cv jv wz => ∃ j y : Nat, j = gj ∧ j ≤ 8 ∧ y < 256 ∧ jv = .int .i64 ((j : Int) - 1) ∧ cv = .int .u8 (y : Int) ∧ Hid (y = x / 2 ^ j) ∧ Hid (Own wz w.heap.size 5 u3 (b.head ++ b.set.take (i * m + k)) ∧ Below w.heap.size w wz))
          case atStart => exact ⟨8, 0, rfl, Nat.le_refl _, by omega, by first | rfl | go_num, rfl, Lib.hid (by omega), HQ⟩
          case round =>
            obtain ⟨j, y, hj, hj8, hy, rfl, rfl, HY, HW⟩ := hrel
            clear k0
            rcases j with _ | j
            · clear hj hj8
              have hyx : y = x := by
                have := HY.out
                simpa using this
              subst hyx
              have ha1 : Below w.heap.size w (wr.alloc (.cells #[.int .u8 (y : Int)] 5)) := HW.out.2.alloc HW.out.2.size _
              have HA1 := Lib.hid ha1
              have HOa := Lib.hid (HW.out.1.alloc (.cells #[.int .u8 (y : Int)] 5))
              have HLit := Lib.hid (Bs.lit1 wr z (.int .u8 (y : Int)) 5 (by rw [HX.out]))
              have hml : (b.head ++ b.set.take (i * m + k)).length ≤ 10000 := by
                rw [List.length_append, Bl.head_length, List.length_take]
                omega
              clear ha1
              go_wp2_with (at_builtin; refine wpList_append_v _ byteT rfl _ _ rfl w.heap.size _ _ rfl HOa.out _ [z] rfl HLit.out (by simp only [List.length_singleton]; omega) HA1.out.size ?_)
              intro v5 w5 ho5 hg5 _
              rw [← List.append_assoc, HT.out] at ho5
              have HN : Hid (Own w5 w.heap.size 5 v5 (b.head ++ b.set.take (i * m + (k + 1))) ∧ Below w.heap.size w w5) := Lib.hid ⟨ho5, HA1.out.grown hg5 HA1.out.size HOa.out.ge⟩
              clear ho5 hg5
              go_wp2_with fail
              go_roundg gk2
              case measure => have := HGK2.out; omega
              case rel => exact ⟨k + 1, by have := HGK2.out; have := HK2.out; omega, by go_num, HN⟩
            · obtain ⟨gk3, hgk3⟩ : ∃ x, gk = x + 1 := ⟨gk - 1, by omega⟩
              have hy2 : y ≤ 127 := by
                have h1 := HY.out
                have h2 : x / 2 ^ (j + 1) = x / 2 ^ j / 2 := by rw [Nat.pow_succ, Nat.div_div_eq_div_mul]
                have h3 := Nat.div_le_self x (2 ^ j)
                omega
              have hje : ((j + 1 : Nat) : Int) - 1 = (j : Int) := by omega
              rw [hje]
              have hd := H.out.below HW.out.2
              obtain ⟨_, _, k2⟩ := hS.out _ HW.out.2
              have krow := hd.rowc HI0.out
              have hpos : 8 * k + j < b.bits := by omega
              obtain ⟨kbit, _⟩ := (hd.bits i HI0.out).cell hpos
              rw [HB8.out j (by omega)] at kbit
              have HH := Lib.hid (half_bit x j)
              by_cases hbit : x / 2 ^ j % 2 = 1
              · rw [decide_eq_true hbit] at kbit
                rw [if_pos hbit] at HH
                have HY' : Hid (y * 2 + 1 = x / 2 ^ j) := Lib.hid (by rw [HY.out]; exact HH.out)
                clear hd hbit hje
                go_wp2_with fail
                go_roundg gk3
                case measure => omega
                case rel => exact ⟨j, y * 2 + 1, by omega, by omega, by omega, rfl, by go_num, HY', HW⟩
              · rw [decide_eq_false hbit] at kbit
                rw [if_neg hbit] at HH
                have HY' : Hid (y * 2 = x / 2 ^ j) := Lib.hid (by rw [HY.out]; exact HH.out)
                clear hd hbit hje
                go_wp2_with fail
                go_roundg gk3
                case measure => omega
                case rel => exact ⟨j, y * 2, by omega, by omega, by omega, rfl, by go_num, HY', HW⟩
        · have hkm : k = m := by omega
          subst hkm
          clear hltk hk
          go_wp2_with fail
          go_roundg gk1
          case measure => have := HGK.out; omega
          case rel => exact ⟨i + 1, by have := HGK.out; have := HI.out; omega, by go_num, Lib.hid (by rw [Nat.succ_mul]; exact HQ.out)⟩
    · have hin : i = b.sh := by omega
      subst hin
      have hall : b.set.take (b.sh * m) = b.set := List.take_of_length_le (by have := HSL.out; omega)
      have ho := HM.out.1
      rw [hall] at ho
      have hSe := Seal_any (b.head ++ b.set) _ _ (by rw [List.length_append, Bl.head_length]; omega) ho.bs
      clear hlt ho hall
      go_wp2_with fail
      refine hSe.mono ?_
      rintro e w5 ⟨v5, rfl, ho5, hb5⟩
      have HB5 := Lib.hid (HM.out.2.trans (hb5.mono HM.out.2.size))
      have HO5 := Lib.hid (ho5.lower (base' := w.heap.size) HM.out.2.size)
      clear hSe ho5 hb5
      go_wp2_with fail
      go_ret
      exact ⟨_, rfl, HO5.out, HB5.out⟩
end Go.Proofs.Ytdbgmobgbnfdbaa

/-
  THE DOCUMENT's FILTER: CONTRACTS of Places, Add, Has. Conditions: what each says.
-/
import Derived.Test.YtdbgmobgbnfdbaaBlJ
namespace Go.Proofs.Ytdbgmobgbnfdbaa
open Go.RowKit
set_option maxRecDepth 100000

theorem intT1 : ElemT Try.prog 53 3 1 8 := ⟨Try.underlying53, by omega, by
  obtain ⟨i, h1, h2, h3, h4⟩ := info_parts (P := Try.prog) (e := 3) (z := .int .i64 0) (size := 1) (bytes := 8) (by kernel_rfl)
  exact ⟨i, _, h1, h2, h3, h4, rfl⟩⟩

/-- an Id's first k places in its shard, as cells -/
def spotsC (b : Bl) (id k : Nat) : List (List Value) := (List.range k).map fun i => [.int .i64 (b.spot id i : Int)]
theorem spotsC_length (b : Bl) (id k : Nat) : (spotsC b id k).length = k := by simp [spotsC]
theorem spotsC_succ (b : Bl) (id k : Nat) : spotsC b id (k + 1) = spotsC b id k ++ [[.int .i64 (b.spot id k : Int)]] := by simp [spotsC, List.range_succ]

set_option maxHeartbeats 1600000 in
theorem Places_any {w : World} {g r c : Nat} {q : Nat → Nat} {B : Nat → Bool} {b : Bl} (hok : b.Ok) (h : DBq w g r c q b.sh b.bits b.hs B) (id : Nat) (hid : id < 18446744073709551616) :
    Calls Try.prog 22 #[.pointer (some ⟨g, 0, none⟩), .int .u64 (id : Int)] w fun e w' => ∃ v, e = .returned (.tuple #[.int .i64 ((id % b.sh : Nat) : Int), v]) ∧ OwnL 1 w' w.heap.size 3 v (spotsC b id b.hs) ∧ Below w.heap.size w w' := by
  have hA := sumA_lt id
  have hB := sumB_lt id
  have hs1 := hok.s1
  have hs2 := hok.s2
  have hb1 := hok.b1
  have hb2 := hok.b2
  have hh2 := hok.h2
  obtain ⟨x, hx⟩ : ∃ x, id % b.sh = x := ⟨_, rfl⟩
  have hxl : x < b.sh := hx ▸ Nat.mod_lt _ (by omega)
  have hx' : (id : Int) % (b.sh : Int) = (x : Int) := by rw [← hx]; omega
  rw [hx]
  have H := Lib.hid h
  have HSP : Hid (∀ k, (sumA id + k * sumB id) % b.bits = b.spot id k) := Lib.hid fun _ => rfl
  have HX := Lib.hid hx'
  have HOk := Lib.hid hok
  have hBy := Bytes_any 8 (id : Int) w (by omega) (by omega) (by omega) (by omega)
  rw [Int.toNat_natCast, show Int.toNat 8 = 8 from rfl] at hBy
  have HE1 : Hid (crcOf (bet id 8) = sumA id) := Lib.hid rfl
  have HE2 : Hid (crcOf (bet id 8 ++ [1]) = sumB id) := Lib.hid rfl
  have hbl := bet_length id 8
  clear h hx hx' hok
  go_enter Try.func22, Try.ntmps22
  go_wp2_with fail
  refine hBy.mono ?_
  rintro e w1 ⟨v1, rfl, ho1, hb1'⟩
  have HB1 := Lib.hid hb1'
  have HO1 := Lib.hid ho1
  have hS := Sum_any (bet id 8) v1 w1 ho1.bs
  rw [HE1.out] at hS
  clear hBy ho1 hb1'
  go_wp2_with fail
  refine hS.mono ?_
  rintro e w2 ⟨rfl, rfl⟩
  clear hS
  go_wp2_with (at_builtin; refine wpList_append_v _ byteT rfl _ _ rfl w.heap.size v1 (bet id 8) rfl (HO1.out.alloc _) _ [1] rfl (Bs.lit1 _ 1 _ _ rfl) (by simp only [List.length_singleton]; omega) (Nat.le_trans HB1.out.size (by simp)) ?_)
  intro v2 w2 ho2 hg2 _
  have HB2 := Lib.hid ((HB1.out.alloc HB1.out.size _).grown hg2 (Nat.le_trans HB1.out.size (by simp)) HO1.out.ge)
  have hS := Sum_any (bet id 8 ++ [1]) v2 w2 ho2.bs
  rw [HE2.out] at hS
  clear ho2 hg2
  go_wp2_with fail
  refine hS.mono ?_
  rintro e w3 ⟨rfl, rfl⟩
  clear hS
  go_wp2_with fail
  go_loopg [7, 9, 10] b.hs (fun gk av ov iv wr => ∃ k a : Nat, k + gk = b.hs ∧ a ≤ 4294967296 * (k + 1) ∧ av = .int .u64 (a : Int) ∧ iv = .int .i64 (k : Int) ∧ Hid (a = sumA id + k * sumB id) ∧ Hid (OwnL 1 wr w.heap.size 3 ov (spotsC b id k) ∧ Below w.heap.size w wr))
  case atStart => exact ⟨0, sumA id, by omega, by omega, rfl, rfl, Lib.hid (by omega), Lib.hid ⟨OwnL.nil _ _ _ _, HB2.out⟩⟩
  case round =>
    obtain ⟨k, a, hk, ha, rfl, rfl, HA, HM⟩ := hrel
    have hd := H.out.below HM.out.2
    have k1 := hd.blk.cell 1
    simp at k1
    by_cases hlt : k < b.hs
    · obtain ⟨gk1, hgk1⟩ : ∃ x, gk = x + 1 := ⟨gk - 1, by omega⟩
      have k0 := hd.blk.cell 0
      simp at k0
      obtain ⟨s, hs⟩ : ∃ s, b.spot id k = s := ⟨_, rfl⟩
      have hsl : s < b.bits := hs ▸ HOk.out.spot_lt id k
      have hs' : (a : Int) % (b.bits : Int) = (s : Int) := by
        rw [← hs, ← HSP.out k, ← HA.out]
        omega
      have HS := Lib.hid hs
      have ha1 : Below w.heap.size w (wr.alloc (.cells #[.int .i64 (s : Int)] 3)) := HM.out.2.alloc HM.out.2.size _
      have HA1 := Lib.hid ha1
      clear hd hs ha1
      go_wp2_with (at_builtin; refine wpList_append_elems _ intT1 rfl _ _ rfl w.heap.size _ _ rfl (HM.out.1.alloc _) _ _ rfl (Lv.lit1 wr [.int .i64 (s : Int)] 3) (by simp [Value.oneCell']) (by simp only [maxLen, spotsC_length, List.length_singleton]; omega) (by simp only [spotsC_length, List.length_singleton]; omega) HA1.out.size ?_)
      intro v3 w3 ho3 hg3 _
      rw [← HS.out, ← spotsC_succ] at ho3
      have HB3 := Lib.hid (HA1.out.grown hg3 HA1.out.size HM.out.1.ge)
      have HO3 := Lib.hid ho3
      clear ho3 hg3 hs' k0 k1
      go_wp2_with fail
      go_roundg gk1
      case measure => omega
      case rel => exact ⟨k + 1, a + sumB id, by omega, by omega, by go_num, by go_num, Lib.hid (by rw [Nat.succ_mul]; have := HA.out; omega), Lib.hid ⟨HO3.out, HB3.out⟩⟩
    · have hkn : k = b.hs := by omega
      subst hkn
      have k2 := hd.blk.cell 2
      simp at k2
      have hx' := HX.out
      clear hd hlt
      go_wp2_with fail
      go_ret2
      exact ⟨_, rfl, HM.out.1, HM.out.2⟩
end Go.Proofs.Ytdbgmobgbnfdbaa

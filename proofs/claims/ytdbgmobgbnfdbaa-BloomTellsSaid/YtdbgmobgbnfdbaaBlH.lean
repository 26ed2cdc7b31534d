/-
  THE PROGRAM's FILTER: the CONTRACT of Bytes; what three words of bytes are. Conditions: what each says.
-/
import Derived.Test.YtdbgmobgbnfdbaaBlC
namespace Go.Proofs.Ytdbgmobgbnfdbaa
open Go.RowKit
set_option maxRecDepth 100000

set_option maxHeartbeats 1600000 in
theorem bbytes_any {w : World} {F : Nat → Prop} {g : Nat} {b : Bl} (hp : PBt w F g b) :
    Calls Try.prog 14 #[.pointer (some ⟨g, 0, none⟩)] w fun e w' => ∃ v, e = .returned v ∧ Own w' w.heap.size 5 v b.bytes ∧ Below w.heap.size w w' := by
  obtain ⟨q, c, h⟩ := hp
  have H := Lib.hid h
  have h1 := h.ok.s2
  have h2 := h.ok.h2
  have h3 := h.ok.b2
  have hlen := h.ok.len_le
  have hp1 : putOk 1 (b.sh : Int) = true := by simp [putOk, isW]; omega
  have hp2 : putOk 1 (b.hs : Int) = true := by simp [putOk, isW]; omega
  have hp3 : putOk 2 (b.bits : Int) = true := by simp [putOk, isW]; omega
  have hP1 := put_ok [] (.slice none 0 0) 1 (b.sh : Int) w (by omega) hp1 (by simp) (Bs.nil w)
  rw [List.nil_append, Int.toNat_natCast, show Int.toNat 1 = 1 from rfl] at hP1
  have HP2 := Lib.hid hp2
  have HP3 := Lib.hid hp3
  have k0 := h.blk.cell 0
  simp at k0
  clear h hp1 hp2 hp3
  go_enter Try.func14, Try.ntmps14
  go_wp2_with fail
  refine hP1.mono ?_
  rintro e w1 ⟨v1, rfl, ho1, hb1⟩
  have hl1 := bet_length b.sh 1
  have HB1 := Lib.hid hb1
  have H1 := Lib.hid (H.out.later hb1)
  have k2 := H1.out.blk.cell 2
  simp at k2
  have hP2 := put_ok (bet b.sh 1) v1 1 (b.hs : Int) w1 (by omega) HP2.out (by omega) ho1.bs
  rw [Int.toNat_natCast, show Int.toNat 1 = 1 from rfl] at hP2
  clear hP1 ho1 hb1 k0 hl1
  go_wp2_with fail
  refine hP2.mono ?_
  rintro e w2 ⟨v2, rfl, ho2, hb2⟩
  have hl2 : (bet b.sh 1 ++ bet b.hs 1).length = 2 := by simp [bet_length]
  have HB2 := Lib.hid (HB1.out.trans (hb2.mono HB1.out.size))
  have H2 := Lib.hid (H1.out.later hb2)
  have k1 := H2.out.blk.cell 1
  simp at k1
  have hP3 := put_ok (bet b.sh 1 ++ bet b.hs 1) v2 2 (b.bits : Int) w2 (by omega) HP3.out (by omega) ho2.bs
  rw [Int.toNat_natCast, show Int.toNat 2 = 2 from rfl] at hP3
  clear hP2 ho2 hb2 k2 hl2
  go_wp2_with fail
  refine hP3.mono ?_
  rintro e w3 ⟨v3, rfl, ho3, hb3⟩
  have HB3 := Lib.hid (HB2.out.trans (hb3.mono HB2.out.size))
  have H3 := Lib.hid (H2.out.later hb3)
  have hl3 : (bet b.sh 1 ++ bet b.hs 1 ++ bet b.bits 2).length = 4 := by simp [bet_length]
  have k3 := H3.out.blk.cell 3
  simp at k3
  have HO3 := Lib.hid (ho3.lower (base' := w.heap.size) HB2.out.size)
  clear hP3 ho3 hb3 k1
  go_wp2_with (at_builtin; refine wpList_append_v _ byteT rfl _ _ rfl w.heap.size v3 _ rfl HO3.out _ b.set rfl H3.out.own.bs (by omega) HB3.out.size ?_)
  intro v4 w4 ho4 hg4 _
  have HB4 := Lib.hid (HB3.out.grown hg4 HB3.out.size HO3.out.ge)
  have hS := seal_any (bet b.sh 1 ++ bet b.hs 1 ++ bet b.bits 2 ++ b.set) v4 w4 (by rw [List.length_append]; omega) ho4.bs
  clear ho4 hg4 k3
  go_wp2_with fail
  refine hS.mono ?_
  rintro e w5 ⟨v5, rfl, ho5, hb5⟩
  have HB5 := Lib.hid (HB4.out.trans (hb5.mono HB4.out.size))
  have HO5 := Lib.hid (ho5.lower (base' := w.heap.size) HB4.out.size)
  clear hS ho5 hb5
  go_wp2_with fail
  go_ret
  exact ⟨_, rfl, HO5.out, HB5.out⟩

/-- three words of bytes: of one, one and two bytes -/
theorem words3 (c : List UInt8) (p1 p2 : Nat) (b1 b2 : Bool) (h1 : p1 = wNext c 0 false 1) (h2 : b1 = !wordOk c 0 false 1) (h3 : p2 = wNext c p1 b1 1) (h4 : b2 = !wordOk c p1 b1 1) :
    (c.length < 4 → wOut c p2 b2 2 = 0) ∧ (4 ≤ c.length → wOut c 0 false 1 = num (c.take 1) ∧ wOut c p1 b1 1 = num ((c.drop 1).take 1) ∧ wOut c p2 b2 2 = num ((c.drop 2).take 2) ∧ wNext c p2 b2 2 = 4) ∧
      wOut c 0 false 1 < 256 ∧ wOut c p1 b1 1 < 256 ∧ wOut c p2 b2 2 < 65536 := by
  have hn : ∀ (m : List UInt8) (k : Nat), num (m.take k) < 256 ^ k := fun m k => Nat.lt_of_lt_of_le (num_lt _) (Nat.pow_le_pow_right (by omega) (by simp; omega))
  refine ⟨fun h => ?_, fun h => ?_, ?_, ?_, ?_⟩
  · rcases Nat.lt_or_ge c.length 1 with hc | hc
    · have e1 : wordOk c 0 false 1 = false := by simp [wordOk, isW]; omega
      have e3 : wordOk c p1 b1 1 = false := by rw [h2, e1]; rfl
      have e5 : b2 = true := by rw [h4, e3]; rfl
      simp [wOut, wordOk, e5]
    · have e1 : wordOk c 0 false 1 = true := by simp [wordOk, isW]; omega
      have e2 : p1 = 1 := by rw [h1, wNext, e1]; rfl
      have e3 : b1 = false := by rw [h2, e1]; rfl
      subst e2 e3
      rcases Nat.lt_or_ge c.length 2 with hc | hc
      · have e4 : wordOk c 1 false 1 = false := by simp [wordOk, isW]; omega
        have e5 : b2 = true := by rw [h4, e4]; rfl
        simp [wOut, wordOk, e5]
      · have e4 : wordOk c 1 false 1 = true := by simp [wordOk, isW]; omega
        have e5 : p2 = 2 := by rw [h3, wNext, e4]; rfl
        have e6 : wordOk c p2 b2 2 = false := by simp [wordOk, isW, e5]; omega
        rw [wOut, e6]
        rfl
  · have e1 : wordOk c 0 false 1 = true := by simp [wordOk, isW]; omega
    have e2 : p1 = 1 := by rw [h1, wNext, e1]; rfl
    have e3 : b1 = false := by rw [h2, e1]; rfl
    subst e2 e3
    have e4 : wordOk c 1 false 1 = true := by simp [wordOk, isW]; omega
    have e5 : p2 = 2 := by rw [h3, wNext, e4]; rfl
    have e6 : b2 = false := by rw [h4, e4]; rfl
    subst e5 e6
    have e7 : wordOk c 2 false 2 = true := by simp [wordOk, isW]; omega
    refine ⟨by rw [wOut, e1]; rfl, by rw [wOut, e4]; rfl, by rw [wOut, e7]; rfl, by rw [wNext, e7]; rfl⟩
  · unfold wOut
    split
    · exact hn _ 1
    · omega
  · unfold wOut
    split
    · exact hn _ 1
    · omega
  · unfold wOut
    split
    · exact hn _ 2
    · omega
end Go.Proofs.Ytdbgmobgbnfdbaa

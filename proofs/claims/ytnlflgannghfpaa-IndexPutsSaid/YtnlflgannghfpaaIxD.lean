/-
  CONTRACTS of the program's index: Get. Conditions: what each says.
-/
import Derived.Test.YtnlflgannghfpaaIxC
namespace Go.Proofs.Ytnlflgannghfpaa
open Go.RowKit
set_option maxRecDepth 100000

theorem iget_short {x : List UInt8} {v : Value} (w : World) (hv : Bs w v x) (hl : x.length < 4) :
    Calls Try.prog 16 #[v] w fun e w' => e = .returned (.tuple #[.slice none 0 0, code 2]) ∧ Below w.heap.size w w' := by
  go_enter Try.func16, Try.ntmps16
  go_wp2_with fail
  refine (open_short x v w hl hv).mono ?_
  rintro e w1 ⟨rfl, rfl⟩
  go_wp2_with fail
  go_ret2
  exact ⟨rfl, Below.refl _ _⟩

set_option maxHeartbeats 800000 in
theorem iget_sum {x : List UInt8} {v : Value} (w : World) (hv : Bs w v x) (h4 : 4 ≤ x.length) (hl : x.length ≤ 140737488355320) (hs : tailOf x ≠ crcOf (bodyOf x)) :
    Calls Try.prog 16 #[v] w fun e w' => e = .returned (.tuple #[.slice none 0 0, code 7]) ∧ Below w.heap.size w w' := by
  have HS := Lib.hid hs
  have hO := open_long x v w h4 (by omega) hv
  clear hs hl h4
  go_enter Try.func16, Try.ntmps16
  go_wp2_with fail
  refine hO.mono ?_
  rintro e w1 ⟨y, f, rfl, hOp, hb1⟩
  obtain ⟨rfl, rfl⟩ := hOp.no HS.out
  have HB1 := Lib.hid hb1
  clear hO hOp hb1
  go_wp2_with fail
  go_ret2
  exact ⟨rfl, HB1.out⟩

/-- what index.read tells, at once -/
theorem iread_any (v : Value) (b : List UInt8) (w : World) (h : Bs w v b) (hbl : b.length ≤ 140737488355328) :
    Calls Try.prog 29 #[v] w fun e w' => (∃ y, b.length = 2 + 8 * num (b.take 2) ∧ e = .returned (.tuple #[y, .bool true]) ∧ OwnU w' w.heap.size y (ixNums b (num (b.take 2))) ∧ Below w.heap.size w w') ∨
      (b.length ≠ 2 + 8 * num (b.take 2) ∧ e = .returned (.tuple #[.slice none 0 0, .bool false]) ∧ Below w.heap.size w w') := by
  by_cases hl : b.length < 2
  · exact (iread_short v b w h hl).mono fun e w' he => .inr ⟨by omega, he⟩
  · by_cases hne : b.length = 2 + 8 * num (b.take 2)
    · exact (iread_yes v b w h (by omega) hne).mono fun e w' ⟨y, he⟩ => .inl ⟨y, hne, he⟩
    · exact (iread_amiss v b w h (by omega) hne hbl).mono fun e w' he => .inr ⟨hne, he⟩

set_option maxHeartbeats 1600000 in
theorem iget_body {x : List UInt8} {v : Value} (w : World) (hv : Bs w v x) (h4 : 4 ≤ x.length) (hl : x.length ≤ 140737488355320) (hs : tailOf x = crcOf (bodyOf x)) :
    Calls Try.prog 16 #[v] w fun e w' => ∃ y, e = .returned (.tuple #[y, errV (ixX x).1]) ∧ Us w' y (ixX x).2 ∧ Below w.heap.size w w' := by
  have HS := Lib.hid hs
  have hO := open_long x v w h4 (by omega) hv
  have HX : Hid (ixX x = ixRes (ixGet (bodyOf x))) := Lib.hid (by rw [ixX, if_neg (by omega), if_pos hs])
  have HLen : Hid ((bodyOf x).length ≤ 140737488355328) := Lib.hid (by rw [bodyOf_length]; omega)
  clear hs hl h4
  go_enter Try.func16, Try.ntmps16
  go_wp2_with fail
  refine hO.mono ?_
  rintro e w1 ⟨y, f, rfl, hOp, hb1⟩
  obtain ⟨rfl, hoy⟩ := hOp.yes HS.out
  have HB1 := Lib.hid hb1
  have HOy := Lib.hid hoy
  clear hO hOp hb1 hoy
  go_wp2_with fail
  refine (iread_any y (bodyOf x) w1 HOy.out.bs HLen.out).mono ?_
  rintro e w2 (⟨z, hlen, rfl, hoz, hb2⟩ | ⟨hlen, rfl, hb2⟩)
  · have HB2 := Lib.hid (HB1.out.trans (hb2.mono HB1.out.size))
    have HOz := Lib.hid hoz
    have HLE := Lib.hid hlen
    clear hoz hlen hb2
    have hI := isIndex_any z _ w2 HOz.out.us
    obtain ⟨A, c, rfl, hc1, hc2⟩ := HOz.out.us.form
    cases hB : ixB (ixNums (bodyOf x) (num ((bodyOf x).take 2))) with
    | true =>
      have HE : Hid (ixX x = (0, ixNums (bodyOf x) (num ((bodyOf x).take 2)))) := Lib.hid (by
        rw [HX.out, ixGet, if_pos ⟨HLE.out, hB⟩]
        rfl)
      rw [hB] at hI
      clear hB
      go_wp2_with fail
      refine hI.mono ?_
      rintro e w3 ⟨rfl, hb3⟩
      have HB3 := Lib.hid (HB2.out.trans (hb3.mono HB2.out.size))
      have HO3 := Lib.hid (HOz.out.us.below hb3)
      clear hI hb3
      go_wp2_with fail
      go_ret2
      rw [HE.out]
      exact ⟨_, rfl, HO3.out, HB3.out⟩
    | false =>
      have HE : Hid (ixX x = (2, [])) := Lib.hid (by
        rw [HX.out, ixGet, if_neg (by rw [hB]; simp)]
        rfl)
      rw [hB] at hI
      clear hB
      go_wp2_with fail
      refine hI.mono ?_
      rintro e w3 ⟨rfl, hb3⟩
      have HB3 := Lib.hid (HB2.out.trans (hb3.mono HB2.out.size))
      clear hI hb3
      go_wp2_with fail
      go_ret2
      rw [HE.out]
      exact ⟨_, rfl, Us.nil _, HB3.out⟩
  · have HB2 := Lib.hid (HB1.out.trans (hb2.mono HB1.out.size))
    have HE : Hid (ixX x = (2, [])) := Lib.hid (by
      rw [HX.out, ixGet, if_neg (fun h => hlen h.1)]
      rfl)
    clear hlen hb2
    go_wp2_with fail
    go_ret2
    rw [HE.out]
    exact ⟨_, rfl, Us.nil _, HB2.out⟩

theorem iget_any {x : List UInt8} {v : Value} (w : World) (hv : Bs w v x) (hl : x.length ≤ 140737488355320) :
    Calls Try.prog 16 #[v] w fun e w' => ∃ y, e = .returned (.tuple #[y, errV (ixX x).1]) ∧ Us w' y (ixX x).2 ∧ Below w.heap.size w w' := by
  by_cases h4 : x.length < 4
  · have he : ixX x = (2, []) := by rw [ixX, if_pos h4]
    rw [he]
    exact (iget_short w hv h4).mono fun e w' ⟨he, hb⟩ => ⟨.slice none 0 0, he, Us.nil _, hb⟩
  · by_cases hs : tailOf x = crcOf (bodyOf x)
    · exact iget_body w hv (by omega) hl hs
    · have he : ixX x = (7, []) := by rw [ixX, if_neg h4, if_neg hs]
      rw [he]
      exact (iget_sum w hv (by omega) hl hs).mono fun e w' ⟨he, hb⟩ => ⟨.slice none 0 0, he, Us.nil _, hb⟩
end Go.Proofs.Ytnlflgannghfpaa
